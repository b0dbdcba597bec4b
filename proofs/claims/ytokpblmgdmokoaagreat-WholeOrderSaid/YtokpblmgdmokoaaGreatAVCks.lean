import Derived.Test.YtokpblmgdmokoaaGreatAVShw
import Derived.Test.YtokpblmgdmokoaaGreatAVIsw
import Derived.Test.YtokpblmgdmokoaaGreatAVDem
set_option maxHeartbeats 4000000
set_option linter.unusedSimpArgs false
set_option linter.unusedVariables false
namespace Go.Proofs.YtokpblmgdmokoaaGreat
open Go.Lib (hid)
open Go.RowKit Go.Maps Go.Shelf
structure RdG (w:World) (A:Option Addr) (n c:Nat) (l:List Rng):Prop where
 len:l.length=n
 cap:n≤c
 nil:A=none→n=0∧c=0
 cells:Cells w A (rcells l)
theorem RdG.below {w w':World} {A:Option Addr} {n c:Nat} {l:List Rng} (h:RdG w A n c l) (hb:Below w.heap.size w w'):RdG w' A n c l:=⟨h.len,h.cap,h.nil,h.cells.below hb⟩
theorem RdG.alloc {w:World} {A:Option Addr} {n c:Nat} {l:List Rng} (h:RdG w A n c l) (o:Obj):RdG (w.alloc o) A n c l:=h.below ((Below.refl _ w).alloc (Nat.le_refl _) o)
theorem RdG.drew {w:World} {A:Option Addr} {n c:Nat} {l:List Rng} (h:RdG w A n c l):RdG w.drew A n c l:=h.below ((Below.refl _ w).drew)
theorem RdG.get {w:World} {A:Option Addr} {n c:Nat} {l:List Rng} (h:RdG w A n c l) {q:Nat} (hq:q<n):∃ b o r,A=some ⟨b,o,none⟩∧b<w.heap.size∧l[q]?=some r∧w.cell? ⟨b,o+q * 2,none⟩=some (.int .i64 r.lo)∧w.cell? ⟨b,o+q * 2+1,none⟩=some (.int .i64 r.hi):=by
 have hl:q<l.length:=by rw [h.len];exact hq
 have hx:=List.getElem?_eq_getElem hl
 have g:=fun j hj=>flat_get (f:=encG) (s:=2) (fun _=>rfl) l q j l[q] hx hj
 rcases h.cells with h0|⟨b,o,e,hlt,hc⟩
 · have:=congrArg List.length h0
   rw [rcells_len,List.length_nil] at this
   omega
 · refine ⟨b,o,l[q],e,hlt,hx,?_,?_⟩
   · have:=hc (q * 2+0) _ (g 0 (by omega));rwa [Nat.add_zero] at this
   · have:=hc (q * 2+1) _ (g 1 (by omega));rwa [← Nat.add_assoc] at this
def shS (ps:List Prt):List Rng→Int→Int→Option Int
 | [],_,sum=>some sum
 | r::l,fr,sum=>if r.lo<fr∨r.hi<r.lo∨1000<r.hi then none else shS ps l (r.hi+1) (sum+demV ps r.lo r.hi)
def shOk (ps:List Prt) (l:List Rng) (n:Int):Bool:=match shS ps l 0 0 with|none=>false|some s=>decide (n≤s)
theorem demV_le {ps:List Prt} (h:ps.length≤40) (c d:Int):0≤demV ps c d∧demV ps c d≤40:=by
 have h1:demF ps c d≤ps.length:=List.countP_le_length
 unfold demV
 split<;>omega
theorem shS_step (ps:List Prt) (l:List Rng) (q:Nat) (r:Rng) (h:l[q]?=some r) (fr sum:Int):shS ps (l.drop q) fr sum=if r.lo<fr∨r.hi<r.lo∨1000<r.hi then none else shS ps (l.drop (q+1)) (r.hi+1) (sum+demV ps r.lo r.hi):=by
 obtain ⟨hk,rfl⟩:=List.getElem?_eq_some_iff.1 h
 rw [List.drop_eq_getElem_cons hk]
 rfl
set_option maxRecDepth 100000 in
theorem Demand_yes (ware:ByteArray) (lim by_:Int) (A:Option Addr) (n k:Nat) (ps:List Prt) (c d:Int) (w:World) (hr:RdP w A n k ps) (hn:n≤maxLen) (hq:chkC ⟨ware,lim,by_,ps⟩=0):Calls Tryz.prog 36 #[.agg #[.string ware,.int .i64 lim,.int .i64 by_,.slice A n k],.agg #[.int .i64 c,.int .i64 d]] w fun e w'=>e=.returned (.tuple #[.int .i64 (demV ps c d),.int .i64 0])∧Below w.heap.size w w':=by
 have HQ:=hid hq;clear hq
 go_enter Tryz.func36,Tryz.ntmps36
 obtain ⟨a0,a1,a2⟩:=ent2 w #[.string ware,.int .i64 lim,.int .i64 by_,.slice A n k] 24 #[.int .i64 c,.int .i64 d] 41
 have a5:=hid (RdP.below (hr) a2.out)
 clear hr
 obtain ⟨b4,b5,b6,b7⟩:=at4 a0
 obtain ⟨b8,a6⟩:=at2 a1
 have hc:=viewOf_yes ware lim by_ A n k ps none 0 0 [] (((w.alloc (.cells #[.string ware,.int .i64 lim,.int .i64 by_,.slice A n k] 24)).alloc (.cells #[.int .i64 c,.int .i64 d] 41))) a5.out (rdI_none _) hn (by unfold maxLen;omega) ((askP_nil _).trans HQ.out)
 have HC:=hid hc;clear hc
 go_wp2_with fail
 refine HC.out.mono ?_
 rintro e a7 ⟨⟨g,rfl,hvw⟩,hb⟩
 have HVW:=hid hvw;clear hvw
 clear HC
 clear b4 b5 b6 b7 b8 a6
 have a3:=hid hb
 clear hb
 replace a0:=kH a0 a3
 obtain ⟨a8,a9,b0,b1⟩:=at4 a0
 replace a1:=kH a1 a3
 obtain ⟨b2,b3⟩:=at2 a1
 have hc:=demand_any g ware lim by_ A n k ps c d (a7) HVW.out
 have HC:=hid hc;clear hc
 go_wp2_with fail
 refine HC.out.mono ?_
 rintro e b9 ⟨rfl,hb⟩
 clear HC
 clear a8 a9 b0 b1 b2 b3
 have a4:=hid hb
 clear hb
 replace a0:=kH a0 a4
 obtain ⟨c0,c1,c2,c3⟩:=at4 a0
 replace a1:=kH a1 a4
 obtain ⟨c4,c5⟩:=at2 a1
 go_wp2
 replace a2:=bH (bH a2 a3) a4
 refine bodyPost_ret (v:=.tuple #[.int .i64 (demV ps c d),.int .i64 0]) (by simp [results,Tryz.results36,go_sem]) rfl ⟨rfl,a2.out⟩
set_option maxRecDepth 100000 in
theorem CheckShow_yes (ware:ByteArray) (lim by_:Int) (A:Option Addr) (n k:Nat) (ps:List Prt) (B:Option Addr) (m d:Nat) (l:List Rng) (N:Int) (w:World) (hr:RdP w A n k ps) (hl:RdG w B m d l) (hn:n≤maxLen) (hm:m≤maxLen) (hq:chkC ⟨ware,lim,by_,ps⟩=0):Calls Tryz.prog 40 #[.agg #[.string ware,.int .i64 lim,.int .i64 by_,.slice A n k],.slice B m d,.int .i64 N] w fun e w'=>e=.returned (.tuple #[.bool (shOk ps l N),.int .i64 0])∧Below w.heap.size w w':=by
 have H40:=hid (show ps.length≤40 from (chkC_ok hq).1)
 have hmn:=hm;unfold maxLen at hmn
 have HQ:=hid hq;clear hq
 have HG0:=hid hl;clear hl
 go_enter Tryz.func40,Tryz.ntmps40
 obtain ⟨a4,a1⟩:=ent1 w #[.string ware,.int .i64 lim,.int .i64 by_,.slice A n k] 24
 have a5:=hid (RdP.below (hr) a1.out)
 clear hr
 obtain ⟨b4,b5,b6,b7⟩:=at4 a4
 have hc:=viewOf_yes ware lim by_ A n k ps none 0 0 [] ((w.alloc (.cells #[.string ware,.int .i64 lim,.int .i64 by_,.slice A n k] 24))) a5.out (rdI_none _) hn (by unfold maxLen;omega) ((askP_nil _).trans HQ.out)
 have HC:=hid hc;clear hc
 go_wp2_with fail
 refine HC.out.mono ?_
 rintro e a9 ⟨⟨g,rfl,hvw⟩,hb⟩
 have HVW:=hid hvw;clear hvw
 clear HC
 clear b4 b5 b6 b7
 have a6:=hid hb
 clear hb
 replace a4:=kH a4 a6
 obtain ⟨b0,b1,b2,b3⟩:=at4 a4
 replace a1:=bH a1 a6
 have HG:=hid (HG0.out.below a1.out);clear HG0
 clear b0 b1 b2 b3
 go_wp2
 replace a5:=hid (RdP.below (a5.out) a6.out)
 go_loopw [24,10,11] (fun s24 s10 s11 wr=>∃ (q:Nat) (fr sum:Int),s24=.int .i64 q∧s10=.int .i64 sum∧s11=.int .i64 fr∧q≤m∧shS ps (l.drop q) fr sum=shS ps l 0 0∧0≤fr∧fr≤1001∧0≤sum∧sum≤40 * fr∧Below a9.heap.size a9 wr) (fun s24 _ _ _=>m-(intOf s24).toNat)
 case atStart=>exact ⟨0,0,0,rfl,rfl,rfl,Nat.zero_le _,rfl,by omega,by omega,by omega,by omega,Below.refl _ _⟩
 case round =>
  obtain ⟨q,fr,sum,rfl,rfl,rfl,hq,hsh,hf0,hf1,hs0,hs1,hb⟩:=hrel
  have HB:=hid hb;have HSH:=hid hsh;clear hb hsh
  by_cases hlt:q<m
  · have hlt':(q:Int)<m:=by omega
    obtain ⟨b9,o9,r,rfl,hb9,hr9,c0,c1⟩:=RdG.get (HG.out.below HB.out) hlt
    have HST:=hid (shS_step ps l q r hr9 fr sum)
    clear hr9
    have hdm:=demV_le H40.out r.lo r.hi
    have a0:=hid (HB.out)
    obtain ⟨o_,ho_⟩:∃ o,o=((.cells #[.int .i64 r.lo,.int .i64 r.hi] 41):Obj):=⟨_,rfl⟩
    replace a0:=bA a0 o_
    subst ho_
    have a2:=hid (Blk.new wr 41 #[.int .i64 r.lo,.int .i64 r.hi])
    obtain ⟨a7,a8⟩:=at2 a2
    by_cases h1:r.lo<fr
    · have HN:=hid (show shS ps l 0 0=none by rw [← HSH.out,HST.out];exact if_pos (Or.inl h1))
      go_wp2
      refine bodyPost_ret (v:=.tuple #[.bool false,.int .i64 0]) (by simp [results,Tryz.results40,go_sem]) rfl ⟨by unfold shOk;rw [HN.out],(a1.out).trans (Below.mono (a0.out) (a1.out).size)⟩
    · by_cases h2:r.hi<r.lo
      · have h2':r.lo > r.hi:=h2
        have HN:=hid (show shS ps l 0 0=none by rw [← HSH.out,HST.out];exact if_pos (Or.inr (Or.inl h2)))
        go_wp2
        refine bodyPost_ret (v:=.tuple #[.bool false,.int .i64 0]) (by simp [results,Tryz.results40,go_sem]) rfl ⟨by unfold shOk;rw [HN.out],(a1.out).trans (Below.mono (a0.out) (a1.out).size)⟩
      · have h2':¬ r.lo > r.hi:=h2
        by_cases h3:1000<r.hi
        · have h3':r.hi > 1000:=h3
          have HN:=hid (show shS ps l 0 0=none by rw [← HSH.out,HST.out];exact if_pos (Or.inr (Or.inr h3)))
          go_wp2
          refine bodyPost_ret (v:=.tuple #[.bool false,.int .i64 0]) (by simp [results,Tryz.results40,go_sem]) rfl ⟨by unfold shOk;rw [HN.out],(a1.out).trans (Below.mono (a0.out) (a1.out).size)⟩
        · have h3':¬ r.hi > 1000:=h3
          have HST2:=hid (show shS ps (l.drop (q+1)) (r.hi+1) (sum+demV ps r.lo r.hi)=shS ps l 0 0 by rw [← HSH.out,HST.out];exact (if_neg (fun h=>h.elim h1 (fun h=>h.elim h2 h3))).symm)
          have hw1:IntKind.i64.wrap (sum+demV ps r.lo r.hi)=sum+demV ps r.lo r.hi:=by rw [IntKind.wrap_i64];omega
          have hw2:IntKind.i64.wrap (r.hi+1)=r.hi+1:=by rw [IntKind.wrap_i64];omega
          have HC:=hid (demand_any g ware lim by_ A n k ps r.lo r.hi ((wr.alloc (.cells #[.int .i64 r.lo,.int .i64 r.hi] 41))) (HVW.out.keep (a0.out)))
          go_wp2_with fail
          refine HC.out.mono ?_
          rintro e w4 ⟨rfl,hb4⟩
          clear HC c0 c1
          clear a7 a8
          have a3:=hid hb4
          clear hb4
          replace a2:=kH a2 a3
          obtain ⟨b8,c2⟩:=at2 a2
          go_wp2
          replace a0:=bH a0 a3
          go_roundw
          case rel=>exact ⟨q+1,r.hi+1,sum+demV ps r.lo r.hi,by go_num,by go_num,by go_num,by omega,HST2.out,by omega,by omega,by omega,by omega,a0.out⟩
          case measure=>simp [intOf];omega
  · obtain rfl:q=m:=by omega
    have HS2:=hid (show shS ps l 0 0=some sum by rw [← HSH.out,List.drop_eq_nil_of_le (by rw [HG.out.len];exact Nat.le_refl _)];rfl)
    obtain ⟨bb,hbb⟩:∃ b:Bool,decide (N≤sum)=b:=⟨_,rfl⟩
    have hbb2:decide (sum ≥ N)=bb:=hbb
    have HBB:=hid (show shOk ps l N=bb by unfold shOk;rw [HS2.out];exact hbb)
    go_wp2
    refine bodyPost_ret (v:=.tuple #[.bool bb,.int .i64 0]) (by simp [results,Tryz.results40,go_sem]) rfl ⟨by rw [HBB.out],(a1.out).trans (HB.out.mono (a1.out).size)⟩
end Go.Proofs.YtokpblmgdmokoaaGreat
