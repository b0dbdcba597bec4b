/- WholeDemands holds: for every case, range, lists and number it returns true. No condition. -/
import Derived.Test.YtokpblmgdmokoaaGreatAVChk
import Derived.Test.YtokpblmgdmokoaaGreatAVOf
import Derived.Test.YtokpblmgdmokoaaGreatAVCks
import Derived.Test.YtokpblmgdmokoaaGreatCVOpn
import Derived.Test.YtokpblmgdmokoaaGreatAVIsw
import Derived.Test.YtokpblmgdmokoaaGreatRows
import Derived.Test.YtokpblmgdmokoaaGreatAVTol
import Derived.Test.YtokpblmgdmokoaaGreatCVRg
set_option maxHeartbeats 4000000
set_option linter.unusedSimpArgs false
set_option linter.unusedVariables false
namespace Go.Proofs.YtokpblmgdmokoaaGreat
open Go.Lib (hid)
open Go.RowKit
def fewP (p:Prt):Bool:=decide (p.sh.length≤60)&&decide (p.rs.length≤250)
def fewB (c:Cse):Bool:=(c.ps.take 50).all fewP&&decide (c.ware.size≤100)&&(decide (c.ps.length≤12) || (decide (38<c.ps.length)&&decide (c.ps.length≤42)))
theorem few_eq {ware:ByteArray} {lim by_:Int} {ps:List Prt}:fewB ⟨ware,lim,by_,ps⟩=((ps.take 50).all fewP&&decide ((ware.size:Int)≤100)&&(decide ((ps.length:Int)≤12) || (decide ((38:Int)<ps.length)&&decide ((ps.length:Int)≤42)))):=by
 unfold fewB
 rw [show decide ((ware.size:Int)≤100)=decide (ware.size≤100) from decide_eq_decide.2 (by omega),show decide ((ps.length:Int)≤12)=decide (ps.length≤12) from decide_eq_decide.2 (by omega),show decide ((38:Int)<ps.length)=decide (38<ps.length) from decide_eq_decide.2 (by omega),show decide ((ps.length:Int)≤42)=decide (ps.length≤42) from decide_eq_decide.2 (by omega)]
theorem few_bad {ware:ByteArray} {lim by_:Int} {ps:List Prt} {q:Nat} {p:Prt} (h:ps[q]?=some p) (hq:q<50) (hp:fewP p=false):fewB ⟨ware,lim,by_,ps⟩=false:=by
 unfold fewB
 have:(ps.take 50).all fewP=false:=by
  rw [List.all_eq_false]
  exact ⟨p,List.mem_of_getElem? (by rw [List.getElem?_take_of_lt hq];exact h),by simp [hp]⟩
 rw [show (Cse.mk ware lim by_ ps).ps=ps from rfl,this]
 rfl
set_option maxRecDepth 100000 in
theorem few_any (ware:ByteArray) (lim by_:Int) (A:Option Addr) (n k:Nat) (ps:List Prt) (w:World) (hr:RdP w A n k ps) (hn:n≤maxLen):Calls Tryz.prog 16 #[.agg #[.string ware,.int .i64 lim,.int .i64 by_,.slice A n k]] w fun e w'=>e=.returned (.bool (fewB ⟨ware,lim,by_,ps⟩))∧Below w.heap.size w w':=by
 have HRL:=hid hr.len
 have HR:=hid hr;clear hr
 unfold maxLen at hn
 go_enter Tryz.func16,Tryz.ntmps16
 obtain ⟨a1,a0⟩:=ent1 w #[.string ware,.int .i64 lim,.int .i64 by_,.slice A n k] 24
 obtain ⟨a3,a4,a5,a6⟩:=at4 a1
 go_wp2
 clear a3 a4 a5 a6
 obtain ⟨w2,hw2⟩:∃ v,v=(w.alloc (.cells #[.string ware,.int .i64 lim,.int .i64 by_,.slice A n k] 24)):=⟨_,rfl⟩
 rw [← hw2] at a0 a1 ⊢
 clear hw2
 obtain ⟨a7,a8,a9,a2⟩:=at4 a1
 go_loop [3] (fun i=>∃ q:Nat,q≤n∧q≤50∧i=.int .i64 q∧(ps.take q).all fewP=true) (fun i=>n-(intOf i).toNat)
 case atStart=>exact ⟨0,Nat.zero_le _,Nat.zero_le _,rfl,by simp⟩
 case round =>
  obtain ⟨q,hq,hq5,rfl,hall⟩:=hrel
  have HALL:=hid hall;clear hall
  by_cases hlt:q<n
  · have hlt':(q:Int)<n:=by omega
    by_cases h50:(q:Int)<50
    · obtain ⟨b,o,p,x,rfl,hbw,hx,hok,g0,-,-,-,-,-,-,g7⟩:=RdP.get HR.out hlt
      clear a7 a8 a9 a2
      obtain ⟨b0,b1,b2,b3⟩:=at4 a1
      have c0:=(Below.cell a0.out (p:=⟨b,_,none⟩) hbw).trans g0
      have c7:=(Below.cell a0.out (p:=⟨b,_,none⟩) hbw).trans g7
      clear g0 g7
      have hbw2:b<(w2).heap.size:=Nat.lt_of_lt_of_le hbw (Below.size a0.out)
      have LA:=hid hok.1.len;have LB:=hid hok.2.1.len;clear hok
      have HX:=hid hx;clear hx
      have HTK:=hid (show ps.take (q+1)=ps.take q++[p] by rw [List.take_add_one,HX.out];rfl)
      by_cases h60:(60:Int)<x.n
      · have HB:=hid (show fewP p=false by unfold fewP;rw [decide_eq_false (by rw [LA.out];omega)];rfl)
        go_wp2
        go_ret
        exact ⟨ret_bool ((few_bad HX.out (by omega) HB.out).symm),a0.out⟩
      · by_cases h250:(250:Int)<x.m
        · have HB:=hid (show fewP p=false by unfold fewP;rw [decide_eq_false (p:=p.rs.length≤250) (by rw [LB.out];omega),Bool.and_false])
          go_wp2
          go_ret
          exact ⟨ret_bool ((few_bad HX.out (by omega) HB.out).symm),a0.out⟩
        · have HB:=hid (show fewP p=true by unfold fewP;rw [decide_eq_true (by rw [LA.out];omega),decide_eq_true (by rw [LB.out];omega)];rfl)
          go_wp2
          go_round
          case rel=>exact ⟨q+1,by omega,by omega,by go_num,by rw [HTK.out,List.all_append,HALL.out];simp [HB.out]⟩
          case measure=>simp [intOf];omega
    · obtain rfl:q=50:=by omega
      have b4:¬ (n:Int)≤12:=by omega
      have b5:(38:Int)<n:=by omega
      have b6:¬ (n:Int)≤42:=by omega
      have HF:=hid (show (ps.take 50).all fewP=true by have:=HALL.out;exact this)
      by_cases hw:(ware.size:Int)≤100
      · go_wp2
        go_ret
        exact ⟨ret_bool (by rw [few_eq,HF.out,HRL.out,decide_eq_true hw,decide_eq_false (by omega),decide_eq_true (p:=(38:Int)<n) (by omega),decide_eq_false (by omega)];rfl),a0.out⟩
      · go_wp2
        go_ret
        exact ⟨ret_bool (by rw [few_eq,HF.out,HRL.out,decide_eq_false (p:=(ware.size:Int)≤100) (by omega)];rfl),a0.out⟩
  · obtain rfl:n=q:=by omega
    have hlt':¬ (n:Int)<n:=by omega
    have HF:=hid (show (ps.take 50).all fewP=true by have:=HALL.out;rw [List.take_of_length_le (by have:=HRL.out;omega)] at this ⊢;exact this)
    by_cases hw:(ware.size:Int)≤100
    · by_cases h12:(n:Int)≤12
      · go_wp2
        go_ret
        exact ⟨ret_bool (by rw [few_eq,HF.out,HRL.out,decide_eq_true hw,decide_eq_true h12];rfl),a0.out⟩
      · by_cases h38:(38:Int)<n
        · by_cases h42:(n:Int)≤42
          · go_wp2
            go_ret
            exact ⟨ret_bool (by rw [few_eq,HF.out,HRL.out,decide_eq_true hw,decide_eq_false (by omega),decide_eq_true h38,decide_eq_true h42];rfl),a0.out⟩
          · go_wp2
            go_ret
            exact ⟨ret_bool (by rw [few_eq,HF.out,HRL.out,decide_eq_true hw,decide_eq_false (by omega),decide_eq_true h38,decide_eq_false (by omega)];rfl),a0.out⟩
        · go_wp2
          go_ret
          exact ⟨ret_bool (by rw [few_eq,HF.out,HRL.out,decide_eq_true hw,decide_eq_false (by omega),decide_eq_false (by omega)];rfl),a0.out⟩
    · go_wp2
      go_ret
      exact ⟨ret_bool (by rw [few_eq,HF.out,HRL.out,decide_eq_false (p:=(ware.size:Int)≤100) (by omega)];rfl),a0.out⟩
theorem few_is (ware:ByteArray) (lim by_:Int) (A:Option Addr) (n k:Nat) (ps:List Prt) (w:World) (hr:RdP w A n k ps) (hn:n≤maxLen) (v:Bool) (hv:fewB ⟨ware,lim,by_,ps⟩=v):Calls Tryz.prog 16 #[.agg #[.string ware,.int .i64 lim,.int .i64 by_,.slice A n k]] w fun e w'=>e=.returned (.bool v)∧Below w.heap.size w w':=by
 subst hv
 exact few_any ware lim by_ A n k ps w hr hn
open Go.RowKit Go.Maps
section
variable {w w':World} {g:Nat} {ware:ByteArray} {lim by_:Int} {A:Option Addr} {n k:Nat} {ps:List Prt}
end
set_option maxRecDepth 100000 in
theorem vof_bad (ware:ByteArray) (lim by_:Int) (A:Option Addr) (n k:Nat) (ps:List Prt) (B:Option Addr) (m d:Nat) (l:List Int) (w:World) (hr:RdP w A n k ps) (hl:RdI w B m d l) (hn:n≤maxLen) (hm:m≤maxLen) (q:Int) (hq:chkC ⟨ware,lim,by_,ps⟩=q) (hne:q≠0):Calls Tryz.prog 67 #[.agg #[.string ware,.int .i64 lim,.int .i64 by_,.slice A n k],.slice B m d] w fun e w'=>e=.returned (.tuple #[.pointer none,.int .i64 q])∧Below w.heap.size w w':=by
 have HC0:=hid hq;clear hq
 go_enter Tryz.func67,Tryz.ntmps67
 obtain ⟨a1,a0⟩:=ent1 w #[.string ware,.int .i64 lim,.int .i64 by_,.slice A n k] 24
 have a3:=hid (RdP.below (hr) a0.out)
 have a8:=iI hl a0
 clear hr hl
 obtain ⟨a4,a5,a6,a7⟩:=at4 a1
 have hc:=vchk_is ware lim by_ A n k ps ((w.alloc (.cells #[.string ware,.int .i64 lim,.int .i64 by_,.slice A n k] 24))) a3.out hn _ HC0.out
 have HC:=hid hc;clear hc
 go_wp2_with fail
 refine HC.out.mono ?_
 rintro e b3 ⟨rfl,hb⟩
 clear HC
 clear a4 a5 a6 a7
 have a2:=hid hb
 clear hb
 replace a1:=kH a1 a2
 obtain ⟨a9,b0,b1,b2⟩:=at4 a1
 go_wp2
 go_ret2
 replace a0:=bH a0 a2
 exact ⟨rfl,a0.out⟩
set_option maxRecDepth 100000 in
theorem vof_no (ware:ByteArray) (lim by_:Int) (A:Option Addr) (n k:Nat) (ps:List Prt) (B:Option Addr) (m d:Nat) (l:List Int) (w:World) (hr:RdP w A n k ps) (hl:RdI w B m d l) (hn:n≤maxLen) (hm:m≤maxLen) (hq:chkC ⟨ware,lim,by_,ps⟩=0) (hbad:¬ ∀ x∈l,inR x 0 ((n:Int)-1)=true):Calls Tryz.prog 67 #[.agg #[.string ware,.int .i64 lim,.int .i64 by_,.slice A n k],.slice B m d] w fun e w'=>e=.returned (.tuple #[.pointer none,.int .i64 1])∧Below w.heap.size w w':=by
 have h40:n≤40:=by have:=(chkC_ok hq).1;rw [hr.len] at this;exact this
 have HC0:=hid hq;have HBAD:=hid hbad;clear hq hbad
 have hmn:=hm;unfold maxLen at hmn
 go_enter Tryz.func67,Tryz.ntmps67
 obtain ⟨a1,a0⟩:=ent1 w #[.string ware,.int .i64 lim,.int .i64 by_,.slice A n k] 24
 have a3:=hid (RdP.below (hr) a0.out)
 have a6:=iI hl a0
 clear hr hl
 obtain ⟨b3,b4,b5,b6⟩:=at4 a1
 have hc:=vchk_is ware lim by_ A n k ps ((w.alloc (.cells #[.string ware,.int .i64 lim,.int .i64 by_,.slice A n k] 24))) a3.out hn _ HC0.out
 have HC:=hid hc;clear hc
 go_wp2_with fail
 refine HC.out.mono ?_
 rintro e c2 ⟨rfl,hb⟩
 clear HC
 clear b3 b4 b5 b6
 have a2:=hid hb
 clear hb
 replace a1:=kH a1 a2
 obtain ⟨a9,b0,b1,b2⟩:=at4 a1
 go_wp2
 clear a9 b0 b1 b2
 replace a0:=bH a0 a2
 replace a3:=hid (RdP.below (a3.out) a2.out)
 replace a6:=iH a6 a2
 go_loopw [16] (fun i wr=>∃ q:Nat,q≤m∧i=.int .i64 q∧(∀ x∈l.take q,inR x 0 ((n:Int)-1)=true)∧Blk wr w.heap.size 24 #[.string ware,.int .i64 lim,.int .i64 by_,.slice A n k]∧RdI wr B m d l∧RdP wr A n k ps∧Below w.heap.size w wr) (fun i _=>m-(intOf i).toNat)
 case atStart=>exact ⟨0,Nat.zero_le _,rfl,by simp,a1.out,a6.out,a3.out,a0.out⟩
 case round =>
  clear a0 a3 a6 a1
  obtain ⟨q,hq,rfl,hall,hbc,hrb,hrp,hbe⟩:=hrel
  have HALL:=hid hall;clear hall
  have a5:=hid (hbe)
  have a7:=hid (hbc)
  have a4:=hid (hrb)
  have a8:=hid (hrp)
  clear hbe hbc hrb hrp
  by_cases hlt:q<m
  · have hlt':(q:Int)<m:=by omega
    obtain ⟨b9,o9,v,rfl,hb9,hv,e0⟩:=RdI.get a4.out hlt
    have HV:=hid hv;clear hv
    obtain ⟨b7,b8,c0,c1⟩:=at4 a7
    cases hin:inR v 0 ((n:Int)-1)
    · have HIN:=hid hin;clear hin
      have HC:=hid (vwithin_is v 0 ((n:Int)-1) _ HIN.out wr)
      go_wp2_with fail
      refine HC.out.mono ?_
      rintro e _ ⟨rfl,rfl⟩
      clear HC
      go_wp2
      go_ret2
      exact ⟨rfl,a5.out⟩
    · have HIN:=hid hin;clear hin
      have HC:=hid (vwithin_is v 0 ((n:Int)-1) _ HIN.out wr)
      go_wp2_with fail
      refine HC.out.mono ?_
      rintro e _ ⟨rfl,rfl⟩
      clear HC
      go_wp2
      go_roundw
      case rel=>exact ⟨q+1,by omega,by go_num,by rw [List.take_add_one,HV.out];intro z hz;rcases List.mem_append.1 hz with hz|hz;exact HALL.out z hz;obtain rfl:=List.mem_singleton.1 hz;exact HIN.out,a7.out,a4.out,a8.out,a5.out⟩
      case measure=>simp [intOf];omega
  · obtain rfl:q=m:=by omega
    have hln:=a4.out.len
    have HA2:=hid (show ∀ x∈l,inR x 0 ((n:Int)-1)=true by have:=HALL.out;rwa [List.take_of_length_le (by omega)] at this)
    clear hln HALL
    exact absurd HA2.out HBAD.out
theorem askP_no {c:Cse} {l:List Int} {q:Int} (h:askP c l=q) (hne:q≠0):(chkC c=q∧chkC c≠0)∨(chkC c=0∧q=1∧¬ ∀ x∈l,inR x 0 ((c.ps.length:Int)-1)=true):=by
 unfold askP at h
 split at h
 · rename_i h1;exact Or.inl ⟨h,h1⟩
 · rename_i h1
   split at h
   · exact absurd h.symm hne
   · rename_i h2
     exact Or.inr ⟨by simpa using h1,h.symm,fun h3=>h2 (List.all_eq_true.2 h3)⟩
theorem viewOf_no (ware:ByteArray) (lim by_:Int) (A:Option Addr) (n k:Nat) (ps:List Prt) (B:Option Addr) (m d:Nat) (l:List Int) (w:World) (hr:RdP w A n k ps) (hl:RdI w B m d l) (hn:n≤maxLen) (hm:m≤maxLen) (q:Int) (hq:askP ⟨ware,lim,by_,ps⟩ l=q) (hne:q≠0):Calls Tryz.prog 67 #[.agg #[.string ware,.int .i64 lim,.int .i64 by_,.slice A n k],.slice B m d] w fun e w'=>e=.returned (.tuple #[.pointer none,.int .i64 q])∧Below w.heap.size w w':=by
 rcases askP_no hq hne with ⟨h1,h2⟩|⟨h1,rfl,h3⟩
 · exact vof_bad ware lim by_ A n k ps B m d l w hr hl hn hm q h1 hne
 · exact vof_no ware lim by_ A n k ps B m d l w hr hl hn hm h1 (by have:=hr.len;simp only [this] at h3;exact h3)
end Go.Proofs.YtokpblmgdmokoaaGreat
namespace Go.Proofs.YtokpblmgdmokoaaGreat
open Go.Lib (hid)
open Go.ChangeShapes Go.WideShapes Go.ChangeAt Go.RowKit
set_option maxRecDepth 100000
section
variable {H:Type} {enc:TypeId × Value→H} {W:World} {base:Nat} {sp:Nat→Bool} {held:Bool}
theorem one_rng {m:Nat} {cs:List Value} {x:DataW H × List MemPlace} (h:DataW.trod enc Tryz.prog W base sp held m 41 cs=some x) (hl:cs.length=2):∃ b:Rng,cs=(encG b):=by
 obtain ⟨y0,y1,k,-,-,h0,h1⟩:=trod_struct2 Tryz.underlying41 h
 match cs,hl with
 | [c0,c1],_ =>
  have k1:Tryz.prog.cellsOf 3=1:=by kernel_rfl
  simp only [k1,List.drop_zero,List.take_succ_cons,List.take_zero,List.drop_succ_cons] at h0 h1
  obtain ⟨a0,e0,-,-⟩:=DataW.trod_int Tryz.underlying3 h0
  obtain ⟨a1,e1,-,-⟩:=DataW.trod_int Tryz.underlying3 h1
  simp only [List.cons.injEq,and_true] at e0 e1
  subst e0 e1
  exact ⟨⟨a0,a1⟩,rfl⟩
theorem open_rngs_ {m:Nat} {v:Value} {x:DataW H × List MemPlace} (h:DataW.trod enc Tryz.prog W base sp held m 51 [v]=some x):∃ A n c l,v=.slice A n c∧RdG W A n c l∧n≤maxLen:=by
 have hC:Tryz.prog.cellsOf 41=2:=by kernel_rfl
 rcases Go.Deep.open_slice Tryz.underlying51 h with ⟨hcs,-⟩|⟨a,len,cap,m',n,D,Pl,hcs,hb,hl,hm,hmm,hx,hi⟩
 · simp only [List.cons.injEq,and_true] at hcs
   exact ⟨none,0,0,[],hcs,⟨rfl,Nat.le_refl _,fun _=>⟨rfl,rfl⟩,.inl rfl⟩,Nat.zero_le _⟩
 · simp only [List.cons.injEq,and_true] at hcs
   have hle:len≤m':=by rw [hmm];split<;>omega
   rw [hC] at hi
   obtain ⟨X,hX⟩:=Go.Deep.choose_lt (α:=Rng) (n:=len) (p:=fun i b=>∀ j,j<2→W.cell? (a.add (i * 2+j))=(encG b)[j]?) (fun i hil=>by
    obtain ⟨cs',g1,g2⟩:=hi i (by omega)
    obtain ⟨-,g3,g4⟩:=World.cells?_some g1
    obtain ⟨b,rfl⟩:=one_rng g2 g3
    refine ⟨b,fun j hj=>?_⟩
    have:=g4 j hj
    rw [Go.Deep.add_add] at this
    exact this)
   refine ⟨some a,len,cap,(List.range len).map X,hcs,⟨by simp,hl,(fun h=>by cases h),?_⟩,by omega⟩
   by_cases h0:len=0
   · subst h0;exact .inl rfl
   · obtain ⟨ab,ao,asp⟩:=a
     have z:=hX 0 (by omega) 0 (by omega)
     have hs:asp=none:=by simpa [Addr.add] using World.cell?_spot (z.trans (show (encG (X 0))[0]?=some (.int .i64 (X 0).lo) from rfl))
     subst hs
     have hlt:ab<W.heap.size:=by simpa [Addr.add] using cell_low (z.trans (show (encG (X 0))[0]?=some (.int .i64 (X 0).lo) from rfl))
     refine .inr ⟨ab,ao,rfl,hlt,fun j u hu=>?_⟩
     have hj:j<len * 2:=by
      have:=(List.getElem?_eq_some_iff.1 hu).1
      rw [rcells_len] at this
      simpa using this
     have e:j / 2 * 2+j % 2=j:=by omega
     have hlk:((List.range len).map X)[j / 2]?=some (X (j / 2)):=by
      rw [List.getElem?_map,List.getElem?_range (by omega)]
      rfl
     have h1:=flat_get (f:=encG) (s:=2) (fun _=>rfl) ((List.range len).map X) (j / 2) (j % 2) _ hlk (Nat.mod_lt _ (by omega))
     rw [e] at h1
     have h2:=hX (j / 2) (by omega) (j % 2) (Nat.mod_lt _ (by omega))
     rw [e,add_flat] at h2
     rw [h2,← h1];exact hu
theorem open_rngs {v:Value} {d:DataW H} {p:List MemPlace} {r:Reach} {b0:Nat} (hv:Value.okWide Tryz.prog W r b0 51 v) (h:DataW.Trod enc Tryz.prog W base sp held 51 v d p) :
 ∃ A n c l,v=.slice A n c∧RdG W A n c l∧n≤maxLen:=by
 obtain ⟨a,len,cap,rfl⟩:=okWide_slice Tryz.underlying51 hv
 obtain ⟨fuel,hf⟩:=h
 exact open_rngs_ (v:=.slice a len cap) (by simpa [Value.cells] using hf)
theorem open_rng {r:Reach} {b0:Nat} {v:Value} {d:DataW H} {p:List MemPlace} (hv:Value.okWide Tryz.prog W r b0 41 v) (h:DataW.Trod enc Tryz.prog W base sp held 41 v d p) :
 ∃ f t,v=.agg #[.int .i64 f,.int .i64 t]:=by
 obtain ⟨v0,v1,y0,y1,m,rfl,-,-,h0,h1⟩:=Go.Joins.open_agg2 Tryz.underlying41 (by kernel_rfl) (by kernel_rfl) hv h
 obtain ⟨a0,e0,-,-⟩:=DataW.trod_int Tryz.underlying3 h0
 obtain ⟨a1,e1,-,-⟩:=DataW.trod_int Tryz.underlying3 h1
 simp only [List.cons.injEq,and_true] at e0 e1
 subst e0 e1
 exact ⟨a0,a1,rfl⟩
end
end Go.Proofs.YtokpblmgdmokoaaGreat
namespace Go.Proofs.YtokpblmgdmokoaaGreat
open Go.Lib (hid)
open Go.RowKit Go.Maps Go.Shelf
set_option maxRecDepth 100000 in
theorem Demand_no (ware:ByteArray) (lim by_:Int) (A:Option Addr) (n k:Nat) (ps:List Prt) (c d:Int) (w:World) (hr:RdP w A n k ps) (hn:n≤maxLen) (q:Int) (hq:chkC ⟨ware,lim,by_,ps⟩=q) (hne:q≠0):Calls Tryz.prog 36 #[.agg #[.string ware,.int .i64 lim,.int .i64 by_,.slice A n k],.agg #[.int .i64 c,.int .i64 d]] w fun e w'=>e=.returned (.tuple #[.int .i64 0,.int .i64 q])∧Below w.heap.size w w':=by
 have HQ:=hid hq;clear hq
 go_enter Tryz.func36,Tryz.ntmps36
 obtain ⟨a1,a2,a0⟩:=ent2 w #[.string ware,.int .i64 lim,.int .i64 by_,.slice A n k] 24 #[.int .i64 c,.int .i64 d] 41
 have a4:=hid (RdP.below (hr) a0.out)
 clear hr
 obtain ⟨a6,a7,a8,a9⟩:=at4 a1
 obtain ⟨b0,a5⟩:=at2 a2
 have hc:=viewOf_no ware lim by_ A n k ps none 0 0 [] (((w.alloc (.cells #[.string ware,.int .i64 lim,.int .i64 by_,.slice A n k] 24)).alloc (.cells #[.int .i64 c,.int .i64 d] 41))) a4.out (rdI_none _) hn (by unfold maxLen;omega) q ((askP_nil _).trans HQ.out) hne
 have HC:=hid hc;clear hc
 go_wp2_with fail
 refine HC.out.mono ?_
 rintro e b1 ⟨rfl,hb⟩
 clear HC
 clear a6 a7 a8 a9 b0 a5
 have a3:=hid hb
 clear hb
 replace a1:=kH a1 a3
 obtain ⟨b2,b3,b4,b5⟩:=at4 a1
 replace a2:=kH a2 a3
 obtain ⟨b6,b7⟩:=at2 a2
 go_wp2
 replace a0:=bH a0 a3
 refine bodyPost_ret (v:=.tuple #[.int .i64 0,.int .i64 q]) (by simp [results,Tryz.results36,go_sem]) rfl ⟨rfl,a0.out⟩
set_option maxRecDepth 100000 in
theorem CheckShow_no (ware:ByteArray) (lim by_:Int) (A:Option Addr) (n k:Nat) (ps:List Prt) (B:Option Addr) (m d:Nat) (l:List Rng) (N:Int) (w:World) (hr:RdP w A n k ps) (hl:RdG w B m d l) (hn:n≤maxLen) (hm:m≤maxLen) (q:Int) (hq:chkC ⟨ware,lim,by_,ps⟩=q) (hne:q≠0):Calls Tryz.prog 40 #[.agg #[.string ware,.int .i64 lim,.int .i64 by_,.slice A n k],.slice B m d,.int .i64 N] w fun e w'=>e=.returned (.tuple #[.bool false,.int .i64 q])∧Below w.heap.size w w':=by
 have HQ:=hid hq;clear hq
 have HG0:=hid hl;clear hl
 go_enter Tryz.func40,Tryz.ntmps40
 obtain ⟨a1,a0⟩:=ent1 w #[.string ware,.int .i64 lim,.int .i64 by_,.slice A n k] 24
 have a3:=hid (RdP.below (hr) a0.out)
 clear hr
 obtain ⟨a4,a5,a6,a7⟩:=at4 a1
 have hc:=viewOf_no ware lim by_ A n k ps none 0 0 [] ((w.alloc (.cells #[.string ware,.int .i64 lim,.int .i64 by_,.slice A n k] 24))) a3.out (rdI_none _) hn (by unfold maxLen;omega) q ((askP_nil _).trans HQ.out) hne
 have HC:=hid hc;clear hc
 go_wp2_with fail
 refine HC.out.mono ?_
 rintro e b2 ⟨rfl,hb⟩
 clear HC
 clear a4 a5 a6 a7
 have a2:=hid hb
 clear hb
 replace a1:=kH a1 a2
 obtain ⟨a8,a9,b0,b1⟩:=at4 a1
 go_wp2
 replace a0:=bH a0 a2
 refine bodyPost_ret (v:=.tuple #[.bool false,.int .i64 q]) (by simp [results,Tryz.results40,go_sem]) rfl ⟨rfl,a0.out⟩
set_option maxRecDepth 100000 in
theorem CheckWitness_no (ware:ByteArray) (lim by_:Int) (A:Option Addr) (n k:Nat) (ps:List Prt) (B:Option Addr) (m d:Nat) (l:List Int) (w:World) (hr:RdP w A n k ps) (hl:RdI w B m d l) (hn:n≤maxLen) (hm:m≤maxLen) (q:Int) (hq:chkC ⟨ware,lim,by_,ps⟩=q) (hne:q≠0):Calls Tryz.prog 38 #[.agg #[.string ware,.int .i64 lim,.int .i64 by_,.slice A n k],.slice B m d] w fun e w'=>e=.returned (.tuple #[.bool false,.int .i64 q])∧Below w.heap.size w w':=by
 have HQ:=hid hq;clear hq
 go_enter Tryz.func38,Tryz.ntmps38
 obtain ⟨a1,a0⟩:=ent1 w #[.string ware,.int .i64 lim,.int .i64 by_,.slice A n k] 24
 have a3:=hid (RdP.below (hr) a0.out)
 have a8:=iI hl a0
 clear hr hl
 obtain ⟨a4,a5,a6,a7⟩:=at4 a1
 have hc:=viewOf_no ware lim by_ A n k ps none 0 0 [] ((w.alloc (.cells #[.string ware,.int .i64 lim,.int .i64 by_,.slice A n k] 24))) a3.out (rdI_none _) hn (by unfold maxLen;omega) q ((askP_nil _).trans HQ.out) hne
 have HC:=hid hc;clear hc
 go_wp2_with fail
 refine HC.out.mono ?_
 rintro e b3 ⟨rfl,hb⟩
 clear HC
 clear a4 a5 a6 a7
 have a2:=hid hb
 clear hb
 replace a1:=kH a1 a2
 obtain ⟨a9,b0,b1,b2⟩:=at4 a1
 go_wp2
 replace a0:=bH a0 a2
 refine bodyPost_ret (v:=.tuple #[.bool false,.int .i64 q]) (by simp [results,Tryz.results38,go_sem]) rfl ⟨rfl,a0.out⟩
end Go.Proofs.YtokpblmgdmokoaaGreat
namespace Go.Proofs.YtokpblmgdmokoaaGreat
open Go.Lib (hid)
open Go.ChangeShapes Go.WideShapes Go.ChangeAt Go.RowKit
set_option maxRecDepth 100000 in
theorem wd_w1 (w:World) (ware:ByteArray) (lim by_:Int) (A:Option Addr) (n k:Nat) (ps:List Prt) (c d:Int) (B:Option Addr) (m e:Nat) (l:List Int) (D:Option Addr) (m2 e2:Nat) (r:List Rng) (N:Int) (hr:RdP w A n k ps) (hn:n≤maxLen) (hl:RdI w B m e l) (hm:m≤maxLen) (hg:RdG w D m2 e2 r) (hm2:m2≤maxLen) (hf:fewB ⟨ware,lim,by_,ps⟩=false):Calls Tryz.prog 6 #[.agg #[.string ware,.int .i64 lim,.int .i64 by_,.slice A n k],.agg #[.int .i64 c,.int .i64 d],.slice B m e,.slice D m2 e2,.int .i64 N] w fun e w'=>e=.returned (.bool true)∧Below w.heap.size w w':=by
 have HF:=hid hf;clear hf
 go_enter Tryz.func6,Tryz.ntmps6
 obtain ⟨a1,a2,a0⟩:=ent2 w #[.string ware,.int .i64 lim,.int .i64 by_,.slice A n k] 24 #[.int .i64 c,.int .i64 d] 41
 have a5:=hid (RdP.below (hr) a0.out)
 have b9:=iI hl a0
 have c0:=hid (RdG.below (hg) a0.out)
 clear hr hl hg
 obtain ⟨b6,b7,b8,a6⟩:=at4 a1
 obtain ⟨a7,a8⟩:=at2 a2
 have hc:=few_is ware lim by_ A n k ps (((w.alloc (.cells #[.string ware,.int .i64 lim,.int .i64 by_,.slice A n k] 24)).alloc (.cells #[.int .i64 c,.int .i64 d] 41))) a5.out hn _ HF.out
 have HC:=hid hc;clear hc
 go_wp2_with fail
 refine HC.out.mono ?_
 rintro e a9 ⟨rfl,hb⟩
 clear HC
 clear b6 b7 b8 a6 a7 a8
 have a3:=hid hb
 clear hb
 replace a1:=kH a1 a3
 obtain ⟨b0,b1,b2,b3⟩:=at4 a1
 replace a2:=kH a2 a3
 obtain ⟨b4,b5⟩:=at2 a2
 have hc:=told_any (a9)
 have HC:=hid hc;clear hc
 go_wp2_with fail
 refine HC.out.mono ?_
 rintro e c1 ⟨rfl,hb⟩
 clear HC
 clear b0 b1 b2 b3 b4 b5
 have a4:=hid hb
 clear hb
 replace a1:=kH a1 a4
 obtain ⟨c2,c3,c4,c5⟩:=at4 a1
 replace a2:=kH a2 a4
 obtain ⟨c6,c7⟩:=at2 a2
 go_wp2
 go_ret
 replace a0:=bH (bH a0 a3) a4
 exact ⟨rfl,a0.out⟩
set_option maxRecDepth 100000 in
theorem wd_w2 (w:World) (ware:ByteArray) (lim by_:Int) (A:Option Addr) (n k:Nat) (ps:List Prt) (c d:Int) (B:Option Addr) (m e:Nat) (l:List Int) (D:Option Addr) (m2 e2:Nat) (r:List Rng) (N:Int) (hr:RdP w A n k ps) (hn:n≤maxLen) (hl:RdI w B m e l) (hm:m≤maxLen) (hg:RdG w D m2 e2 r) (hm2:m2≤maxLen) (hf:fewB ⟨ware,lim,by_,ps⟩=true) (h60:(60:Int)<m):Calls Tryz.prog 6 #[.agg #[.string ware,.int .i64 lim,.int .i64 by_,.slice A n k],.agg #[.int .i64 c,.int .i64 d],.slice B m e,.slice D m2 e2,.int .i64 N] w fun e w'=>e=.returned (.bool true)∧Below w.heap.size w w':=by
 have HF:=hid hf;clear hf
 go_enter Tryz.func6,Tryz.ntmps6
 obtain ⟨a1,a2,a0⟩:=ent2 w #[.string ware,.int .i64 lim,.int .i64 by_,.slice A n k] 24 #[.int .i64 c,.int .i64 d] 41
 have a5:=hid (RdP.below (hr) a0.out)
 have b9:=iI hl a0
 have c0:=hid (RdG.below (hg) a0.out)
 clear hr hl hg
 obtain ⟨b6,b7,b8,a6⟩:=at4 a1
 obtain ⟨a7,a8⟩:=at2 a2
 have hc:=few_is ware lim by_ A n k ps (((w.alloc (.cells #[.string ware,.int .i64 lim,.int .i64 by_,.slice A n k] 24)).alloc (.cells #[.int .i64 c,.int .i64 d] 41))) a5.out hn _ HF.out
 have HC:=hid hc;clear hc
 go_wp2_with fail
 refine HC.out.mono ?_
 rintro e a9 ⟨rfl,hb⟩
 clear HC
 clear b6 b7 b8 a6 a7 a8
 have a3:=hid hb
 clear hb
 replace a1:=kH a1 a3
 obtain ⟨b0,b1,b2,b3⟩:=at4 a1
 replace a2:=kH a2 a3
 obtain ⟨b4,b5⟩:=at2 a2
 have hc:=told_any (a9)
 have HC:=hid hc;clear hc
 go_wp2_with fail
 refine HC.out.mono ?_
 rintro e c1 ⟨rfl,hb⟩
 clear HC
 clear b0 b1 b2 b3 b4 b5
 have a4:=hid hb
 clear hb
 replace a1:=kH a1 a4
 obtain ⟨c2,c3,c4,c5⟩:=at4 a1
 replace a2:=kH a2 a4
 obtain ⟨c6,c7⟩:=at2 a2
 go_wp2
 go_ret
 replace a0:=bH (bH a0 a3) a4
 exact ⟨rfl,a0.out⟩
set_option maxRecDepth 100000 in
theorem wd_w3 (w:World) (ware:ByteArray) (lim by_:Int) (A:Option Addr) (n k:Nat) (ps:List Prt) (c d:Int) (B:Option Addr) (m e:Nat) (l:List Int) (D:Option Addr) (m2 e2:Nat) (r:List Rng) (N:Int) (hr:RdP w A n k ps) (hn:n≤maxLen) (hl:RdI w B m e l) (hm:m≤maxLen) (hg:RdG w D m2 e2 r) (hm2:m2≤maxLen) (hf:fewB ⟨ware,lim,by_,ps⟩=true) (h60:¬ (60:Int)<m) (h61:(60:Int)<m2):Calls Tryz.prog 6 #[.agg #[.string ware,.int .i64 lim,.int .i64 by_,.slice A n k],.agg #[.int .i64 c,.int .i64 d],.slice B m e,.slice D m2 e2,.int .i64 N] w fun e w'=>e=.returned (.bool true)∧Below w.heap.size w w':=by
 have HF:=hid hf;clear hf
 go_enter Tryz.func6,Tryz.ntmps6
 obtain ⟨a1,a2,a0⟩:=ent2 w #[.string ware,.int .i64 lim,.int .i64 by_,.slice A n k] 24 #[.int .i64 c,.int .i64 d] 41
 have a5:=hid (RdP.below (hr) a0.out)
 have b9:=iI hl a0
 have c0:=hid (RdG.below (hg) a0.out)
 clear hr hl hg
 obtain ⟨b6,b7,b8,a6⟩:=at4 a1
 obtain ⟨a7,a8⟩:=at2 a2
 have hc:=few_is ware lim by_ A n k ps (((w.alloc (.cells #[.string ware,.int .i64 lim,.int .i64 by_,.slice A n k] 24)).alloc (.cells #[.int .i64 c,.int .i64 d] 41))) a5.out hn _ HF.out
 have HC:=hid hc;clear hc
 go_wp2_with fail
 refine HC.out.mono ?_
 rintro e a9 ⟨rfl,hb⟩
 clear HC
 clear b6 b7 b8 a6 a7 a8
 have a3:=hid hb
 clear hb
 replace a1:=kH a1 a3
 obtain ⟨b0,b1,b2,b3⟩:=at4 a1
 replace a2:=kH a2 a3
 obtain ⟨b4,b5⟩:=at2 a2
 have hc:=told_any (a9)
 have HC:=hid hc;clear hc
 go_wp2_with fail
 refine HC.out.mono ?_
 rintro e c1 ⟨rfl,hb⟩
 clear HC
 clear b0 b1 b2 b3 b4 b5
 have a4:=hid hb
 clear hb
 replace a1:=kH a1 a4
 obtain ⟨c2,c3,c4,c5⟩:=at4 a1
 replace a2:=kH a2 a4
 obtain ⟨c6,c7⟩:=at2 a2
 go_wp2
 go_ret
 replace a0:=bH (bH a0 a3) a4
 exact ⟨rfl,a0.out⟩
set_option maxRecDepth 100000 in
theorem wd_no (w:World) (ware:ByteArray) (lim by_:Int) (A:Option Addr) (n k:Nat) (ps:List Prt) (c d:Int) (B:Option Addr) (m e:Nat) (l:List Int) (D:Option Addr) (m2 e2:Nat) (r:List Rng) (N:Int) (hr:RdP w A n k ps) (hn:n≤maxLen) (hl:RdI w B m e l) (hm:m≤maxLen) (hg:RdG w D m2 e2 r) (hm2:m2≤maxLen) (hf:fewB ⟨ware,lim,by_,ps⟩=true) (h60:¬ (60:Int)<m) (h61:¬ (60:Int)<m2) (q:Int) (hq:chkC ⟨ware,lim,by_,ps⟩=q) (hne:q≠0):Calls Tryz.prog 6 #[.agg #[.string ware,.int .i64 lim,.int .i64 by_,.slice A n k],.agg #[.int .i64 c,.int .i64 d],.slice B m e,.slice D m2 e2,.int .i64 N] w fun e w'=>e=.returned (.bool true)∧Below w.heap.size w w':=by
 have HF:=hid hf;have HQ:=hid hq;clear hf hq
 go_enter Tryz.func6,Tryz.ntmps6
 obtain ⟨a0,a1,a3⟩:=ent2 w #[.string ware,.int .i64 lim,.int .i64 by_,.slice A n k] 24 #[.int .i64 c,.int .i64 d] 41
 have a2:=hid (RdP.below (hr) a3.out)
 have b0:=iI hl a3
 have b1:=hid (RdG.below (hg) a3.out)
 clear hr hl hg
 obtain ⟨g7,g8,g9,b4⟩:=at4 a0
 obtain ⟨b5,b6⟩:=at2 a1
 have hc:=few_is ware lim by_ A n k ps (((w.alloc (.cells #[.string ware,.int .i64 lim,.int .i64 by_,.slice A n k] 24)).alloc (.cells #[.int .i64 c,.int .i64 d] 41))) a2.out hn _ HF.out
 have HC:=hid hc;clear hc
 go_wp2_with fail
 refine HC.out.mono ?_
 rintro e b7 ⟨rfl,hb⟩
 clear HC
 clear g7 g8 g9 b4 b5 b6
 have a4:=hid hb
 clear hb
 replace a0:=kH a0 a4
 obtain ⟨b8,b9,c0,c1⟩:=at4 a0
 replace a1:=kH a1 a4
 obtain ⟨c2,c3⟩:=at2 a1
 replace a2:=hid (RdP.below (a2.out) a4.out)
 have hc:=Demand_no ware lim by_ A n k ps c d (b7) a2.out hn q HQ.out hne
 have HC:=hid hc;clear hc
 go_wp2_with fail
 refine HC.out.mono ?_
 rintro e c4 ⟨rfl,hb⟩
 clear HC
 clear b8 b9 c0 c1 c2 c3
 have a5:=hid hb
 clear hb
 replace a0:=kH a0 a5
 obtain ⟨c5,c6,c7,c8⟩:=at4 a0
 replace a1:=kH a1 a5
 obtain ⟨c9,d0⟩:=at2 a1
 replace a2:=hid (RdP.below (a2.out) a5.out)
 have hc:=xDemand_no ware lim by_ A n k ps c d (c4) a2.out hn q HQ.out hne
 have HC:=hid hc;clear hc
 go_wp2_with fail
 refine HC.out.mono ?_
 rintro e d1 ⟨rfl,hb⟩
 clear HC
 clear c5 c6 c7 c8 c9 d0
 have a6:=hid hb
 clear hb
 replace a0:=kH a0 a6
 obtain ⟨d2,d3,d4,d5⟩:=at4 a0
 replace a1:=kH a1 a6
 obtain ⟨d6,d7⟩:=at2 a1
 replace a2:=hid (RdP.below (a2.out) a6.out)
 replace b0:=iH (iH (iH b0 a4) a5) a6
 have hc:=CheckWitness_no ware lim by_ A n k ps B m e l (d1) a2.out b0.out hn hm q HQ.out hne
 have HC:=hid hc;clear hc
 go_wp2_with fail
 refine HC.out.mono ?_
 rintro e d8 ⟨rfl,hb⟩
 clear HC
 clear d2 d3 d4 d5 d6 d7
 have a7:=hid hb
 clear hb
 replace a0:=kH a0 a7
 obtain ⟨d9,e0,e1,e3⟩:=at4 a0
 replace a1:=kH a1 a7
 obtain ⟨e4,e5⟩:=at2 a1
 replace a2:=hid (RdP.below (a2.out) a7.out)
 replace b0:=iH b0 a7
 have hc:=xCheckWitness_no ware lim by_ A n k ps B m e l (d8) a2.out b0.out hn hm q HQ.out hne
 have HC:=hid hc;clear hc
 go_wp2_with fail
 refine HC.out.mono ?_
 rintro e e6 ⟨rfl,hb⟩
 clear HC
 clear d9 e0 e1 e3 e4 e5
 have a8:=hid hb
 clear hb
 replace a0:=kH a0 a8
 obtain ⟨e7,e8,e9,f0⟩:=at4 a0
 replace a1:=kH a1 a8
 obtain ⟨f1,f2⟩:=at2 a1
 replace a2:=hid (RdP.below (a2.out) a8.out)
 replace b1:=hid (RdG.below (RdG.below (RdG.below (RdG.below (RdG.below (b1.out) a4.out) a5.out) a6.out) a7.out) a8.out)
 have hc:=CheckShow_no ware lim by_ A n k ps D m2 e2 r N (e6) a2.out b1.out hn hm2 q HQ.out hne
 have HC:=hid hc;clear hc
 go_wp2_with fail
 refine HC.out.mono ?_
 rintro e f3 ⟨rfl,hb⟩
 clear HC
 clear e7 e8 e9 f0 f1 f2
 have a9:=hid hb
 clear hb
 replace a0:=kH a0 a9
 obtain ⟨f4,f5,f6,f7⟩:=at4 a0
 replace a1:=kH a1 a9
 obtain ⟨f8,f9⟩:=at2 a1
 replace a2:=hid (RdP.below (a2.out) a9.out)
 replace b1:=hid (RdG.below (b1.out) a9.out)
 have hc:=xCheckShow_no ware lim by_ A n k ps D m2 e2 r N (f3) a2.out b1.out hn hm2 q HQ.out hne
 have HC:=hid hc;clear hc
 go_wp2_with fail
 refine HC.out.mono ?_
 rintro e g0 ⟨rfl,hb⟩
 clear HC
 clear f4 f5 f6 f7 f8 f9
 have b2:=hid hb
 clear hb
 replace a0:=kH a0 b2
 obtain ⟨g1,g2,g3,g4⟩:=at4 a0
 replace a1:=kH a1 b2
 obtain ⟨g5,g6⟩:=at2 a1
 have hc:=told_any (g0)
 have HC:=hid hc;clear hc
 go_wp2_with fail
 refine HC.out.mono ?_
 rintro e h0 ⟨rfl,hb⟩
 clear HC
 clear g1 g2 g3 g4 g5 g6
 have b3:=hid hb
 clear hb
 replace a0:=kH a0 b3
 obtain ⟨h1,h2,h3,h4⟩:=at4 a0
 replace a1:=kH a1 b3
 obtain ⟨h5,h6⟩:=at2 a1
 go_wp2
 go_ret
 replace a3:=bH (bH (bH (bH (bH (bH (bH (bH a3 a4) a5) a6) a7) a8) a9) b2) b3
 exact ⟨rfl,a3.out⟩
set_option maxRecDepth 100000 in
theorem wd_yes (w:World) (ware:ByteArray) (lim by_:Int) (A:Option Addr) (n k:Nat) (ps:List Prt) (c d:Int) (B:Option Addr) (m e:Nat) (l:List Int) (D:Option Addr) (m2 e2:Nat) (r:List Rng) (N:Int) (hr:RdP w A n k ps) (hn:n≤maxLen) (hl:RdI w B m e l) (hm:m≤maxLen) (hg:RdG w D m2 e2 r) (hm2:m2≤maxLen) (hf:fewB ⟨ware,lim,by_,ps⟩=true) (h60:¬ (60:Int)<m) (h61:¬ (60:Int)<m2) (hq:chkC ⟨ware,lim,by_,ps⟩=0):Calls Tryz.prog 6 #[.agg #[.string ware,.int .i64 lim,.int .i64 by_,.slice A n k],.agg #[.int .i64 c,.int .i64 d],.slice B m e,.slice D m2 e2,.int .i64 N] w fun e w'=>e=.returned (.bool true)∧Below w.heap.size w w':=by
 have HF:=hid hf;have HQ:=hid hq;clear hf hq
 obtain ⟨V1,h1⟩:∃ v,demV ps c d=v:=⟨_,rfl⟩
 obtain ⟨V2,h2⟩:∃ v,isWB ps l=v:=⟨_,rfl⟩
 obtain ⟨V3,h3⟩:∃ v,shOk ps r N=v:=⟨_,rfl⟩
 have HV1:=hid h1;have HV2:=hid h2;have HV3:=hid h3;clear h1 h2 h3
 go_enter Tryz.func6,Tryz.ntmps6
 obtain ⟨a0,a1,a3⟩:=ent2 w #[.string ware,.int .i64 lim,.int .i64 by_,.slice A n k] 24 #[.int .i64 c,.int .i64 d] 41
 have a2:=hid (RdP.below (hr) a3.out)
 have b0:=iI hl a3
 have b1:=hid (RdG.below (hg) a3.out)
 clear hr hl hg
 obtain ⟨g7,g8,g9,b4⟩:=at4 a0
 obtain ⟨b5,b6⟩:=at2 a1
 have hc:=few_is ware lim by_ A n k ps (((w.alloc (.cells #[.string ware,.int .i64 lim,.int .i64 by_,.slice A n k] 24)).alloc (.cells #[.int .i64 c,.int .i64 d] 41))) a2.out hn _ HF.out
 have HC:=hid hc;clear hc
 go_wp2_with fail
 refine HC.out.mono ?_
 rintro e b7 ⟨rfl,hb⟩
 clear HC
 clear g7 g8 g9 b4 b5 b6
 have a4:=hid hb
 clear hb
 replace a0:=kH a0 a4
 obtain ⟨b8,b9,c0,c1⟩:=at4 a0
 replace a1:=kH a1 a4
 obtain ⟨c2,c3⟩:=at2 a1
 replace a2:=hid (RdP.below (a2.out) a4.out)
 have hc:=Demand_yes ware lim by_ A n k ps c d (b7) a2.out hn HQ.out
 rw [HV1.out] at hc
 try dsimp only at hc
 have HC:=hid hc;clear hc
 go_wp2_with fail
 refine HC.out.mono ?_
 rintro e c4 ⟨rfl,hb⟩
 clear HC
 clear b8 b9 c0 c1 c2 c3
 have a5:=hid hb
 clear hb
 replace a0:=kH a0 a5
 obtain ⟨c5,c6,c7,c8⟩:=at4 a0
 replace a1:=kH a1 a5
 obtain ⟨c9,d0⟩:=at2 a1
 replace a2:=hid (RdP.below (a2.out) a5.out)
 have hc:=xDemand_yes ware lim by_ A n k ps c d (c4) a2.out hn HQ.out
 rw [HV1.out] at hc
 try dsimp only at hc
 have HC:=hid hc;clear hc
 go_wp2_with fail
 refine HC.out.mono ?_
 rintro e d1 ⟨rfl,hb⟩
 clear HC
 clear c5 c6 c7 c8 c9 d0
 have a6:=hid hb
 clear hb
 replace a0:=kH a0 a6
 obtain ⟨d2,d3,d4,d5⟩:=at4 a0
 replace a1:=kH a1 a6
 obtain ⟨d6,d7⟩:=at2 a1
 replace a2:=hid (RdP.below (a2.out) a6.out)
 replace b0:=iH (iH (iH b0 a4) a5) a6
 have hc:=CheckWitness_yes ware lim by_ A n k ps B m e l (d1) a2.out b0.out hn hm HQ.out
 rw [HV2.out] at hc
 try dsimp only at hc
 have HC:=hid hc;clear hc
 go_wp2_with fail
 refine HC.out.mono ?_
 rintro e d8 ⟨rfl,hb⟩
 clear HC
 clear d2 d3 d4 d5 d6 d7
 have a7:=hid hb
 clear hb
 replace a0:=kH a0 a7
 obtain ⟨d9,e0,e1,e3⟩:=at4 a0
 replace a1:=kH a1 a7
 obtain ⟨e4,e5⟩:=at2 a1
 replace a2:=hid (RdP.below (a2.out) a7.out)
 replace b0:=iH b0 a7
 have hc:=xCheckWitness_yes ware lim by_ A n k ps B m e l (d8) a2.out b0.out hn hm HQ.out
 rw [HV2.out] at hc
 try dsimp only at hc
 have HC:=hid hc;clear hc
 go_wp2_with fail
 refine HC.out.mono ?_
 rintro e e6 ⟨rfl,hb⟩
 clear HC
 clear d9 e0 e1 e3 e4 e5
 have a8:=hid hb
 clear hb
 replace a0:=kH a0 a8
 obtain ⟨e7,e8,e9,f0⟩:=at4 a0
 replace a1:=kH a1 a8
 obtain ⟨f1,f2⟩:=at2 a1
 replace a2:=hid (RdP.below (a2.out) a8.out)
 replace b1:=hid (RdG.below (RdG.below (RdG.below (RdG.below (RdG.below (b1.out) a4.out) a5.out) a6.out) a7.out) a8.out)
 have hc:=CheckShow_yes ware lim by_ A n k ps D m2 e2 r N (e6) a2.out b1.out hn hm2 HQ.out
 rw [HV3.out] at hc
 try dsimp only at hc
 have HC:=hid hc;clear hc
 go_wp2_with fail
 refine HC.out.mono ?_
 rintro e f3 ⟨rfl,hb⟩
 clear HC
 clear e7 e8 e9 f0 f1 f2
 have a9:=hid hb
 clear hb
 replace a0:=kH a0 a9
 obtain ⟨f4,f5,f6,f7⟩:=at4 a0
 replace a1:=kH a1 a9
 obtain ⟨f8,f9⟩:=at2 a1
 replace a2:=hid (RdP.below (a2.out) a9.out)
 replace b1:=hid (RdG.below (b1.out) a9.out)
 have hc:=xCheckShow_yes ware lim by_ A n k ps D m2 e2 r N (f3) a2.out b1.out hn hm2 HQ.out
 rw [HV3.out] at hc
 try dsimp only at hc
 have HC:=hid hc;clear hc
 go_wp2_with fail
 refine HC.out.mono ?_
 rintro e g0 ⟨rfl,hb⟩
 clear HC
 clear f4 f5 f6 f7 f8 f9
 have b2:=hid hb
 clear hb
 replace a0:=kH a0 b2
 obtain ⟨g1,g2,g3,g4⟩:=at4 a0
 replace a1:=kH a1 b2
 obtain ⟨g5,g6⟩:=at2 a1
 have hc:=told_any (g0)
 have HC:=hid hc;clear hc
 go_wp2_with fail
 refine HC.out.mono ?_
 rintro e h0 ⟨rfl,hb⟩
 clear HC
 clear g1 g2 g3 g4 g5 g6
 have b3:=hid hb
 clear hb
 replace a0:=kH a0 b3
 obtain ⟨h4,h5,h6,h7⟩:=at4 a0
 replace a1:=kH a1 b3
 obtain ⟨h8,h9⟩:=at2 a1
 go_wp2
 go_ret
 replace a3:=bH (bH (bH (bH (bH (bH (bH (bH a3 a4) a5) a6) a7) a8) a9) b2) b3
 exact ⟨rfl,a3.out⟩
theorem wd_walk (w:World) (ware:ByteArray) (lim by_:Int) (A:Option Addr) (n k:Nat) (ps:List Prt) (hr:RdP w A n k ps) (hn:n≤maxLen) (c d:Int) (B:Option Addr) (m e:Nat) (l:List Int) (hl:RdI w B m e l) (hm:m≤maxLen) (_:∀ x∈l,(Lit.int .i64 x).wf=true) (D:Option Addr) (m2 e2:Nat) (r:List Rng) (hg:RdG w D m2 e2 r) (hm2:m2≤maxLen) (N:Int) (_:(Lit.int .i64 N).wf=true):Calls Tryz.prog 6 #[.agg #[.string ware,.int .i64 lim,.int .i64 by_,.slice A n k],.agg #[.int .i64 c,.int .i64 d],.slice B m e,.slice D m2 e2,.int .i64 N] w fun e w'=>e=.returned (.bool true)∧Below w.heap.size w w':=by
 cases hf:fewB ⟨ware,lim,by_,ps⟩
 · exact wd_w1 w ware lim by_ A n k ps c d B m e l D m2 e2 r N hr hn hl hm hg hm2 hf
 · by_cases h60:(60:Int)<m
   · exact wd_w2 w ware lim by_ A n k ps c d B m e l D m2 e2 r N hr hn hl hm hg hm2 hf h60
   · by_cases h61:(60:Int)<m2
     · exact wd_w3 w ware lim by_ A n k ps c d B m e l D m2 e2 r N hr hn hl hm hg hm2 hf h60 h61
     · by_cases hq:chkC ⟨ware,lim,by_,ps⟩=0
       · exact wd_yes w ware lim by_ A n k ps c d B m e l D m2 e2 r N hr hn hl hm hg hm2 hf h60 h61 hq
       · exact wd_no w ware lim by_ A n k ps c d B m e l D m2 e2 r N hr hn hl hm hg hm2 hf h60 h61 _ rfl hq
set_option maxRecDepth 100000 in
theorem wholeDemands_lifted (os:Os) (started:os.Started) (H:Type) (enc:TypeId × Value→H) :
 ReturnsInHanded {} Tryz.checked os 6 .any (Rows.wholeDemandsSpec.pre6 enc Tryz.prog Tryz.f6 Rows.wholeDemandsRow.domain false) (Rows.wholeDemandsSpec.post enc Tryz.prog Tryz.f6 false true false false):=by
 refine returnsInHanded_of_change (C:=Tryz.checked) Law.own started (by kernel_rfl) Tryz.func6
  (ChangeSpec.witness6 (enc:=enc) (C:=Tryz.checked) false ⟨#[],#[.agg #[.string ⟨#[]⟩,.int .i64 0,.int .i64 0,.slice none 0 0],.agg #[.int .i64 0,.int .i64 0],.slice none 0 0,.slice none 0 0,.int .i64 0],[]⟩ 8 (by kernel_rfl) (by kernel_rfl) (by kernel_rfl) (by kernel_rfl)) ?_
 intro W base args ds gs before hval0 hW hcnd _
 have hval:∀ (j:Nat) t v,Tryz.f6.params[j]?=some t→args[j]?=some v→Value.okWide Tryz.prog W .any base t v:=hval0
 have hW':=hW
 obtain ⟨p,q,hA0,hV,rfl,hfz,hnd⟩:=hW
 have hA:DataW.TrodAll enc Tryz.prog W 0 (fun _=>true) true Tryz.f6.params.toList args.toList ds p:=hA0
 rw [Tryz.params6] at hA hval
 obtain ⟨v0,vs0,d0,ds0,p0,q0,hargs,rfl,rfl,h0,r0⟩:=trodAll_cons hA
 obtain ⟨v1,vs1,d1,ds1,p1,q1,rfl,rfl,rfl,h1,r1⟩:=trodAll_cons r0
 obtain ⟨v2,vs2,d2,ds2,p2,q2,rfl,rfl,rfl,h2,r2⟩:=trodAll_cons r1
 obtain ⟨v3,vs3,d3,ds3,p3,q3,rfl,rfl,rfl,h3,r3⟩:=trodAll_cons r2
 obtain ⟨v4,vs4,d4,ds4,p4,q4,rfl,rfl,rfl,h4,r4⟩:=trodAll_cons r3
 obtain ⟨rfl,rfl,rfl⟩:=trodAll_nil r4
 obtain rfl:args=#[v0,v1,v2,v3,v4]:=by cases args;simp_all
 obtain ⟨rfl,rfl⟩:=trodVars_none hV
 have k0:=h0
 have lt0:∀ x∈p0,x.block<W.heap.size:=by obtain ⟨m,hm⟩:=k0;exact DataW.trod_lt m _ _ _ hm
 obtain ⟨s0,x0,y0,A0,n0,c0,l0,rfl,rd0,mx0⟩:=open_case (hval 0 24 v0 rfl rfl) h0
 have k1:=h1
 have lt1:∀ x∈p1,x.block<W.heap.size:=by obtain ⟨m,hm⟩:=k1;exact DataW.trod_lt m _ _ _ hm
 obtain ⟨f1,t1,rfl⟩:=open_rng (hval 1 41 v1 rfl rfl) h1
 have k2:=h2
 have lt2:∀ x∈p2,x.block<W.heap.size:=by obtain ⟨m,hm⟩:=k2;exact DataW.trod_lt m _ _ _ hm
 obtain ⟨A2,n2,c2,l2,rfl,rd2,mx2,w2⟩:=open_nums (hval 2 30 v2 rfl rfl) h2
 have k3:=h3
 have lt3:∀ x∈p3,x.block<W.heap.size:=by obtain ⟨m,hm⟩:=k3;exact DataW.trod_lt m _ _ _ hm
 obtain ⟨A3,n3,c3,l3,rfl,rd3,mx3⟩:=open_rngs (hval 3 51 v3 rfl rfl) h3
 obtain ⟨a4,rfl,rfl,rfl,w4⟩:=open_int Tryz.underlying3 (hval 4 3 v4 rfl rfl) h4
 clear hA0 hval0
 refine (wd_walk W s0 x0 y0 A0 n0 c0 l0 rd0 mx0 f1 t1 A2 n2 c2 l2 rd2 mx2 w2 A3 n3 c3 l3 rd3 mx3 a4 w4).mono fun e W' ⟨he,bel⟩=>?_
 subst he
 exact ⟨_,rfl,_,_,_,[],_,[],hW',trodAll_mk1 (shut_bool Tryz.underlying4 _),(trodAll_cons_mk (Below.trod Law.laidOut (by kernel_rfl) (of_decide_eq_true (by kernel_rfl)) k0 bel lt0) (trodAll_cons_mk (Below.trod Law.laidOut (by kernel_rfl) (of_decide_eq_true (by kernel_rfl)) k1 bel lt1) (trodAll_cons_mk (Below.trod Law.laidOut (by kernel_rfl) (of_decide_eq_true (by kernel_rfl)) k2 bel lt2) (trodAll_cons_mk (Below.trod Law.laidOut (by kernel_rfl) (of_decide_eq_true (by kernel_rfl)) k3 bel lt3) (trodAll_cons_mk (shut_int Tryz.underlying3 w4) trodAll_mk0))))),rfl,bel.frame _,fun h=>by cases h⟩
theorem wholeDemands_over:Rows.wholeDemandsRow.holds Tryz.pinned (OpenSpec.ofChange Rows.wholeDemandsSpec) :=
 OpenClaim.holds_of_wide 6 Tryz.f6 rfl rfl rfl rfl rfl rfl rfl ⟨rfl,rfl,rfl,rfl,rfl⟩ rfl rfl rfl rfl rfl (by kernel_rfl) Tryz.func6 (by kernel_rfl)
  (of_decide_eq_true (by kernel_rfl)) (by unfold Func.isWrapper;first | (rw [if_pos (by decide +kernel)];kernel_rfl) | (rw [if_neg (by decide +kernel)];exact ⟨rfl,rfl⟩))
  (fun os started H enc _=>wholeDemands_lifted os started H enc)
theorem wholeDemands_proved:Rows.WholeDemandsSaid:=wholeDemands_over
end Go.Proofs.YtokpblmgdmokoaaGreat
