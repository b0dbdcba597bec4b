import Derived.Shelf.SlicesQ.Reverse
import Derived.Test.YtokpblmgdmokoaaGreatAVCol
import Derived.Test.YtokpblmgdmokoaaGreatAVMrg
set_option maxHeartbeats 4000000
set_option linter.unusedSimpArgs false
set_option linter.unusedVariables false
namespace Go.Proofs.YtokpblmgdmokoaaGreat
open Go.Lib (hid)
open Go.RowKit Go.Maps Go.Shelf
theorem mrgP_wf {p q:Prt} (hp:WfR (colR p)) (hq:WfR (colR q)):WfR (colR (mrgP p q)):=by
 obtain ⟨h1,h2⟩:=hp
 obtain ⟨h3,h4⟩:=hq
 unfold mrgP colR
 refine ⟨?_,?_⟩
 · dsimp only;split;exact h3;exact h1
 · dsimp only;split;exact h4;exact h2
def jntL (ps:List Prt) (a b:Nat):List Prt:=(ps.set (min a b) (mrgP (ps.getD (min a b) default) (ps.getD (max a b) default))).eraseIdx (max a b)
theorem jntL_mem {ps:List Prt} {a b:Nat} {P:Prt→Prop} (h:∀ p∈ps,P p) (hm:P (mrgP (ps.getD (min a b) default) (ps.getD (max a b) default))):∀ p∈jntL ps a b,P p:=by
 intro p hp
 unfold jntL at hp
 rcases List.mem_or_eq_of_mem_set (List.mem_of_mem_eraseIdx hp) with hp|rfl
 · exact h p hp
 · exact hm
theorem getD_of {ps:List Prt} {i:Nat} (hi:i<ps.length):ps[i]?=some (ps.getD i default):=by rw [List.getD_eq_getElem?_getD,List.getElem?_eq_getElem hi];rfl
set_option maxRecDepth 100000 in
theorem joint_any (g:Nat) (ware:ByteArray) (lim by_:Int) (A:Option Addr) (n k:Nat) (ps:List Prt) (a b:Nat) (w:World) (hv:Vw w g ware lim by_ A n k ps) (ha:a<n) (hb:b<n) (hab:a≠b) (hsm:∀ p∈ps,p.sh.length≤50000∧p.rs.length≤50000):Calls Tryz.prog 102 #[.pointer (some ⟨g,0,none⟩),.int .i64 (a:Int),.int .i64 (b:Int)] w fun e w'=>(∃ g2 R k1,e=.returned (.pointer (some ⟨g2,0,none⟩))∧Vw w' g2 ware lim by_ R (n-1) k1 (jntL ps a b))∧Below w.heap.size w w':=by
 have hmn:min (a:Int) (b:Int)=((min a b:Nat):Int):=by omega
 have hmx:max (a:Int) (b:Int)=((max a b:Nat):Int):=by omega
 have hmn2:(if (b:Int)<(a:Int) then (b:Int) else (a:Int))=((min a b:Nat):Int):=by split<;>omega
 have hmx2:(if (a:Int)<(b:Int) then (b:Int) else (a:Int))=((max a b:Nat):Int):=by split<;>omega
 have h40:=hv.len
 have HPL:=hid hv.prt.len;have HSM:=hid hsm;clear hsm
 have HWF:=hid (jntL_mem (a:=a) (b:=b) hv.wf (mrgP_wf (hv.wf _ (List.mem_of_getElem? (getD_of (i:=min a b) (by have:=HPL.out;omega)))) (hv.wf _ (List.mem_of_getElem? (getD_of (i:=max a b) (by have:=HPL.out;omega))))))
 go_enter Tryz.func102,Tryz.ntmps102
 have a1:=hid (show Below w.heap.size w w from Below.refl _ w)
 have a0:=hid (hv)
 clear hv
 obtain ⟨v0,v1,v2,v3⟩:=(a0.out).cells
 have hvl:=(a0.out).lt
 obtain ⟨xs,h1,h2,h3⟩:=(a0.out).prt.cells
 have HC:=hid (merged_T ware lim by_ A n k ps (min a b) (max a b) (ps.getD (min a b) default) (ps.getD (max a b) default) (fun _=>False) w (a0.out).prt (by omega) HSM.out (by omega) (by omega) (getD_of (by have:=HPL.out;omega)) (getD_of (by have:=HPL.out;omega)) xs h1 (fun x hx=>⟨h2 x hx,fun g h=>h.elim⟩) h3 (fun g h=>h.elim))
 clear h1 h2 h3
 go_wp2_with fail
 refine HC.out.mono ?_
 rintro e w1 ⟨⟨R,k1,rfl,ho⟩,hb⟩
 clear HC v0 v1 v2 v3
 have HO:=hid (show OwnPt w1 w.heap.size (fun _=>False) R (n-1) k1 (jntL ps a b) from ho);have HB:=hid hb;clear ho hb
 have HC:=hid (look_any ware lim by_ R (n-1) k1 (jntL ps a b) w1 HO.out.rd (by omega) HWF.out)
 go_wp2_with fail
 refine HC.out.mono ?_
 rintro e w2 ⟨⟨g2,bm,rfl,hvb,hor⟩,hb2⟩
 clear HC
 have HVW:=hid (show Vw w2 g2 ware lim by_ R (n-1) k1 (jntL ps a b) from ⟨⟨bm,hvb,hor⟩,HO.out.rd.below hb2,by omega,HWF.out⟩);have HB2:=hid hb2;clear hvb hor hb2
 go_wp2
 go_ret
 exact ⟨⟨g2,R,k1,rfl,HVW.out⟩,HB.out.trans (HB2.out.mono HB.out.size)⟩
theorem jnt_get {ps:List Prt} {a b n:Nat} (hn:ps.length=n) (ha:a<n) (hb:b<n) (hab:a≠b):(jntL ps a b)[min a b]?=some (mrgP (ps.getD (min a b) default) (ps.getD (max a b) default)):=by
 unfold jntL
 rw [List.getElem?_eraseIdx,if_pos (by omega),List.getElem?_set_self (by omega)]
theorem askP2_ok {c:Cse} {a b:Nat} (h:askP2 c (a:Int) (b:Int)=0):chkC c=0∧a<c.ps.length∧b<c.ps.length∧a≠b:=by
 unfold askP2 at h
 split at h
 · rename_i h1;exact absurd h h1
 · rename_i h1
   split at h
   · cases h
   · rename_i h2
     have h3:=askP_ok (c:=c) (l:=[(a:Int),(b:Int)]) (by simpa using h1)
     obtain ⟨x,hx,hx2⟩:=askP_in (c:=c) (l:=[(a:Int),(b:Int)]) (by simpa using h1) (x:=(a:Int)) (by simp)
     obtain ⟨y,hy,hy2⟩:=askP_in (c:=c) (l:=[(a:Int),(b:Int)]) (by simpa using h1) (x:=(b:Int)) (by simp)
     exact ⟨h3.1,by omega,by omega,fun e=>h2 (by rw [e])⟩
set_option maxRecDepth 100000 in
theorem Merge_yes (ware:ByteArray) (lim by_:Int) (A:Option Addr) (n k:Nat) (ps:List Prt) (a b:Nat) (w:World) (hr:RdP w A n k ps) (hn:n≤maxLen) (hq:askP2 ⟨ware,lim,by_,ps⟩ (a:Int) (b:Int)=0) (hcl:clN ps a b=false) (HBIG:(mrgP (ps.getD (min a b) default) (ps.getD (max a b) default)).sh.length≤40∧(mrgP (ps.getD (min a b) default) (ps.getD (max a b) default)).rs.length≤200):Calls Tryz.prog 34 #[.agg #[.string ware,.int .i64 lim,.int .i64 by_,.slice A n k],.int .i64 a,.int .i64 b] w fun e w'=>(∃ R k1,e=.returned (.tuple #[.agg #[.string ware,.int .i64 lim,.int .i64 by_,.slice R (n-1) k1],.int .i64 0])∧OwnPt w' w.heap.size (fun _=>False) R (n-1) k1 (jntL ps a b))∧Below w.heap.size w w':=by
 obtain ⟨xs,h1,h2,h3⟩:=hr.cells
 have HPL:=hid hr.len
 obtain ⟨hck,ha,hb,hab⟩:=askP2_ok hq
 dsimp only at ha hb
 rw [hr.len] at ha hb
 have h40:n≤40:=by have:=(chkC_ok hck).1;rw [hr.len] at this;exact this
 have HSM:=hid (show ∀ p∈ps,p.sh.length≤50000∧p.rs.length≤50000 from fun p hp=>by obtain ⟨-,-,-,-,-,h6,-⟩:=chkC_ok hck;obtain ⟨-,g1,g2,-⟩:=prtB_ok (h6 p hp);exact ⟨by omega,by omega⟩)
 have hmn:min (a:Int) (b:Int)=((min a b:Nat):Int):=by omega
 have hmx:max (a:Int) (b:Int)=((max a b:Nat):Int):=by omega
 have hmn2:(if (b:Int)<(a:Int) then (b:Int) else (a:Int))=((min a b:Nat):Int):=by split<;>omega
 have hmx2:(if (a:Int)<(b:Int) then (b:Int) else (a:Int))=((max a b:Nat):Int):=by split<;>omega
 have HQ:=hid hq;clear hq hck
 have HCL:=hid hcl;clear hcl
 go_enter Tryz.func34,Tryz.ntmps34
 obtain ⟨a2,a0,a1⟩:=ent2 w #[.string ware,.int .i64 lim,.int .i64 by_,.slice A n k] 24 #[.string ⟨#[]⟩,.int .i64 0,.int .i64 0,.slice none 0 0] 24
 have a3:=hid (RdP.below (hr) a1.out)
 clear hr
 obtain ⟨h9,i0,i1,i2⟩:=at4 a2
 obtain ⟨i3,b3,b4,b5⟩:=at4 a0
 have hc:=viewOfTwo_yes ware lim by_ A n k ps a b (((w.alloc (.cells #[.string ware,.int .i64 lim,.int .i64 by_,.slice A n k] 24)).alloc (.cells #[.string ⟨#[]⟩,.int .i64 0,.int .i64 0,.slice none 0 0] 24))) a3.out hn HQ.out
 have HC:=hid hc;clear hc
 go_wp2_with fail
 refine HC.out.mono ?_
 rintro e b6 ⟨⟨g,rfl,hvw⟩,hb⟩
 have HVW:=hid hvw;clear hvw
 clear HC
 clear h9 i0 i1 i2 i3 b3 b4 b5
 have a4:=hid hb
 clear hb
 replace a2:=kH a2 a4
 obtain ⟨b7,b8,b9,c8⟩:=at4 a2
 replace a0:=kH a0 a4
 obtain ⟨c9,d0,d1,d2⟩:=at4 a0
 have HC:=hid ((by have h:=clash_any HVW.out ha hb;rw [HCL.out] at h;exact h))
 go_wp2_with fail
 refine HC.out.mono ?_
 rintro e _ ⟨rfl,rfl⟩
 clear HC
 clear b7 b8 b9 c8 c9 d0 d1 d2
 have hbz:=Blk.lt (a0.out)
 obtain ⟨d3,d4,d5,d6⟩:=at4 a2
 obtain ⟨d7,d8,d9,e0⟩:=at4 a0
 replace a3:=hid (RdP.below (a3.out) a4.out)
 replace a1:=bH a1 a4
 have HC:=hid (merged_T ware lim by_ A n k ps (min a b) (max a b) (ps.getD (min a b) default) (ps.getD (max a b) default) (fun b=>b=w.heap.size∨b=w.heap.size+1) (b6) a3.out (by omega) HSM.out (by omega) (by omega) (getD_of (by have:=HPL.out;omega)) (getD_of (by have:=HPL.out;omega)) xs h1 (fun x hx=>⟨(h2 x hx).below a1.out,fun g hg=>(h2 x hx).out (by rcases hg with rfl|rfl<;>omega)⟩) (h3.below a1.out) (fun g hg=>by rcases hg with rfl|rfl<;>omega))
 clear h1 h2 h3
 go_wp2_with fail
 refine HC.out.mono ?_
 rintro e w9 ⟨⟨R,k1,rfl,ho⟩,hb9⟩
 clear HC
 clear d3 d4 d5 d6 d7 d8 d9 e0
 have hsz9:=(a1.out).size
 have a5:=hid hb9
 clear hb9
 obtain ⟨gg,rfl⟩:=ho.addr (by omega)
 have HO:=hid (show OwnPt w9 _ _ _ _ _ (jntL ps a b) from ho);clear ho
 obtain ⟨o_,ho_⟩:∃ o,o=((.cells #[.string ware,.int .i64 lim,.int .i64 by_,.slice (some ⟨gg,0,none⟩) (n-1) k1] 24):Obj):=⟨_,rfl⟩
 replace a1:=bA (bH a1 a5) o_
 replace a3:=hid (RdP.alloc ((hid (RdP.below (a3.out) a5.out)).out) (o_))
 replace a2:=kA (kH a2 a5) o_
 replace a0:=kA (kH a0 a5) o_
 replace HO:=hid (OwnPt.alloc (HO.out) (o_))
 subst ho_
 have a6:=hid (Blk.new w9 24 #[.string ware,.int .i64 lim,.int .i64 by_,.slice (some ⟨gg,0,none⟩) (n-1) k1])
 obtain ⟨x,hxo,-,hxc⟩:=OwnPt.get8 (HO.out) (jnt_get HPL.out ha hb hab)
 obtain ⟨P,hP⟩:∃ P,P=mrgP (ps.getD (min a b) default) (ps.getD (max a b) default):=⟨_,rfl⟩
 rw [← hP] at hxo hxc HBIG
 have HP:=hid hP;clear hP
 obtain ⟨c0,c1,c2,c3,c4,c5,c6,c7⟩:=cells_at8 hxc
 clear hxc
 have hxn:=hxo.1.len;have hxm:=hxo.2.1.len
 clear hxo
 rw [hxn,hxm] at HBIG
 clear hxn hxm
 have hidx:((min a b:Nat):Int)<((n-1:Nat):Int):=by omega
 obtain ⟨e1,e2,e3,e4⟩:=at4 a2
 obtain ⟨e5,e6,e7,e8⟩:=at4 a0
 obtain ⟨e9,f0,f1,f2⟩:=at4 a6
 obtain ⟨o_,ho_⟩:∃ o,o=((.cells #[.slice x.A x.n x.c,.int .i64 P.lo,.int .i64 P.hi,.int .i64 P.lb,.int .i64 P.hb,.bool P.ft,.int .i64 P.fb,.slice x.B x.m x.d] 48):Obj):=⟨_,rfl⟩
 replace a1:=bA a1 o_
 replace a3:=hid (RdP.alloc (a3.out) (o_))
 replace a2:=kA a2 o_
 replace a0:=kA a0 o_
 replace HO:=hid (OwnPt.alloc (HO.out) (o_))
 replace a6:=kA a6 o_
 subst ho_
 have a8:=hid (Blk.new (w9.alloc (.cells #[.string ware,.int .i64 lim,.int .i64 by_,.slice (some ⟨gg,0,none⟩) (n-1) k1] 24)) 48 #[.slice x.A x.n x.c,.int .i64 P.lo,.int .i64 P.hi,.int .i64 P.lb,.int .i64 P.hb,.bool P.ft,.int .i64 P.fb,.slice x.B x.m x.d])
 obtain ⟨f3,f4,f5,f6⟩:=at4 a2
 obtain ⟨f7,f8,f9,g0⟩:=at4 a0
 obtain ⟨g3,g4,g5,g6⟩:=at4 a6
 obtain ⟨g7,g8,g9,h0,h4,h5,h7,h8⟩:=at8 a8
 have hz1:¬ ((40:Int)<((x.n:Nat):Int)):=by have:=HBIG;omega
 have hz2:¬ ((200:Int)<((x.m:Nat):Int)):=by have:=HBIG;omega
 have a9:(((w9.alloc (.cells #[.string ware,.int .i64 lim,.int .i64 by_,.slice (some ⟨gg,0,none⟩) (n-1) k1] 24)).alloc (.cells #[.slice x.A x.n x.c,.int .i64 P.lo,.int .i64 P.hi,.int .i64 P.lb,.int .i64 P.hb,.bool P.ft,.int .i64 P.fb,.slice x.B x.m x.d] 48))).frozen? ⟨w.heap.size+1,0,none⟩=false:=Blk.frozen a0.out 0
 have b0:(((w9.alloc (.cells #[.string ware,.int .i64 lim,.int .i64 by_,.slice (some ⟨gg,0,none⟩) (n-1) k1] 24)).alloc (.cells #[.slice x.A x.n x.c,.int .i64 P.lo,.int .i64 P.hi,.int .i64 P.lb,.int .i64 P.hb,.bool P.ft,.int .i64 P.fb,.slice x.B x.m x.d] 48))).frozen? ⟨w.heap.size+1,1,none⟩=false:=Blk.frozen a0.out 1
 have b1:(((w9.alloc (.cells #[.string ware,.int .i64 lim,.int .i64 by_,.slice (some ⟨gg,0,none⟩) (n-1) k1] 24)).alloc (.cells #[.slice x.A x.n x.c,.int .i64 P.lo,.int .i64 P.hi,.int .i64 P.lb,.int .i64 P.hb,.bool P.ft,.int .i64 P.fb,.slice x.B x.m x.d] 48))).frozen? ⟨w.heap.size+1,2,none⟩=false:=Blk.frozen a0.out 2
 have b2:(((w9.alloc (.cells #[.string ware,.int .i64 lim,.int .i64 by_,.slice (some ⟨gg,0,none⟩) (n-1) k1] 24)).alloc (.cells #[.slice x.A x.n x.c,.int .i64 P.lo,.int .i64 P.hi,.int .i64 P.lb,.int .i64 P.hb,.bool P.ft,.int .i64 P.fb,.slice x.B x.m x.d] 48))).frozen? ⟨w.heap.size+1,3,none⟩=false:=Blk.frozen a0.out 3
 have HOO:=hid (OwnPt.weak (OwnPt.out ((OwnPt.out ((OwnPt.out ((OwnPt.out (HO.out) (b:=w.heap.size+1) (j:=0) (by omega) (Or.inr rfl) (.string ware))) (b:=w.heap.size+1) (j:=1) (by omega) (Or.inr rfl) (.int .i64 lim))) (b:=w.heap.size+1) (j:=2) (by omega) (Or.inr rfl) (.int .i64 by_))) (b:=w.heap.size+1) (j:=3) (by omega) (Or.inr rfl) (.slice (some ⟨gg,0,none⟩) (n-1) k1)) (S':=fun _=>False) (fun _ h=>h.elim) (show w.heap.size≤_ from hsz9))
 have a7:=a1.out
 go_wp2
 refine bodyPost_ret (v:=.tuple #[.agg #[.string ware,.int .i64 lim,.int .i64 by_,.slice (some ⟨gg,0,none⟩) (n-1) k1],.int .i64 0]) (by simp [results,Tryz.results34,go_sem,e1,e2,e3,e4,e5,e6,e7,e8,e9,f0,f1,f2,f3,f4,f5,f6,f7,f8,f9,g0,g3,g4,g5,g6,g7,g8,g9,h0,h4,h5,h7,h8,a9,b0,b1,b2]) rfl ⟨⟨some ⟨gg,0,none⟩,k1,rfl,HOO.out⟩,(by have hsz_:=Below.size a7;repeat' (first|with_reducible exact a7|with_reducible exact Below.refl _ _|with_reducible refine Below.alloc ?_ ?_ _|with_reducible refine Below.setCell ?_ ?_ _|with_reducible refine Below.drew ?_|with_reducible refine below_setRow ?_ ?_ _|omega | (simp;done) | (simp;omega)))⟩
end Go.Proofs.YtokpblmgdmokoaaGreat
