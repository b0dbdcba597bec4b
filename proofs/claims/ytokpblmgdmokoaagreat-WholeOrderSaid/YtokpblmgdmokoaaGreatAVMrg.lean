import Derived.Test.YtokpblmgdmokoaaGreatAVSrt
import Derived.Test.YtokpblmgdmokoaaGreatAVOwn
import Derived.Deep.CutRange
import Derived.Test.YtokpblmgdmokoaaGreatAVCpy
import Derived.Test.YtokpblmgdmokoaaGreatAVDel
import Derived.Test.YtokpblmgdmokoaaGreatAVTake
set_option linter.unusedSimpArgs false
set_option linter.unusedVariables false
namespace Go.Proofs.YtokpblmgdmokoaaGreat
open Go.Lib (hid)
open Go.RowKit Go.Maps
def mrgP (p q:Prt):Prt:=⟨uniL p.sh q.sh,if p.lo<q.lo then q.lo else p.lo,if q.hi<p.hi then q.hi else p.hi,if p.lo<q.lo then q.lb else p.lb,if q.hi<p.hi then q.hb else p.hb,p.ft || q.ft,if q.ft then q.fb else p.fb,uniL p.rs q.rs⟩
theorem uniL_len (a b:List Int):(uniL a b).length≤a.length+b.length:=by
 unfold uniL
 refine Nat.le_trans (Lib.compact_length_le _) ?_
 rw [List.length_mergeSort,List.length_append]
 exact Nat.le_refl _
section
variable {w w':World} {base g n k:Nat} {S:Nat→Prop} {R:Option Addr} {ps:List Prt}
theorem OwnPt.get8 (h:OwnPt w base S (some ⟨g,0,none⟩) n k ps) {q:Nat} {p:Prt} (hp:ps[q]?=some p):∃ x:PAd,x.ok w p∧(∀ g',(g'=g∨S g')→x.far g' p)∧Cells w (some ⟨g,q * 8,none⟩) (pv (p,x)):=by
 have hgl:=h.blk.2.1
 obtain ⟨xs,h1,h2,h3⟩:=h
 obtain ⟨x,hx,rfl⟩:∃ x,xs[q]?=some x∧x.1=p:=by rw [← h1,List.getElem?_map] at hp;cases hx:xs[q]? with|none=>rw [hx] at hp;cases hp|some x=>rw [hx] at hp;exact ⟨x,rfl,by simpa using hp⟩
 obtain ⟨hok,hfar⟩:=h2 x (List.mem_of_getElem? hx)
 refine ⟨x.2,hok,fun g' hg'=>hfar g' (hg'.imp (fun e=>by rw [e]) id),.inr ⟨g,q * 8,rfl,hgl,fun j v hv=>?_⟩⟩
 have hj:j<8:=by have:=(List.getElem?_eq_some_iff.1 hv).1;rw [pv_len] at this;exact this
 have c:=(Addr.add_lit _ _ _ ▸ h3.cells rfl (q * 8+j) v ((flat_get pv_len xs q j x hx hj).trans hv):w.cell? ⟨g,0+(q * 8+j),none⟩=some v)
 rw [Nat.zero_add] at c
 exact c
theorem cells_at8 {b o:Nat} {p:Prt} {x:PAd} (h:Cells w (some ⟨b,o,none⟩) (pv (p,x))):w.cell? ⟨b,o,none⟩=some (.slice x.A x.n x.c)∧w.cell? ⟨b,o+1,none⟩=some (.int .i64 p.lo)∧w.cell? ⟨b,o+2,none⟩=some (.int .i64 p.hi) ∧
 w.cell? ⟨b,o+3,none⟩=some (.int .i64 p.lb)∧w.cell? ⟨b,o+4,none⟩=some (.int .i64 p.hb)∧w.cell? ⟨b,o+5,none⟩=some (.bool p.ft)∧w.cell? ⟨b,o+6,none⟩=some (.int .i64 p.fb)∧w.cell? ⟨b,o+7,none⟩=some (.slice x.B x.m x.d):=by
 rcases h with h0|⟨b',o',e,hlt,hc⟩
 · cases h0
 · injection e with e
   injection e with e1 e2
   subst e1 e2
   exact ⟨hc 0 _ rfl,hc 1 _ rfl,hc 2 _ rfl,hc 3 _ rfl,hc 4 _ rfl,hc 5 _ rfl,hc 6 _ rfl,hc 7 _ rfl⟩
theorem OwnPt.put8 (h:OwnPt w base S (some ⟨g,0,none⟩) n k ps) {q:Nat} (hq:q<ps.length) (p':Prt) (y:PAd) (h1:RdI w y.A y.n y.c p'.sh) (h2:RdI w y.B y.m y.d p'.rs) (m1:y.n≤maxLen) (m2:y.m≤maxLen) (hf:∀ g',(g'=g∨S g')→y.far g' p') :
 OwnPt ((((((((w.setCell ⟨g,q * 8,none⟩ (.slice y.A y.n y.c)).setCell ⟨g,q * 8+1,none⟩ (.int .i64 p'.lo)).setCell ⟨g,q * 8+2,none⟩ (.int .i64 p'.hi)).setCell ⟨g,q * 8+3,none⟩ (.int .i64 p'.lb)).setCell ⟨g,q * 8+4,none⟩ (.int .i64 p'.hb)).setCell ⟨g,q * 8+5,none⟩ (.bool p'.ft)).setCell ⟨g,q * 8+6,none⟩ (.int .i64 p'.fb)).setCell ⟨g,q * 8+7,none⟩ (.slice y.B y.m y.d)) base S (some ⟨g,0,none⟩) n k (ps.set q p'):=by
 obtain ⟨p,hp⟩:∃ p,ps[q]?=some p:=⟨_,List.getElem?_eq_getElem hq⟩
 have e:∀ z:Prt,(ps.set q z)[q]?=some z:=fun z=>by rw [List.getElem?_set_self hq]
 have f:=hf g (.inl rfl)
 have o0:=h.set hp (j:=0) (by omega) (.slice y.A y.n y.c) ⟨p'.sh,p.lo,p.hi,p.lb,p.hb,p.ft,p.fb,p.rs⟩ (fun x hok hfar=>⟨⟨y.A,y.n,y.c,x.B,x.m,x.d⟩,rfl,⟨rdI_far h1 f.1 _,rdI_far hok.2.1 (hfar g (.inl rfl)).2 _,m1,hok.2.2.2⟩,fun g' hg'=>⟨(hf g' hg').1,(hfar g' hg').2⟩⟩)
 have o1:=o0.set (e _) (j:=1) (by omega) (.int .i64 p'.lo) ⟨p'.sh,p'.lo,p.hi,p.lb,p.hb,p.ft,p.fb,p.rs⟩ (fun x hok hfar=>⟨x,rfl,hok.set (hfar g (.inl rfl)) _,hfar⟩)
 rw [List.set_set] at o1
 have o2:=o1.set (e _) (j:=2) (by omega) (.int .i64 p'.hi) ⟨p'.sh,p'.lo,p'.hi,p.lb,p.hb,p.ft,p.fb,p.rs⟩ (fun x hok hfar=>⟨x,rfl,hok.set (hfar g (.inl rfl)) _,hfar⟩)
 rw [List.set_set] at o2
 have o3:=o2.set (e _) (j:=3) (by omega) (.int .i64 p'.lb) ⟨p'.sh,p'.lo,p'.hi,p'.lb,p.hb,p.ft,p.fb,p.rs⟩ (fun x hok hfar=>⟨x,rfl,hok.set (hfar g (.inl rfl)) _,hfar⟩)
 rw [List.set_set] at o3
 have o4:=o3.set (e _) (j:=4) (by omega) (.int .i64 p'.hb) ⟨p'.sh,p'.lo,p'.hi,p'.lb,p'.hb,p.ft,p.fb,p.rs⟩ (fun x hok hfar=>⟨x,rfl,hok.set (hfar g (.inl rfl)) _,hfar⟩)
 rw [List.set_set] at o4
 have o5:=o4.set (e _) (j:=5) (by omega) (.bool p'.ft) ⟨p'.sh,p'.lo,p'.hi,p'.lb,p'.hb,p'.ft,p.fb,p.rs⟩ (fun x hok hfar=>⟨x,rfl,hok.set (hfar g (.inl rfl)) _,hfar⟩)
 rw [List.set_set] at o5
 have o6:=o5.set (e _) (j:=6) (by omega) (.int .i64 p'.fb) ⟨p'.sh,p'.lo,p'.hi,p'.lb,p'.hb,p'.ft,p'.fb,p.rs⟩ (fun x hok hfar=>⟨x,rfl,hok.set (hfar g (.inl rfl)) _,hfar⟩)
 rw [List.set_set] at o6
 have hB:=rdI_far (rdI_far (rdI_far (rdI_far (rdI_far (rdI_far (rdI_far h2 (p:=⟨g,q * 8+0,none⟩) f.2 (.slice y.A y.n y.c)) (p:=⟨g,q * 8+1,none⟩) f.2 (.int .i64 p'.lo)) (p:=⟨g,q * 8+2,none⟩) f.2 (.int .i64 p'.hi)) (p:=⟨g,q * 8+3,none⟩) f.2 (.int .i64 p'.lb)) (p:=⟨g,q * 8+4,none⟩) f.2 (.int .i64 p'.hb)) (p:=⟨g,q * 8+5,none⟩) f.2 (.bool p'.ft)) (p:=⟨g,q * 8+6,none⟩) f.2 (.int .i64 p'.fb)
 have o7:=o6.set (e _) (j:=7) (by omega) (.slice y.B y.m y.d) ⟨p'.sh,p'.lo,p'.hi,p'.lb,p'.hb,p'.ft,p'.fb,p'.rs⟩ (fun x hok hfar=>⟨⟨x.A,x.n,x.c,y.B,y.m,y.d⟩,rfl,⟨rdI_far hok.1 (hfar g (.inl rfl)).1 _,rdI_far hB f.2 _,hok.2.2.1,m2⟩,fun g' hg'=>⟨(hfar g' hg').1,(hf g' hg').2⟩⟩)
 rw [List.set_set] at o7
 exact o7
end
set_option maxRecDepth 100000 in
set_option maxHeartbeats 8000000 in
theorem merged_T (ware:ByteArray) (lim by_:Int) (A:Option Addr) (n k:Nat) (ps:List Prt) (a b:Nat) (p q:Prt) (T:Nat→Prop) (w:World) (hr:RdP w A n k ps) (hn:n≤100000) (hsm:∀ p∈ps,p.sh.length≤50000∧p.rs.length≤50000) (ha:a<n) (hb:b<n) (hpa:ps[a]?=some p) (hpb:ps[b]?=some q) (xs:List (Prt × PAd)) (h1:xs.map (·.1)=ps) (h2:∀ x∈xs,x.2.ok w x.1∧∀ g,T g→x.2.far g x.1) (h3:Cells w A (xs.flatMap pv)) (hT:∀ g,T g→g<w.heap.size):Calls Tryz.prog 87 #[.agg #[.string ware,.int .i64 lim,.int .i64 by_,.slice A n k],.int .i64 a,.int .i64 b] w fun e w'=>(∃ R k1,e=.returned (.agg #[.string ware,.int .i64 lim,.int .i64 by_,.slice R (n-1) k1])∧OwnPt w' w.heap.size T R (n-1) k1 ((ps.set a (mrgP p q)).eraseIdx b))∧Below w.heap.size w w':=by
 have HS1:=hid (show p.sh.length+q.sh.length≤100000 by have:=hsm p (List.mem_of_getElem? hpa);have:=hsm q (List.mem_of_getElem? hpb);omega)
 have HS2:=hid (show p.rs.length+q.rs.length≤100000 by have:=hsm p (List.mem_of_getElem? hpa);have:=hsm q (List.mem_of_getElem? hpb);omega)
 have HPA:=hid hpa;have HPB:=hid hpb;clear hpa hpb
 replace hsm:∀ p∈ps,p.sh.length≤100000∧p.rs.length≤100000:=fun p hp=>⟨by have:=hsm p hp;omega,by have:=hsm p hp;omega⟩
 go_enter Tryz.func87,Tryz.ntmps87
 obtain ⟨d8,g5,e3⟩:=ent2 w #[.string ware,.int .i64 lim,.int .i64 by_,.slice A n k] 24 #[.string ⟨#[]⟩,.int .i64 0,.int .i64 0,.slice none 0 0] 24
 have s6:=hid (RdP.below (hr) e3.out)
 clear hr
 obtain ⟨N5,N6,N7,N8⟩:=at4 d8
 obtain ⟨N9,F9,G0,G1⟩:=at4 g5
 have HC:=hid (copied_T ware lim by_ A n k ps (fun b=>T b∨(b=w.heap.size∨b=w.heap.size+1)) (((w.alloc (.cells #[.string ware,.int .i64 lim,.int .i64 by_,.slice A n k] 24)).alloc (.cells #[.string ⟨#[]⟩,.int .i64 0,.int .i64 0,.slice none 0 0] 24))) s6.out hn hsm xs h1 (fun x hx=>⟨(h2 x hx).1.below e3.out,fun g hg=>by rcases hg with hg|rfl|rfl;exact (h2 x hx).2 g hg;exact (h2 x hx).1.out (by omega);exact (h2 x hx).1.out (by omega)⟩) ((h3.alloc _).alloc _) (fun g hg=>by simp only [World.size_alloc];rcases hg with hg|rfl|rfl;(have:=hT g hg;omega);omega;omega))
 have HT:=hid hT
 clear h1 h2 h3 hsm hT
 go_wp2_with fail
 refine HC.out.mono ?_
 rintro e w1 ⟨⟨R,k1,rfl,ho⟩,hb⟩
 clear HC
 clear N5 N6 N7 N8 N9 F9 G0 G1
 have hsz1:=hb.size
 simp only [World.size_alloc] at hsz1 ho
 have i8:=hid hb
 clear hb
 obtain ⟨g,rfl⟩:=ho.addr (by omega)
 obtain ⟨hgb,hgl,hpl,hnk⟩:=ho.blk
 have HO:=hid ho;clear ho
 replace d8:=kH d8 i8
 obtain ⟨G2,G3,G4,G5⟩:=at4 d8
 replace g5:=kH g5 i8
 obtain ⟨G6,G7,G8,G9⟩:=at4 g5
 have F5:(w1).frozen? ⟨w.heap.size,0,none⟩=false:=Blk.frozen d8.out 0
 have F6:(w1).frozen? ⟨w.heap.size,1,none⟩=false:=Blk.frozen d8.out 1
 have F7:(w1).frozen? ⟨w.heap.size,2,none⟩=false:=Blk.frozen d8.out 2
 have F8:(w1).frozen? ⟨w.heap.size,3,none⟩=false:=Blk.frozen d8.out 3
 replace e3:=bH e3 i8
 have HBC:=hid (Blk.set_ ((Blk.set_ ((Blk.set_ ((Blk.set_ (d8.out) 0 (.string ware))) 1 (.int .i64 lim))) 2 (.int .i64 by_))) 3 (.slice (some ⟨g,0,none⟩) n k1))
 have HBZ:=hid (Blk.far ((Blk.far ((Blk.far ((Blk.far (g5.out) (p:=⟨w.heap.size,0,none⟩) (by simp) (.string ware))) (p:=⟨w.heap.size,1,none⟩) (by simp) (.int .i64 lim))) (p:=⟨w.heap.size,2,none⟩) (by simp) (.int .i64 by_))) (p:=⟨w.heap.size,3,none⟩) (by simp) (.slice (some ⟨g,0,none⟩) n k1))
 have HBE:=hid (Below.setCell ((Below.setCell ((Below.setCell ((Below.setCell (e3.out) (p:=⟨w.heap.size,0,none⟩) (by simp) (.string ware))) (p:=⟨w.heap.size,1,none⟩) (by simp) (.int .i64 lim))) (p:=⟨w.heap.size,2,none⟩) (by simp) (.int .i64 by_))) (p:=⟨w.heap.size,3,none⟩) (by simp) (.slice (some ⟨g,0,none⟩) n k1))
 have HO2:=hid (OwnPt.out ((OwnPt.out ((OwnPt.out ((OwnPt.out (HO.out) (b:=w.heap.size) (j:=0) (by omega) (Or.inr (Or.inl rfl)) (.string ware))) (b:=w.heap.size) (j:=1) (by omega) (Or.inr (Or.inl rfl)) (.int .i64 lim))) (b:=w.heap.size) (j:=2) (by omega) (Or.inr (Or.inl rfl)) (.int .i64 by_))) (b:=w.heap.size) (j:=3) (by omega) (Or.inr (Or.inl rfl)) (.slice (some ⟨g,0,none⟩) n k1))
 obtain ⟨w2,hw2⟩:∃ v,v=((((w1).setCell ⟨w.heap.size,0,none⟩ (.string ware)).setCell ⟨w.heap.size,1,none⟩ (.int .i64 lim)).setCell ⟨w.heap.size,2,none⟩ (.int .i64 by_)).setCell ⟨w.heap.size,3,none⟩ (.slice (some ⟨g,0,none⟩) n k1):=⟨_,rfl⟩
 rw [← hw2] at HBC HBZ HBE HO2
 have hsz2:w.heap.size+1+1≤w2.heap.size:=by rw [hw2];simp only [World.size_setCell];exact hsz1
 have hgl2:g<w2.heap.size:=by rw [hw2];simp only [World.size_setCell];exact hgl
 have HW2:=hid hw2;clear hw2 HO
 go_upto_region 2 with fail
 rw [← HW2.out]
 clear G2 G3 G4 G5 G6 G7 G8 G9 F5 F6 F7 F8
 clear HW2 e3 s6 d8 g5
 obtain ⟨x,hxo,hxf,hxc⟩:=OwnPt.get8 HO2.out HPA.out
 obtain ⟨y,hyo,hyf,hyc⟩:=OwnPt.get8 HO2.out HPB.out
 have HXO:=hid hxo
 have HXC:=hid hxc
 have HYO:=hid hyo
 have HYC:=hid hyc
 clear hxo hxf hxc hyo hyf hyc
 go_cut [7,8] from 11 to 20 (fun s7 s8 wx=>∃ gp gq:Nat,s7=.pointer (some ⟨gp,0,none⟩)∧s8=.pointer (some ⟨gq,0,none⟩)∧Blk wx gp 48 #[.slice x.A x.n x.c,.int .i64 p.lo,.int .i64 p.hi,.int .i64 p.lb,.int .i64 p.hb,.bool p.ft,.int .i64 p.fb,.slice x.B x.m x.d]∧Blk wx gq 48 #[.slice y.A y.n y.c,.int .i64 q.lo,.int .i64 q.hi,.int .i64 q.lb,.int .i64 q.hb,.bool q.ft,.int .i64 q.fb,.slice y.B y.m y.d]∧gp≠gq∧w2.heap.size≤gp∧w2.heap.size≤gq∧Below w2.heap.size w2 wx)
 case first =>
  have a2:=hid (show Below w2.heap.size w2 w2 from Below.refl _ _)
  replace a2:=bD a2
  refine wp_region_held_drew (S:=(fun W'=>Below w2.heap.size w2 W')) (by kernel_rfl) a2.out (fun _=>?_)
  obtain ⟨g6,i9⟩:∃ w',w'=(w2.drew):=⟨_,rfl⟩
  rw [← i9] at a2
  rw [← i9]
  clear i9
  refine' twH 0 a2.out ?_
  refine' tkH 1 a2.out ?s9 ?_
  case s9=>(rintro W' hS0;have hc0:=Blk.nth (HBC.out.keep hS0) 3;clear hS0;go_simp;try with_reducible rfl)
  refine' twH 2 a2.out ?_
  refine' twH 3 a2.out ?_
  try simp only [pq]
  refine' tkH 4 a2.out ?t0 ?_
  case t0=>(rintro W' hS0;have q_:=Cells.below HXC.out hS0;obtain ⟨q0,q1,q2,q3,q4,q5,q6,q7⟩:=cells_at8 q_;clear q_ hS0;go_simp;try with_reducible rfl)
  refine' twH 5 a2.out ?_
  refine' tkH 6 a2.out ?t1 ?_
  case t1=>(rintro W' hS0;have hc0:=Blk.nth (HBC.out.keep hS0) 3;clear hS0;go_simp;try with_reducible rfl)
  refine' twH 7 a2.out ?_
  try simp only [pq]
  refine' twH 8 a2.out ?_
  refine' tkH 9 a2.out ?t2 ?_
  case t2=>(rintro W' hS0;have q_:=Cells.below HYC.out hS0;obtain ⟨q0,q1,q2,q3,q4,q5,q6,q7⟩:=cells_at8 q_;clear q_ hS0;go_simp;try with_reducible rfl)
  try simp only [pq]
  refine wpAnyH_ready (rs:=[10,11]) (by kernel_rfl) (by simp) ?_
  refine rdH rfl (fun K hK=>?_) ?_
  · -- 10: alloc
   go_simp
   have d3:=hid (a2.out.size)
   obtain ⟨o_,ho_⟩:∃ o,o=(.cells #[.slice none 0 0,.int .i64 0,.int .i64 0,.int .i64 0,.int .i64 0,.bool false,.int .i64 0,.slice none 0 0] 48:Obj):=⟨_,rfl⟩
   replace a2:=bA a2 o_
   subst ho_
   have a8:=hid (Blk.new (g6) 48 #[.slice none 0 0,.int .i64 0,.int .i64 0,.int .i64 0,.int .i64 0,.bool false,.int .i64 0,.slice none 0 0])
   obtain ⟨a4,j0⟩:∃ g,g=(g6).heap.size:=⟨_,rfl⟩
   obtain ⟨m5,j1⟩:∃ w',w'=(g6).alloc (.cells #[.slice none 0 0,.int .i64 0,.int .i64 0,.int .i64 0,.int .i64 0,.bool false,.int .i64 0,.slice none 0 0] 48):=⟨_,rfl⟩
   rw [← j1] at a2 a8
   rw [← j0] at d3 a8
   rw [← j0,← j1]
   clear j0 j1
   refine hK.out _ _ a2.out (fun _=>?_);clear hK K
   try simp only [pq]
   refine oneH 11 rfl fun K hK=>?_
   go_simp
   have d4:=hid (a2.out.size)
   have b2:=hid (Nat.ne_of_lt (Blk.lt a8.out))
   obtain ⟨o_,ho_⟩:∃ o,o=(.cells #[.slice none 0 0,.int .i64 0,.int .i64 0,.int .i64 0,.int .i64 0,.bool false,.int .i64 0,.slice none 0 0] 48:Obj):=⟨_,rfl⟩
   replace a2:=bA a2 o_
   replace a8:=kA a8 o_
   subst ho_
   have i0:=hid (Blk.new (m5) 48 #[.slice none 0 0,.int .i64 0,.int .i64 0,.int .i64 0,.int .i64 0,.bool false,.int .i64 0,.slice none 0 0])
   obtain ⟨a5,j2⟩:∃ g,g=(m5).heap.size:=⟨_,rfl⟩
   obtain ⟨c0,j3⟩:∃ w',w'=(m5).alloc (.cells #[.slice none 0 0,.int .i64 0,.int .i64 0,.int .i64 0,.int .i64 0,.bool false,.int .i64 0,.slice none 0 0] 48):=⟨_,rfl⟩
   rw [← j3] at a2 a8 i0
   rw [← j2] at d4 b2 i0
   rw [← j2,← j3]
   clear j2 j3
   refine hK.out _ _ a2.out (fun _=>?_);clear hK K
   try simp only [pq]
   refine oneH 12 rfl fun K hK=>?_
   have H0:(c0).cell? ⟨a4,0,none⟩=some (.slice none 0 0):=Blk.cell (a8.out) 0
   have H1:(c0).frozen? ⟨a4,0,none⟩=false:=Blk.frozen (a8.out) 0
   have H2:(c0).cell? ⟨a4,1,none⟩=some (.int .i64 0):=Blk.cell (a8.out) 1
   have H3:(c0).frozen? ⟨a4,1,none⟩=false:=Blk.frozen (a8.out) 1
   have H4:(c0).cell? ⟨a4,2,none⟩=some (.int .i64 0):=Blk.cell (a8.out) 2
   have H5:(c0).frozen? ⟨a4,2,none⟩=false:=Blk.frozen (a8.out) 2
   have H6:(c0).cell? ⟨a4,3,none⟩=some (.int .i64 0):=Blk.cell (a8.out) 3
   have H7:(c0).frozen? ⟨a4,3,none⟩=false:=Blk.frozen (a8.out) 3
   have H8:(c0).cell? ⟨a4,4,none⟩=some (.int .i64 0):=Blk.cell (a8.out) 4
   have H9:(c0).frozen? ⟨a4,4,none⟩=false:=Blk.frozen (a8.out) 4
   have I0:(c0).cell? ⟨a4,5,none⟩=some (.bool false):=Blk.cell (a8.out) 5
   have I1:(c0).frozen? ⟨a4,5,none⟩=false:=Blk.frozen (a8.out) 5
   have I2:(c0).cell? ⟨a4,6,none⟩=some (.int .i64 0):=Blk.cell (a8.out) 6
   have I3:(c0).frozen? ⟨a4,6,none⟩=false:=Blk.frozen (a8.out) 6
   have I4:(c0).cell? ⟨a4,7,none⟩=some (.slice none 0 0):=Blk.cell (a8.out) 7
   have I5:(c0).frozen? ⟨a4,7,none⟩=false:=Blk.frozen (a8.out) 7
   have hlt_:=Blk.lt (a8.out)
   go_simp
   have m6:=hid (Below.setCell (Below.setCell (Below.setCell (Below.setCell (Below.setCell (Below.setCell (Below.setCell (Below.setCell (a2.out) (p:=⟨a4,0,none⟩) (d3.out) (.slice x.A x.n x.c)) (p:=⟨a4,1,none⟩) (d3.out) (.int .i64 p.lo)) (p:=⟨a4,2,none⟩) (d3.out) (.int .i64 p.hi)) (p:=⟨a4,3,none⟩) (d3.out) (.int .i64 p.lb)) (p:=⟨a4,4,none⟩) (d3.out) (.int .i64 p.hb)) (p:=⟨a4,5,none⟩) (d3.out) (.bool p.ft)) (p:=⟨a4,6,none⟩) (d3.out) (.int .i64 p.fb)) (p:=⟨a4,7,none⟩) (d3.out) (.slice x.B x.m x.d))
   have t3:=hid (Blk.set_ (Blk.set_ (Blk.set_ (Blk.set_ (Blk.set_ (Blk.set_ (Blk.set_ (Blk.set_ (a8.out) 0 (.slice x.A x.n x.c)) 1 (.int .i64 p.lo)) 2 (.int .i64 p.hi)) 3 (.int .i64 p.lb)) 4 (.int .i64 p.hb)) 5 (.bool p.ft)) 6 (.int .i64 p.fb)) 7 (.slice x.B x.m x.d))
   have b8:=hid (Blk.far (Blk.far (Blk.far (Blk.far (Blk.far (Blk.far (Blk.far (Blk.far (i0.out) (p:=⟨a4,0,none⟩) ((Ne.symm b2.out)) (.slice x.A x.n x.c)) (p:=⟨a4,1,none⟩) ((Ne.symm b2.out)) (.int .i64 p.lo)) (p:=⟨a4,2,none⟩) ((Ne.symm b2.out)) (.int .i64 p.hi)) (p:=⟨a4,3,none⟩) ((Ne.symm b2.out)) (.int .i64 p.lb)) (p:=⟨a4,4,none⟩) ((Ne.symm b2.out)) (.int .i64 p.hb)) (p:=⟨a4,5,none⟩) ((Ne.symm b2.out)) (.bool p.ft)) (p:=⟨a4,6,none⟩) ((Ne.symm b2.out)) (.int .i64 p.fb)) (p:=⟨a4,7,none⟩) ((Ne.symm b2.out)) (.slice x.B x.m x.d))
   obtain ⟨c1,j4⟩:∃ w',w'=(((((((((c0).setCell ⟨a4,0,none⟩ (.slice x.A x.n x.c)).setCell ⟨a4,1,none⟩ (.int .i64 p.lo)).setCell ⟨a4,2,none⟩ (.int .i64 p.hi)).setCell ⟨a4,3,none⟩ (.int .i64 p.lb)).setCell ⟨a4,4,none⟩ (.int .i64 p.hb)).setCell ⟨a4,5,none⟩ (.bool p.ft)).setCell ⟨a4,6,none⟩ (.int .i64 p.fb)).setCell ⟨a4,7,none⟩ (.slice x.B x.m x.d)):=⟨_,rfl⟩
   rw [← j4] at m6 t3 b8
   rw [← j4]
   clear j4 H0 H1 H2 H3 H4 H5 H6 H7 H8 H9 I0 I1 I2 I3 I4 I5 hlt_
   refine hK.out _ _ m6.out (fun _=>?_);clear hK K
   try simp only [pq]
   refine oneH 13 rfl fun K hK=>?_
   have I6:(c1).cell? ⟨a5,0,none⟩=some (.slice none 0 0):=Blk.cell (b8.out) 0
   have I7:(c1).frozen? ⟨a5,0,none⟩=false:=Blk.frozen (b8.out) 0
   have I8:(c1).cell? ⟨a5,1,none⟩=some (.int .i64 0):=Blk.cell (b8.out) 1
   have I9:(c1).frozen? ⟨a5,1,none⟩=false:=Blk.frozen (b8.out) 1
   have J0:(c1).cell? ⟨a5,2,none⟩=some (.int .i64 0):=Blk.cell (b8.out) 2
   have J1:(c1).frozen? ⟨a5,2,none⟩=false:=Blk.frozen (b8.out) 2
   have J2:(c1).cell? ⟨a5,3,none⟩=some (.int .i64 0):=Blk.cell (b8.out) 3
   have J3:(c1).frozen? ⟨a5,3,none⟩=false:=Blk.frozen (b8.out) 3
   have J4:(c1).cell? ⟨a5,4,none⟩=some (.int .i64 0):=Blk.cell (b8.out) 4
   have J5:(c1).frozen? ⟨a5,4,none⟩=false:=Blk.frozen (b8.out) 4
   have J6:(c1).cell? ⟨a5,5,none⟩=some (.bool false):=Blk.cell (b8.out) 5
   have J7:(c1).frozen? ⟨a5,5,none⟩=false:=Blk.frozen (b8.out) 5
   have J8:(c1).cell? ⟨a5,6,none⟩=some (.int .i64 0):=Blk.cell (b8.out) 6
   have J9:(c1).frozen? ⟨a5,6,none⟩=false:=Blk.frozen (b8.out) 6
   have K0:(c1).cell? ⟨a5,7,none⟩=some (.slice none 0 0):=Blk.cell (b8.out) 7
   have K1:(c1).frozen? ⟨a5,7,none⟩=false:=Blk.frozen (b8.out) 7
   have hlt_:=Blk.lt (b8.out)
   go_simp
   have m7:=hid (Below.setCell (Below.setCell (Below.setCell (Below.setCell (Below.setCell (Below.setCell (Below.setCell (Below.setCell (m6.out) (p:=⟨a5,0,none⟩) (d4.out) (.slice y.A y.n y.c)) (p:=⟨a5,1,none⟩) (d4.out) (.int .i64 q.lo)) (p:=⟨a5,2,none⟩) (d4.out) (.int .i64 q.hi)) (p:=⟨a5,3,none⟩) (d4.out) (.int .i64 q.lb)) (p:=⟨a5,4,none⟩) (d4.out) (.int .i64 q.hb)) (p:=⟨a5,5,none⟩) (d4.out) (.bool q.ft)) (p:=⟨a5,6,none⟩) (d4.out) (.int .i64 q.fb)) (p:=⟨a5,7,none⟩) (d4.out) (.slice y.B y.m y.d))
   have t4:=hid (Blk.far (Blk.far (Blk.far (Blk.far (Blk.far (Blk.far (Blk.far (Blk.far (t3.out) (p:=⟨a5,0,none⟩) (b2.out) (.slice y.A y.n y.c)) (p:=⟨a5,1,none⟩) (b2.out) (.int .i64 q.lo)) (p:=⟨a5,2,none⟩) (b2.out) (.int .i64 q.hi)) (p:=⟨a5,3,none⟩) (b2.out) (.int .i64 q.lb)) (p:=⟨a5,4,none⟩) (b2.out) (.int .i64 q.hb)) (p:=⟨a5,5,none⟩) (b2.out) (.bool q.ft)) (p:=⟨a5,6,none⟩) (b2.out) (.int .i64 q.fb)) (p:=⟨a5,7,none⟩) (b2.out) (.slice y.B y.m y.d))
   have t5:=hid (Blk.set_ (Blk.set_ (Blk.set_ (Blk.set_ (Blk.set_ (Blk.set_ (Blk.set_ (Blk.set_ (b8.out) 0 (.slice y.A y.n y.c)) 1 (.int .i64 q.lo)) 2 (.int .i64 q.hi)) 3 (.int .i64 q.lb)) 4 (.int .i64 q.hb)) 5 (.bool q.ft)) 6 (.int .i64 q.fb)) 7 (.slice y.B y.m y.d))
   obtain ⟨O0,j5⟩:∃ w',w'=(((((((((c1).setCell ⟨a5,0,none⟩ (.slice y.A y.n y.c)).setCell ⟨a5,1,none⟩ (.int .i64 q.lo)).setCell ⟨a5,2,none⟩ (.int .i64 q.hi)).setCell ⟨a5,3,none⟩ (.int .i64 q.lb)).setCell ⟨a5,4,none⟩ (.int .i64 q.hb)).setCell ⟨a5,5,none⟩ (.bool q.ft)).setCell ⟨a5,6,none⟩ (.int .i64 q.fb)).setCell ⟨a5,7,none⟩ (.slice y.B y.m y.d)):=⟨_,rfl⟩
   rw [← j5] at m7 t4 t5
   rw [← j5]
   clear j5 I6 I7 I8 I9 J0 J1 J2 J3 J4 J5 J6 J7 J8 J9 K0 K1 hlt_
   refine hK.out _ _ m7.out (fun _=>?_);clear hK K
   try simp only [pq]
   refine wpAnyH_done (by kernel_rfl) ?_ _
   go_wp2
   go_meet
   exact ⟨a4,a5,rfl,rfl,t4.out,t5.out,b2.out,d3.out,d4.out,m7.out⟩
  refine rdH rfl (fun K hK=>?_) ?_
  · -- 11: alloc
   go_simp
   have d5:=hid (a2.out.size)
   obtain ⟨o_,ho_⟩:∃ o,o=(.cells #[.slice none 0 0,.int .i64 0,.int .i64 0,.int .i64 0,.int .i64 0,.bool false,.int .i64 0,.slice none 0 0] 48:Obj):=⟨_,rfl⟩
   replace a2:=bA a2 o_
   subst ho_
   have d7:=hid (Blk.new (g6) 48 #[.slice none 0 0,.int .i64 0,.int .i64 0,.int .i64 0,.int .i64 0,.bool false,.int .i64 0,.slice none 0 0])
   obtain ⟨a6,j6⟩:∃ g,g=(g6).heap.size:=⟨_,rfl⟩
   obtain ⟨m8,j7⟩:∃ w',w'=(g6).alloc (.cells #[.slice none 0 0,.int .i64 0,.int .i64 0,.int .i64 0,.int .i64 0,.bool false,.int .i64 0,.slice none 0 0] 48):=⟨_,rfl⟩
   rw [← j7] at a2 d7
   rw [← j6] at d5 d7
   rw [← j6,← j7]
   clear j6 j7
   refine hK.out _ _ a2.out (fun _=>?_);clear hK K
   try simp only [pq]
   refine oneH 10 rfl fun K hK=>?_
   go_simp
   have d6:=hid (a2.out.size)
   have b3:=hid (Nat.ne_of_lt (Blk.lt d7.out))
   obtain ⟨o_,ho_⟩:∃ o,o=(.cells #[.slice none 0 0,.int .i64 0,.int .i64 0,.int .i64 0,.int .i64 0,.bool false,.int .i64 0,.slice none 0 0] 48:Obj):=⟨_,rfl⟩
   replace a2:=bA a2 o_
   replace d7:=kA d7 o_
   subst ho_
   have a9:=hid (Blk.new (m8) 48 #[.slice none 0 0,.int .i64 0,.int .i64 0,.int .i64 0,.int .i64 0,.bool false,.int .i64 0,.slice none 0 0])
   obtain ⟨a7,j8⟩:∃ g,g=(m8).heap.size:=⟨_,rfl⟩
   obtain ⟨c2,j9⟩:∃ w',w'=(m8).alloc (.cells #[.slice none 0 0,.int .i64 0,.int .i64 0,.int .i64 0,.int .i64 0,.bool false,.int .i64 0,.slice none 0 0] 48):=⟨_,rfl⟩
   rw [← j9] at a2 d7 a9
   rw [← j8] at d6 b3 a9
   rw [← j8,← j9]
   clear j8 j9
   refine hK.out _ _ a2.out (fun _=>?_);clear hK K
   try simp only [pq]
   refine oneH 12 rfl fun K hK=>?_
   have K2:(c2).cell? ⟨a7,0,none⟩=some (.slice none 0 0):=Blk.cell (a9.out) 0
   have K3:(c2).frozen? ⟨a7,0,none⟩=false:=Blk.frozen (a9.out) 0
   have K4:(c2).cell? ⟨a7,1,none⟩=some (.int .i64 0):=Blk.cell (a9.out) 1
   have K5:(c2).frozen? ⟨a7,1,none⟩=false:=Blk.frozen (a9.out) 1
   have K6:(c2).cell? ⟨a7,2,none⟩=some (.int .i64 0):=Blk.cell (a9.out) 2
   have K7:(c2).frozen? ⟨a7,2,none⟩=false:=Blk.frozen (a9.out) 2
   have K8:(c2).cell? ⟨a7,3,none⟩=some (.int .i64 0):=Blk.cell (a9.out) 3
   have K9:(c2).frozen? ⟨a7,3,none⟩=false:=Blk.frozen (a9.out) 3
   have L0:(c2).cell? ⟨a7,4,none⟩=some (.int .i64 0):=Blk.cell (a9.out) 4
   have L1:(c2).frozen? ⟨a7,4,none⟩=false:=Blk.frozen (a9.out) 4
   have L2:(c2).cell? ⟨a7,5,none⟩=some (.bool false):=Blk.cell (a9.out) 5
   have L3:(c2).frozen? ⟨a7,5,none⟩=false:=Blk.frozen (a9.out) 5
   have L4:(c2).cell? ⟨a7,6,none⟩=some (.int .i64 0):=Blk.cell (a9.out) 6
   have L5:(c2).frozen? ⟨a7,6,none⟩=false:=Blk.frozen (a9.out) 6
   have L6:(c2).cell? ⟨a7,7,none⟩=some (.slice none 0 0):=Blk.cell (a9.out) 7
   have L7:(c2).frozen? ⟨a7,7,none⟩=false:=Blk.frozen (a9.out) 7
   have hlt_:=Blk.lt (a9.out)
   go_simp
   have m9:=hid (Below.setCell (Below.setCell (Below.setCell (Below.setCell (Below.setCell (Below.setCell (Below.setCell (Below.setCell (a2.out) (p:=⟨a7,0,none⟩) (d6.out) (.slice x.A x.n x.c)) (p:=⟨a7,1,none⟩) (d6.out) (.int .i64 p.lo)) (p:=⟨a7,2,none⟩) (d6.out) (.int .i64 p.hi)) (p:=⟨a7,3,none⟩) (d6.out) (.int .i64 p.lb)) (p:=⟨a7,4,none⟩) (d6.out) (.int .i64 p.hb)) (p:=⟨a7,5,none⟩) (d6.out) (.bool p.ft)) (p:=⟨a7,6,none⟩) (d6.out) (.int .i64 p.fb)) (p:=⟨a7,7,none⟩) (d6.out) (.slice x.B x.m x.d))
   have b9:=hid (Blk.far (Blk.far (Blk.far (Blk.far (Blk.far (Blk.far (Blk.far (Blk.far (d7.out) (p:=⟨a7,0,none⟩) (b3.out) (.slice x.A x.n x.c)) (p:=⟨a7,1,none⟩) (b3.out) (.int .i64 p.lo)) (p:=⟨a7,2,none⟩) (b3.out) (.int .i64 p.hi)) (p:=⟨a7,3,none⟩) (b3.out) (.int .i64 p.lb)) (p:=⟨a7,4,none⟩) (b3.out) (.int .i64 p.hb)) (p:=⟨a7,5,none⟩) (b3.out) (.bool p.ft)) (p:=⟨a7,6,none⟩) (b3.out) (.int .i64 p.fb)) (p:=⟨a7,7,none⟩) (b3.out) (.slice x.B x.m x.d))
   have t6:=hid (Blk.set_ (Blk.set_ (Blk.set_ (Blk.set_ (Blk.set_ (Blk.set_ (Blk.set_ (Blk.set_ (a9.out) 0 (.slice x.A x.n x.c)) 1 (.int .i64 p.lo)) 2 (.int .i64 p.hi)) 3 (.int .i64 p.lb)) 4 (.int .i64 p.hb)) 5 (.bool p.ft)) 6 (.int .i64 p.fb)) 7 (.slice x.B x.m x.d))
   obtain ⟨c3,k0⟩:∃ w',w'=(((((((((c2).setCell ⟨a7,0,none⟩ (.slice x.A x.n x.c)).setCell ⟨a7,1,none⟩ (.int .i64 p.lo)).setCell ⟨a7,2,none⟩ (.int .i64 p.hi)).setCell ⟨a7,3,none⟩ (.int .i64 p.lb)).setCell ⟨a7,4,none⟩ (.int .i64 p.hb)).setCell ⟨a7,5,none⟩ (.bool p.ft)).setCell ⟨a7,6,none⟩ (.int .i64 p.fb)).setCell ⟨a7,7,none⟩ (.slice x.B x.m x.d)):=⟨_,rfl⟩
   rw [← k0] at m9 b9 t6
   rw [← k0]
   clear k0 K2 K3 K4 K5 K6 K7 K8 K9 L0 L1 L2 L3 L4 L5 L6 L7 hlt_
   refine hK.out _ _ m9.out (fun _=>?_);clear hK K
   try simp only [pq]
   refine oneH 13 rfl fun K hK=>?_
   have L8:(c3).cell? ⟨a6,0,none⟩=some (.slice none 0 0):=Blk.cell (b9.out) 0
   have L9:(c3).frozen? ⟨a6,0,none⟩=false:=Blk.frozen (b9.out) 0
   have M0:(c3).cell? ⟨a6,1,none⟩=some (.int .i64 0):=Blk.cell (b9.out) 1
   have M1:(c3).frozen? ⟨a6,1,none⟩=false:=Blk.frozen (b9.out) 1
   have M2:(c3).cell? ⟨a6,2,none⟩=some (.int .i64 0):=Blk.cell (b9.out) 2
   have M3:(c3).frozen? ⟨a6,2,none⟩=false:=Blk.frozen (b9.out) 2
   have M4:(c3).cell? ⟨a6,3,none⟩=some (.int .i64 0):=Blk.cell (b9.out) 3
   have M5:(c3).frozen? ⟨a6,3,none⟩=false:=Blk.frozen (b9.out) 3
   have M6:(c3).cell? ⟨a6,4,none⟩=some (.int .i64 0):=Blk.cell (b9.out) 4
   have M7:(c3).frozen? ⟨a6,4,none⟩=false:=Blk.frozen (b9.out) 4
   have M8:(c3).cell? ⟨a6,5,none⟩=some (.bool false):=Blk.cell (b9.out) 5
   have M9:(c3).frozen? ⟨a6,5,none⟩=false:=Blk.frozen (b9.out) 5
   have N0:(c3).cell? ⟨a6,6,none⟩=some (.int .i64 0):=Blk.cell (b9.out) 6
   have N1:(c3).frozen? ⟨a6,6,none⟩=false:=Blk.frozen (b9.out) 6
   have N2:(c3).cell? ⟨a6,7,none⟩=some (.slice none 0 0):=Blk.cell (b9.out) 7
   have N3:(c3).frozen? ⟨a6,7,none⟩=false:=Blk.frozen (b9.out) 7
   have hlt_:=Blk.lt (b9.out)
   go_simp
   have n0:=hid (Below.setCell (Below.setCell (Below.setCell (Below.setCell (Below.setCell (Below.setCell (Below.setCell (Below.setCell (m9.out) (p:=⟨a6,0,none⟩) (d5.out) (.slice y.A y.n y.c)) (p:=⟨a6,1,none⟩) (d5.out) (.int .i64 q.lo)) (p:=⟨a6,2,none⟩) (d5.out) (.int .i64 q.hi)) (p:=⟨a6,3,none⟩) (d5.out) (.int .i64 q.lb)) (p:=⟨a6,4,none⟩) (d5.out) (.int .i64 q.hb)) (p:=⟨a6,5,none⟩) (d5.out) (.bool q.ft)) (p:=⟨a6,6,none⟩) (d5.out) (.int .i64 q.fb)) (p:=⟨a6,7,none⟩) (d5.out) (.slice y.B y.m y.d))
   have t7:=hid (Blk.set_ (Blk.set_ (Blk.set_ (Blk.set_ (Blk.set_ (Blk.set_ (Blk.set_ (Blk.set_ (b9.out) 0 (.slice y.A y.n y.c)) 1 (.int .i64 q.lo)) 2 (.int .i64 q.hi)) 3 (.int .i64 q.lb)) 4 (.int .i64 q.hb)) 5 (.bool q.ft)) 6 (.int .i64 q.fb)) 7 (.slice y.B y.m y.d))
   have t8:=hid (Blk.far (Blk.far (Blk.far (Blk.far (Blk.far (Blk.far (Blk.far (Blk.far (t6.out) (p:=⟨a6,0,none⟩) ((Ne.symm b3.out)) (.slice y.A y.n y.c)) (p:=⟨a6,1,none⟩) ((Ne.symm b3.out)) (.int .i64 q.lo)) (p:=⟨a6,2,none⟩) ((Ne.symm b3.out)) (.int .i64 q.hi)) (p:=⟨a6,3,none⟩) ((Ne.symm b3.out)) (.int .i64 q.lb)) (p:=⟨a6,4,none⟩) ((Ne.symm b3.out)) (.int .i64 q.hb)) (p:=⟨a6,5,none⟩) ((Ne.symm b3.out)) (.bool q.ft)) (p:=⟨a6,6,none⟩) ((Ne.symm b3.out)) (.int .i64 q.fb)) (p:=⟨a6,7,none⟩) ((Ne.symm b3.out)) (.slice y.B y.m y.d))
   obtain ⟨O1,k4⟩:∃ w',w'=(((((((((c3).setCell ⟨a6,0,none⟩ (.slice y.A y.n y.c)).setCell ⟨a6,1,none⟩ (.int .i64 q.lo)).setCell ⟨a6,2,none⟩ (.int .i64 q.hi)).setCell ⟨a6,3,none⟩ (.int .i64 q.lb)).setCell ⟨a6,4,none⟩ (.int .i64 q.hb)).setCell ⟨a6,5,none⟩ (.bool q.ft)).setCell ⟨a6,6,none⟩ (.int .i64 q.fb)).setCell ⟨a6,7,none⟩ (.slice y.B y.m y.d)):=⟨_,rfl⟩
   rw [← k4] at n0 t7 t8
   rw [← k4]
   clear k4 L8 L9 M0 M1 M2 M3 M4 M5 M6 M7 M8 M9 N0 N1 N2 N3 hlt_
   refine hK.out _ _ n0.out (fun _=>?_);clear hK K
   try simp only [pq]
   refine wpAnyH_done (by kernel_rfl) ?_ _
   go_wp2
   go_meet
   exact ⟨a7,a6,rfl,rfl,t8.out,t7.out,(Ne.symm b3.out),d6.out,d5.out,n0.out⟩
  exact AllReadyH.nil
 case rest =>
  obtain ⟨gp,gq,rfl,rfl,kbp,kbq,hpq,hlp,hlq,kbel⟩:=hcut
  have HKP:=hid kbp;have HKQ:=hid kbq;have HKB:=hid kbel;clear kbp kbq kbel
  go_upto_region 3 with fail
  obtain ⟨w3,hw3⟩:∃ v,v=wc:=⟨_,rfl⟩
  rw [← hw3] at HKP HKQ HKB
  rw [← hw3]
  clear hw3
  go_cut [] from 21 to 32 (fun wx=>∃ (R1:Option Addr) (r1 k2:Nat) (R2:Option Addr) (r2 k3:Nat),Blk wx gp 48 #[.slice R1 r1 k2,.int .i64 p.lo,.int .i64 p.hi,.int .i64 p.lb,.int .i64 p.hb,.bool p.ft,.int .i64 p.fb,.slice R2 r2 k3]∧Blk wx gq 48 #[.slice y.A y.n y.c,.int .i64 q.lo,.int .i64 q.hi,.int .i64 q.lb,.int .i64 q.hb,.bool q.ft,.int .i64 q.fb,.slice y.B y.m y.d]∧RdI wx R1 r1 k2 (uniL p.sh q.sh)∧RdI wx R2 r2 k3 (uniL p.rs q.rs)∧(∀ g':Nat,(g'<w2.heap.size∨g'=gp∨g'=gq)→∀ a,R1=some a→a.block≠g')∧(∀ g':Nat,(g'<w2.heap.size∨g'=gp∨g'=gq)→∀ a,R2=some a→a.block≠g')∧Below w2.heap.size w2 wx)
  case first =>
   have a3:=hid (HKP.out)
   have a0:=hid (HKQ.out)
   have a1:=hid (HKB.out)
   clear HKP HKQ HKB
   replace a3:=kD a3
   replace a0:=kD a0
   replace a1:=bD a1
   refine wp_region_held_drew (S:=(fun W'=>Blk W' (gq) 48 #[.slice y.A y.n y.c,.int .i64 q.lo,.int .i64 q.hi,.int .i64 q.lb,.int .i64 q.hb,.bool q.ft,.int .i64 q.fb,.slice y.B y.m y.d])) (by kernel_rfl) a0.out (fun _=>?_)
   obtain ⟨k5,k6⟩:∃ w',w'=(w3.drew):=⟨_,rfl⟩
   rw [← k6] at a3 a0 a1
   rw [← k6]
   clear k6
   refine' twH 0 a0.out ?_
   refine' twH 2 a0.out ?_
   refine' tkH 3 a0.out ?t9 ?_
   case t9=>(rintro W' hS0;have hc0:=Blk.nth hS0 0;clear hS0;go_simp;try with_reducible rfl)
   refine' twH 5 a0.out ?_
   try simp only [pq]
   refine' twH 7 a0.out ?_
   refine' tkH 8 a0.out ?u0 ?_
   case u0=>(rintro W' hS0;have hc0:=Blk.nth hS0 7;clear hS0;go_simp;try with_reducible rfl)
   try simp only [pq]
   refine wpAnyH_ready (rs:=[1,6]) (by kernel_rfl) (by simp) ?_
   refine rdH rfl (fun K hK=>?_) ?_
   · -- 1: load
    have cs_:(k5).cell? ⟨gp,0,none⟩=some (.slice x.A x.n x.c):=Blk.cell (a3.out) 0
    go_simp
    clear cs_
    refine hK.out _ _ a0.out (fun _=>?_);clear hK K
    try simp only [pq]
    refine wpAnyH_ready (rs:=[4,6]) (by kernel_rfl) (by simp) ?_
    refine rdH rfl (fun K hK=>?_) ?_
    · -- 4: call
     have hgl1_:=Blk.lt (a3.out)
     have hgl2_:=Blk.lt (a0.out)
     have hgl3_:=Below.size (a1.out)
     go_simp
     go_at_call 85
     refine (united_any x.A y.A x.n x.c y.n y.c p.sh q.sh _ (RdI.below HXO.out.1 (a1.out)) (RdI.below HYO.out.1 (a1.out)) (by have e1_:=HXO.out.1.len;have e2_:=HYO.out.1.len;have e3_:=HS1.out;omega)).mono ?_
     rintro e N4 ⟨R710,e7,e8,rfl,ho_,f9⟩
     dsimp only
     have far713:=hid (fun (g':Nat) (hg':g'<w2.heap.size∨g'=gp∨g'=gq)=>ownI_far ho_ (show g'<_ by rcases hg' with hg'|rfl|rfl<;>omega))
     replace f9:=hid f9
     have g0:=hid ((OwnI.rd ho_).1)
     clear ho_ hgl1_ hgl2_ hgl3_
     replace a0:=kH a0 f9
     refine hK.out _ _ a0.out (fun _=>?_);clear hK K
     try simp only [pq]
     refine oneH 6 rfl fun K hK=>?_
     replace a3:=kH a3 f9
     have cs_:(N4).cell? ⟨gp,7,none⟩=some (.slice x.B x.m x.d):=Blk.cell (a3.out) 7
     go_simp
     clear cs_
     refine hK.out _ _ a0.out (fun _=>?_);clear hK K
     try simp only [pq]
     refine' twH 10 a0.out ?_
     try simp only [pq]
     refine oneH 9 rfl fun K hK=>?_
     replace a1:=bH a1 f9
     have hgl1_:=Blk.lt (a3.out)
     have hgl2_:=Blk.lt (a0.out)
     have hgl3_:=Below.size (a1.out)
     go_simp
     go_at_call 85
     refine (united_any x.B y.B x.m x.d y.m y.d p.rs q.rs _ (RdI.below HXO.out.2.1 (a1.out)) (RdI.below HYO.out.2.1 (a1.out)) (by have e1_:=HXO.out.2.1.len;have e2_:=HYO.out.2.1.len;have e3_:=HS2.out;omega)).mono ?_
     rintro e n1 ⟨R718,e9,f0,rfl,ho_,e4⟩
     dsimp only
     have far721:=hid (fun (g':Nat) (hg':g'<w2.heap.size∨g'=gp∨g'=gq)=>ownI_far ho_ (show g'<_ by rcases hg' with hg'|rfl|rfl<;>omega))
     replace e4:=hid e4
     have m2:=hid ((OwnI.rd ho_).1)
     clear ho_ hgl1_ hgl2_ hgl3_
     replace a0:=kH a0 e4
     refine hK.out _ _ a0.out (fun _=>?_);clear hK K
     try simp only [pq]
     refine oneH 11 rfl fun K hK=>?_
     replace a3:=kH a3 e4
     replace a1:=bH a1 e4
     replace g0:=iH g0 e4
     have v0_:(n1).cell? ⟨gp,0,none⟩=some (.slice x.A x.n x.c):=Blk.cell (a3.out) 0
     have f0_:(n1).frozen? ⟨gp,0,none⟩=false:=Blk.frozen (a3.out) 0
     have hlt_:=Blk.lt (a3.out)
     go_simp
     have g7:=hid (Blk.set_ (a3.out) 0 (.slice R710 e7 e8))
     have i1:=hid (Blk.far (a0.out) (p:=⟨gp,0,none⟩) (Ne.symm hpq) (.slice R710 e7 e8))
     have n2:=hid (Below.setCell (a1.out) (p:=⟨gp,0,none⟩) hlp (.slice R710 e7 e8))
     have n3:=hid (rdI_far (g0.out) (p:=⟨gp,0,none⟩) (Or.inr (far713.out gp (Or.inr (Or.inl rfl)))) (.slice R710 e7 e8))
     have n4:=hid (rdI_far (m2.out) (p:=⟨gp,0,none⟩) (Or.inr (far721.out gp (Or.inr (Or.inl rfl)))) (.slice R710 e7 e8))
     obtain ⟨n5,k7⟩:∃ w',w'=((n1).setCell ⟨gp,0,none⟩ (.slice R710 e7 e8)):=⟨_,rfl⟩
     rw [← k7] at g7 i1 n2 n3 n4
     rw [← k7]
     clear k7 v0_ f0_ hlt_ a3 a0 a1 g0 m2
     refine hK.out _ _ i1.out (fun _=>?_);clear hK K
     try simp only [pq]
     refine' twH 12 i1.out ?_
     try simp only [pq]
     refine oneH 13 rfl fun K hK=>?_
     have v0_:(n5).cell? ⟨gp,7,none⟩=some (.slice x.B x.m x.d):=Blk.cell (g7.out) 7
     have f0_:(n5).frozen? ⟨gp,7,none⟩=false:=Blk.frozen (g7.out) 7
     have hlt_:=Blk.lt (g7.out)
     go_simp
     have u1:=hid (Blk.set_ (g7.out) 7 (.slice R718 e9 f0))
     have n6:=hid (Blk.far (i1.out) (p:=⟨gp,7,none⟩) (Ne.symm hpq) (.slice R718 e9 f0))
     have u2:=hid (Below.setCell (n2.out) (p:=⟨gp,7,none⟩) hlp (.slice R718 e9 f0))
     have u3:=hid (rdI_far (n3.out) (p:=⟨gp,7,none⟩) (Or.inr (far713.out gp (Or.inr (Or.inl rfl)))) (.slice R718 e9 f0))
     have u4:=hid (rdI_far (n4.out) (p:=⟨gp,7,none⟩) (Or.inr (far721.out gp (Or.inr (Or.inl rfl)))) (.slice R718 e9 f0))
     obtain ⟨O2,k8⟩:∃ w',w'=((n5).setCell ⟨gp,7,none⟩ (.slice R718 e9 f0)):=⟨_,rfl⟩
     rw [← k8] at u1 n6 u2 u3 u4
     rw [← k8]
     clear k8 v0_ f0_ hlt_ g7 i1 n2 n3 n4
     refine hK.out _ _ n6.out (fun _=>?_);clear hK K
     try simp only [pq]
     refine wpAnyH_done (by kernel_rfl) ?_ _
     go_wp2
     go_meet
     exact ⟨R710,e7,e8,R718,e9,f0,u1.out,n6.out,u3.out,u4.out,far713.out,far721.out,u2.out⟩
    refine rdH rfl (fun K hK=>?_) ?_
    · -- 6: load
     have cs_:(k5).cell? ⟨gp,7,none⟩=some (.slice x.B x.m x.d):=Blk.cell (a3.out) 7
     go_simp
     clear cs_
     refine hK.out _ _ a0.out (fun _=>?_);clear hK K
     try simp only [pq]
     refine oneH 4 rfl fun K hK=>?_
     have hgl1_:=Blk.lt (a3.out)
     have hgl2_:=Blk.lt (a0.out)
     have hgl3_:=Below.size (a1.out)
     go_simp
     go_at_call 85
     refine (united_any x.A y.A x.n x.c y.n y.c p.sh q.sh _ (RdI.below HXO.out.1 (a1.out)) (RdI.below HYO.out.1 (a1.out)) (by have e1_:=HXO.out.1.len;have e2_:=HYO.out.1.len;have e3_:=HS1.out;omega)).mono ?_
     rintro e O3 ⟨R740,f1,f2,rfl,ho_,g1⟩
     dsimp only
     have far743:=hid (fun (g':Nat) (hg':g'<w2.heap.size∨g'=gp∨g'=gq)=>ownI_far ho_ (show g'<_ by rcases hg' with hg'|rfl|rfl<;>omega))
     replace g1:=hid g1
     have g2:=hid ((OwnI.rd ho_).1)
     clear ho_ hgl1_ hgl2_ hgl3_
     replace a0:=kH a0 g1
     refine hK.out _ _ a0.out (fun _=>?_);clear hK K
     try simp only [pq]
     refine' twH 10 a0.out ?_
     try simp only [pq]
     refine oneH 9 rfl fun K hK=>?_
     replace a1:=bH a1 g1
     replace a3:=kH a3 g1
     have hgl1_:=Blk.lt (a3.out)
     have hgl2_:=Blk.lt (a0.out)
     have hgl3_:=Below.size (a1.out)
     go_simp
     go_at_call 85
     refine (united_any x.B y.B x.m x.d y.m y.d p.rs q.rs _ (RdI.below HXO.out.2.1 (a1.out)) (RdI.below HYO.out.2.1 (a1.out)) (by have e1_:=HXO.out.2.1.len;have e2_:=HYO.out.2.1.len;have e3_:=HS2.out;omega)).mono ?_
     rintro e n7 ⟨R748,f3,f4,rfl,ho_,e5⟩
     dsimp only
     have far751:=hid (fun (g':Nat) (hg':g'<w2.heap.size∨g'=gp∨g'=gq)=>ownI_far ho_ (show g'<_ by rcases hg' with hg'|rfl|rfl<;>omega))
     replace e5:=hid e5
     have m3:=hid ((OwnI.rd ho_).1)
     clear ho_ hgl1_ hgl2_ hgl3_
     replace a0:=kH a0 e5
     refine hK.out _ _ a0.out (fun _=>?_);clear hK K
     try simp only [pq]
     refine oneH 11 rfl fun K hK=>?_
     replace a3:=kH a3 e5
     replace a1:=bH a1 e5
     replace g2:=iH g2 e5
     have v0_:(n7).cell? ⟨gp,0,none⟩=some (.slice x.A x.n x.c):=Blk.cell (a3.out) 0
     have f0_:(n7).frozen? ⟨gp,0,none⟩=false:=Blk.frozen (a3.out) 0
     have hlt_:=Blk.lt (a3.out)
     go_simp
     have g8:=hid (Blk.set_ (a3.out) 0 (.slice R740 f1 f2))
     have i2:=hid (Blk.far (a0.out) (p:=⟨gp,0,none⟩) (Ne.symm hpq) (.slice R740 f1 f2))
     have n8:=hid (Below.setCell (a1.out) (p:=⟨gp,0,none⟩) hlp (.slice R740 f1 f2))
     have n9:=hid (rdI_far (g2.out) (p:=⟨gp,0,none⟩) (Or.inr (far743.out gp (Or.inr (Or.inl rfl)))) (.slice R740 f1 f2))
     have o0:=hid (rdI_far (m3.out) (p:=⟨gp,0,none⟩) (Or.inr (far751.out gp (Or.inr (Or.inl rfl)))) (.slice R740 f1 f2))
     obtain ⟨o1,k9⟩:∃ w',w'=((n7).setCell ⟨gp,0,none⟩ (.slice R740 f1 f2)):=⟨_,rfl⟩
     rw [← k9] at g8 i2 n8 n9 o0
     rw [← k9]
     clear k9 v0_ f0_ hlt_ a3 a0 a1 g2 m3
     refine hK.out _ _ i2.out (fun _=>?_);clear hK K
     try simp only [pq]
     refine' twH 12 i2.out ?_
     try simp only [pq]
     refine oneH 13 rfl fun K hK=>?_
     have v0_:(o1).cell? ⟨gp,7,none⟩=some (.slice x.B x.m x.d):=Blk.cell (g8.out) 7
     have f0_:(o1).frozen? ⟨gp,7,none⟩=false:=Blk.frozen (g8.out) 7
     have hlt_:=Blk.lt (g8.out)
     go_simp
     have u5:=hid (Blk.set_ (g8.out) 7 (.slice R748 f3 f4))
     have o2:=hid (Blk.far (i2.out) (p:=⟨gp,7,none⟩) (Ne.symm hpq) (.slice R748 f3 f4))
     have u6:=hid (Below.setCell (n8.out) (p:=⟨gp,7,none⟩) hlp (.slice R748 f3 f4))
     have u7:=hid (rdI_far (n9.out) (p:=⟨gp,7,none⟩) (Or.inr (far743.out gp (Or.inr (Or.inl rfl)))) (.slice R748 f3 f4))
     have u8:=hid (rdI_far (o0.out) (p:=⟨gp,7,none⟩) (Or.inr (far751.out gp (Or.inr (Or.inl rfl)))) (.slice R748 f3 f4))
     obtain ⟨O4,l0⟩:∃ w',w'=((o1).setCell ⟨gp,7,none⟩ (.slice R748 f3 f4)):=⟨_,rfl⟩
     rw [← l0] at u5 o2 u6 u7 u8
     rw [← l0]
     clear l0 v0_ f0_ hlt_ g8 i2 n8 n9 o0
     refine hK.out _ _ o2.out (fun _=>?_);clear hK K
     try simp only [pq]
     refine wpAnyH_done (by kernel_rfl) ?_ _
     go_wp2
     go_meet
     exact ⟨R740,f1,f2,R748,f3,f4,u5.out,o2.out,u7.out,u8.out,far743.out,far751.out,u6.out⟩
    exact AllReadyH.nil
   refine rdH rfl (fun K hK=>?_) ?_
   · -- 6: load
    have cs_:(k5).cell? ⟨gp,7,none⟩=some (.slice x.B x.m x.d):=Blk.cell (a3.out) 7
    go_simp
    clear cs_
    refine hK.out _ _ a0.out (fun _=>?_);clear hK K
    try simp only [pq]
    refine oneH 1 rfl fun K hK=>?_
    have cs_:(k5).cell? ⟨gp,0,none⟩=some (.slice x.A x.n x.c):=Blk.cell (a3.out) 0
    go_simp
    clear cs_
    refine hK.out _ _ a0.out (fun _=>?_);clear hK K
    try simp only [pq]
    refine oneH 4 rfl fun K hK=>?_
    have hgl1_:=Blk.lt (a3.out)
    have hgl2_:=Blk.lt (a0.out)
    have hgl3_:=Below.size (a1.out)
    go_simp
    go_at_call 85
    refine (united_any x.A y.A x.n x.c y.n y.c p.sh q.sh _ (RdI.below HXO.out.1 (a1.out)) (RdI.below HYO.out.1 (a1.out)) (by have e1_:=HXO.out.1.len;have e2_:=HYO.out.1.len;have e3_:=HS1.out;omega)).mono ?_
    rintro e O5 ⟨R770,f5,f6,rfl,ho_,g3⟩
    dsimp only
    have far773:=hid (fun (g':Nat) (hg':g'<w2.heap.size∨g'=gp∨g'=gq)=>ownI_far ho_ (show g'<_ by rcases hg' with hg'|rfl|rfl<;>omega))
    replace g3:=hid g3
    have g4:=hid ((OwnI.rd ho_).1)
    clear ho_ hgl1_ hgl2_ hgl3_
    replace a0:=kH a0 g3
    refine hK.out _ _ a0.out (fun _=>?_);clear hK K
    try simp only [pq]
    refine' twH 10 a0.out ?_
    try simp only [pq]
    refine oneH 9 rfl fun K hK=>?_
    replace a1:=bH a1 g3
    replace a3:=kH a3 g3
    have hgl1_:=Blk.lt (a3.out)
    have hgl2_:=Blk.lt (a0.out)
    have hgl3_:=Below.size (a1.out)
    go_simp
    go_at_call 85
    refine (united_any x.B y.B x.m x.d y.m y.d p.rs q.rs _ (RdI.below HXO.out.2.1 (a1.out)) (RdI.below HYO.out.2.1 (a1.out)) (by have e1_:=HXO.out.2.1.len;have e2_:=HYO.out.2.1.len;have e3_:=HS2.out;omega)).mono ?_
    rintro e o3 ⟨R778,f7,f8,rfl,ho_,e6⟩
    dsimp only
    have far781:=hid (fun (g':Nat) (hg':g'<w2.heap.size∨g'=gp∨g'=gq)=>ownI_far ho_ (show g'<_ by rcases hg' with hg'|rfl|rfl<;>omega))
    replace e6:=hid e6
    have m4:=hid ((OwnI.rd ho_).1)
    clear ho_ hgl1_ hgl2_ hgl3_
    replace a0:=kH a0 e6
    refine hK.out _ _ a0.out (fun _=>?_);clear hK K
    try simp only [pq]
    refine oneH 11 rfl fun K hK=>?_
    replace a3:=kH a3 e6
    replace a1:=bH a1 e6
    replace g4:=iH g4 e6
    have v0_:(o3).cell? ⟨gp,0,none⟩=some (.slice x.A x.n x.c):=Blk.cell (a3.out) 0
    have f0_:(o3).frozen? ⟨gp,0,none⟩=false:=Blk.frozen (a3.out) 0
    have hlt_:=Blk.lt (a3.out)
    go_simp
    have g9:=hid (Blk.set_ (a3.out) 0 (.slice R770 f5 f6))
    have i3:=hid (Blk.far (a0.out) (p:=⟨gp,0,none⟩) (Ne.symm hpq) (.slice R770 f5 f6))
    have o4:=hid (Below.setCell (a1.out) (p:=⟨gp,0,none⟩) hlp (.slice R770 f5 f6))
    have o5:=hid (rdI_far (g4.out) (p:=⟨gp,0,none⟩) (Or.inr (far773.out gp (Or.inr (Or.inl rfl)))) (.slice R770 f5 f6))
    have o6:=hid (rdI_far (m4.out) (p:=⟨gp,0,none⟩) (Or.inr (far781.out gp (Or.inr (Or.inl rfl)))) (.slice R770 f5 f6))
    obtain ⟨o7,l1⟩:∃ w',w'=((o3).setCell ⟨gp,0,none⟩ (.slice R770 f5 f6)):=⟨_,rfl⟩
    rw [← l1] at g9 i3 o4 o5 o6
    rw [← l1]
    clear l1 v0_ f0_ hlt_ a3 a0 a1 g4 m4
    refine hK.out _ _ i3.out (fun _=>?_);clear hK K
    try simp only [pq]
    refine' twH 12 i3.out ?_
    try simp only [pq]
    refine oneH 13 rfl fun K hK=>?_
    have v0_:(o7).cell? ⟨gp,7,none⟩=some (.slice x.B x.m x.d):=Blk.cell (g9.out) 7
    have f0_:(o7).frozen? ⟨gp,7,none⟩=false:=Blk.frozen (g9.out) 7
    have hlt_:=Blk.lt (g9.out)
    go_simp
    have u9:=hid (Blk.set_ (g9.out) 7 (.slice R778 f7 f8))
    have o8:=hid (Blk.far (i3.out) (p:=⟨gp,7,none⟩) (Ne.symm hpq) (.slice R778 f7 f8))
    have v3:=hid (Below.setCell (o4.out) (p:=⟨gp,7,none⟩) hlp (.slice R778 f7 f8))
    have v4:=hid (rdI_far (o5.out) (p:=⟨gp,7,none⟩) (Or.inr (far773.out gp (Or.inr (Or.inl rfl)))) (.slice R778 f7 f8))
    have v5:=hid (rdI_far (o6.out) (p:=⟨gp,7,none⟩) (Or.inr (far781.out gp (Or.inr (Or.inl rfl)))) (.slice R778 f7 f8))
    obtain ⟨O6,l2⟩:∃ w',w'=((o7).setCell ⟨gp,7,none⟩ (.slice R778 f7 f8)):=⟨_,rfl⟩
    rw [← l2] at u9 o8 v3 v4 v5
    rw [← l2]
    clear l2 v0_ f0_ hlt_ g9 i3 o4 o5 o6
    refine hK.out _ _ o8.out (fun _=>?_);clear hK K
    try simp only [pq]
    refine wpAnyH_done (by kernel_rfl) ?_ _
    go_wp2
    go_meet
    exact ⟨R770,f5,f6,R778,f7,f8,u9.out,o8.out,v4.out,v5.out,far773.out,far781.out,v3.out⟩
   exact AllReadyH.nil
  case rest =>
   obtain ⟨R1,r1,k2,R2,r2,k3,kbp,kbq,kr1,kr2,kf1,kf2,kbel⟩:=hcut
   clear HKP HKQ HKB
   have HKP:=hid kbp;have HKQ:=hid kbq;have HKB:=hid kbel;have HR1:=hid kr1;have HR2:=hid kr2;have HF1:=hid kf1;have HF2:=hid kf2;clear kbp kbq kbel kr1 kr2 kf1 kf2
   obtain ⟨lo1,hlo1⟩:∃ v,v=if p.lo<q.lo then q.lo else p.lo:=⟨_,rfl⟩
   obtain ⟨lb1,hlb1⟩:∃ v,v=if p.lo<q.lo then q.lb else p.lb:=⟨_,rfl⟩
   obtain ⟨hi1,hhi1⟩:∃ v,v=if q.hi<p.hi then q.hi else p.hi:=⟨_,rfl⟩
   obtain ⟨hb1,hhb1⟩:∃ v,v=if q.hi<p.hi then q.hb else p.hb:=⟨_,rfl⟩
   obtain ⟨ft1,hft1⟩:∃ v,v=(p.ft || q.ft):=⟨_,rfl⟩
   obtain ⟨fb1,hfb1⟩:∃ v,v=if q.ft then q.fb else p.fb:=⟨_,rfl⟩
   have HLO1:=hid hlo1;clear hlo1
   have HLB1:=hid hlb1;clear hlb1
   have HHI1:=hid hhi1;clear hhi1
   have HHB1:=hid hhb1;clear hhb1
   have HFT1:=hid hft1;clear hft1
   have HFB1:=hid hfb1;clear hfb1
   obtain ⟨v0,hv0⟩:∃ v,v=wc:=⟨_,rfl⟩
   rw [← hv0] at HKP HKQ HKB HR1 HR2
   rw [← hv0]
   clear hv0
   have b5:=hid (HKP.out)
   have b0:=hid (HKQ.out)
   have c4:=hid (HKB.out)
   have c7:=hid (HR1.out)
   have c8:=hid (HR2.out)
   clear HKP HKQ HKB HR1 HR2
   obtain ⟨v6,v7,v8,v9,w0,w7,w8,w9⟩:=at8 b5
   obtain ⟨x0,x1,x2,x3,x4,x6,x7,x8⟩:=at8 b0
   go_upto_if 39 with fail
   clear v6 v7 v8 v9 w0 w7 w8 w9 x0 x1 x2 x3 x4 x6 x7 x8
   go_cut [] from 39 to 49 (fun wx=>Blk wx gp 48 #[.slice R1 r1 k2,.int .i64 lo1,.int .i64 p.hi,.int .i64 lb1,.int .i64 p.hb,.bool p.ft,.int .i64 p.fb,.slice R2 r2 k3]∧Blk wx gq 48 #[.slice y.A y.n y.c,.int .i64 q.lo,.int .i64 q.hi,.int .i64 q.lb,.int .i64 q.hb,.bool q.ft,.int .i64 q.fb,.slice y.B y.m y.d]∧RdI wx R1 r1 k2 (uniL p.sh q.sh)∧RdI wx R2 r2 k3 (uniL p.rs q.rs)∧Below w2.heap.size w2 wx)
   case first =>
    by_cases hif:p.lo<q.lo
    · have e1:lo1=q.lo:=HLO1.out.trans (if_pos hif)
      have e2:lb1=q.lb:=HLB1.out.trans (if_pos hif)
      have E1:=hid e1;have E2:=hid e2;clear e1 e2
      have hif2:q.lo > p.lo:=hif
      go_upto_region 5 with fail
      replace b5:=kD b5
      replace b0:=kD b0
      replace c4:=bD c4
      replace c7:=iD c7
      replace c8:=iD c8
      refine wp_region_held_drew (S:=(fun W'=>Blk W' (gq) 48 #[.slice y.A y.n y.c,.int .i64 q.lo,.int .i64 q.hi,.int .i64 q.lb,.int .i64 q.hb,.bool q.ft,.int .i64 q.fb,.slice y.B y.m y.d])) (by kernel_rfl) b0.out (fun _=>?_)
      obtain ⟨o9,l3⟩:∃ w',w'=(v0.drew):=⟨_,rfl⟩
      rw [← l3] at b5 b0 c4 c7 c8
      rw [← l3]
      clear l3
      refine' twH 0 b0.out ?_
      refine' twH 1 b0.out ?_
      refine' tkH 2 b0.out ?y0 ?_
      case y0=>(rintro W' hS0;have hc0:=Blk.nth hS0 1;clear hS0;go_simp;try with_reducible rfl)
      refine' twH 3 b0.out ?_
      try simp only [pq]
      refine' twH 4 b0.out ?_
      refine' tkH 5 b0.out ?y1 ?_
      case y1=>(rintro W' hS0;have hc0:=Blk.nth hS0 3;clear hS0;go_simp;try with_reducible rfl)
      refine' twH 6 b0.out ?_
      refine' twH 7 b0.out ?_
      try simp only [pq]
      refine oneH 8 rfl fun K hK=>?_
      have v0_:(o9).cell? ⟨gp,1,none⟩=some (.int .i64 p.lo):=Blk.cell (b5.out) 1
      have f0_:(o9).frozen? ⟨gp,1,none⟩=false:=Blk.frozen (b5.out) 1
      have hlt_:=Blk.lt (b5.out)
      go_simp
      have h0:=hid (Blk.set_ (b5.out) 1 (.int .i64 q.lo))
      have h4:=hid (Blk.far (b0.out) (p:=⟨gp,1,none⟩) (Ne.symm hpq) (.int .i64 q.lo))
      have p0:=hid (Below.setCell (c4.out) (p:=⟨gp,1,none⟩) hlp (.int .i64 q.lo))
      have p1:=hid (rdI_far (c7.out) (p:=⟨gp,1,none⟩) (Or.inr (HF1.out gp (Or.inr (Or.inl rfl)))) (.int .i64 q.lo))
      have p2:=hid (rdI_far (c8.out) (p:=⟨gp,1,none⟩) (Or.inr (HF2.out gp (Or.inr (Or.inl rfl)))) (.int .i64 q.lo))
      obtain ⟨p3,l4⟩:∃ w',w'=((o9).setCell ⟨gp,1,none⟩ (.int .i64 q.lo)):=⟨_,rfl⟩
      rw [← l4] at h0 h4 p0 p1 p2
      rw [← l4]
      clear l4 v0_ f0_ hlt_ b5 b0 c4 c7 c8
      refine hK.out _ _ h4.out (fun _=>?_);clear hK K
      try simp only [pq]
      refine' twH 9 h4.out ?_
      refine' twH 10 h4.out ?_
      try simp only [pq]
      refine oneH 11 rfl fun K hK=>?_
      have v0_:(p3).cell? ⟨gp,3,none⟩=some (.int .i64 p.lb):=Blk.cell (h0.out) 3
      have f0_:(p3).frozen? ⟨gp,3,none⟩=false:=Blk.frozen (h0.out) 3
      have hlt_:=Blk.lt (h0.out)
      go_simp
      have y2:=hid (Blk.set_ (h0.out) 3 (.int .i64 q.lb))
      have p4:=hid (Blk.far (h4.out) (p:=⟨gp,3,none⟩) (Ne.symm hpq) (.int .i64 q.lb))
      have y3:=hid (Below.setCell (p0.out) (p:=⟨gp,3,none⟩) hlp (.int .i64 q.lb))
      have y4:=hid (rdI_far (p1.out) (p:=⟨gp,3,none⟩) (Or.inr (HF1.out gp (Or.inr (Or.inl rfl)))) (.int .i64 q.lb))
      have y5:=hid (rdI_far (p2.out) (p:=⟨gp,3,none⟩) (Or.inr (HF2.out gp (Or.inr (Or.inl rfl)))) (.int .i64 q.lb))
      obtain ⟨O7,l5⟩:∃ w',w'=((p3).setCell ⟨gp,3,none⟩ (.int .i64 q.lb)):=⟨_,rfl⟩
      rw [← l5] at y2 p4 y3 y4 y5
      rw [← l5]
      clear l5 v0_ f0_ hlt_ h0 h4 p0 p1 p2
      refine hK.out _ _ p4.out (fun _=>?_);clear hK K
      try simp only [pq]
      refine wpAnyH_done (by kernel_rfl) ?_ _
      go_wp2
      go_meet
      exact ⟨by rw [E1.out,E2.out];exact y2.out,p4.out,y4.out,y5.out,y3.out⟩
    · have e1:lo1=p.lo:=HLO1.out.trans (if_neg hif)
      have e2:lb1=p.lb:=HLB1.out.trans (if_neg hif)
      have E1:=hid e1;have E2:=hid e2;clear e1 e2
      have hif2:¬ q.lo > p.lo:=hif
      go_wp2_with fail
      go_meet
      exact ⟨by rw [E1.out,E2.out];exact b5.out,b0.out,c7.out,c8.out,c4.out⟩
   case rest =>
    obtain ⟨kbp,kbq,kr1,kr2,kbel⟩:=hcut
    clear b5 b0 c4 c7 c8
    have HKP:=hid kbp;have HKQ:=hid kbq;have HKB:=hid kbel;have HR1:=hid kr1;have HR2:=hid kr2;clear kbp kbq kbel kr1 kr2
    obtain ⟨v1,hv1⟩:∃ v,v=wc:=⟨_,rfl⟩
    rw [← hv1] at HKP HKQ HKB HR1 HR2
    rw [← hv1]
    clear hv1
    have b6:=hid (HKP.out)
    have b1:=hid (HKQ.out)
    have c5:=hid (HKB.out)
    have c9:=hid (HR1.out)
    have d0:=hid (HR2.out)
    clear HKP HKQ HKB HR1 HR2
    obtain ⟨y6,y7,y8,y9,z0,z1,z2,z3⟩:=at8 b6
    obtain ⟨z4,z5,z6,z7,z8,z9,A0,A1⟩:=at8 b1
    go_upto_if 56 with fail
    clear y6 y7 y8 y9 z0 z1 z2 z3 z4 z5 z6 z7 z8 z9 A0 A1
    go_cut [] from 56 to 66 (fun wx=>Blk wx gp 48 #[.slice R1 r1 k2,.int .i64 lo1,.int .i64 hi1,.int .i64 lb1,.int .i64 hb1,.bool p.ft,.int .i64 p.fb,.slice R2 r2 k3]∧Blk wx gq 48 #[.slice y.A y.n y.c,.int .i64 q.lo,.int .i64 q.hi,.int .i64 q.lb,.int .i64 q.hb,.bool q.ft,.int .i64 q.fb,.slice y.B y.m y.d]∧RdI wx R1 r1 k2 (uniL p.sh q.sh)∧RdI wx R2 r2 k3 (uniL p.rs q.rs)∧Below w2.heap.size w2 wx)
    case first =>
     by_cases hif:q.hi<p.hi
     · have e1:hi1=q.hi:=HHI1.out.trans (if_pos hif)
       have e2:hb1=q.hb:=HHB1.out.trans (if_pos hif)
       have E1:=hid e1;have E2:=hid e2;clear e1 e2
       go_upto_region 7 with fail
       replace b6:=kD b6
       replace b1:=kD b1
       replace c5:=bD c5
       replace c9:=iD c9
       replace d0:=iD d0
       refine wp_region_held_drew (S:=(fun W'=>Blk W' (gq) 48 #[.slice y.A y.n y.c,.int .i64 q.lo,.int .i64 q.hi,.int .i64 q.lb,.int .i64 q.hb,.bool q.ft,.int .i64 q.fb,.slice y.B y.m y.d])) (by kernel_rfl) b1.out (fun _=>?_)
       obtain ⟨p5,l6⟩:∃ w',w'=(v1.drew):=⟨_,rfl⟩
       rw [← l6] at b6 b1 c5 c9 d0
       rw [← l6]
       clear l6
       refine' twH 0 b1.out ?_
       refine' twH 1 b1.out ?_
       refine' tkH 2 b1.out ?A2 ?_
       case A2=>(rintro W' hS0;have hc0:=Blk.nth hS0 2;clear hS0;go_simp;try with_reducible rfl)
       refine' twH 3 b1.out ?_
       try simp only [pq]
       refine' twH 4 b1.out ?_
       refine' tkH 5 b1.out ?A3 ?_
       case A3=>(rintro W' hS0;have hc0:=Blk.nth hS0 4;clear hS0;go_simp;try with_reducible rfl)
       refine' twH 6 b1.out ?_
       refine' twH 7 b1.out ?_
       try simp only [pq]
       refine oneH 8 rfl fun K hK=>?_
       have v0_:(p5).cell? ⟨gp,2,none⟩=some (.int .i64 p.hi):=Blk.cell (b6.out) 2
       have f0_:(p5).frozen? ⟨gp,2,none⟩=false:=Blk.frozen (b6.out) 2
       have hlt_:=Blk.lt (b6.out)
       go_simp
       have h5:=hid (Blk.set_ (b6.out) 2 (.int .i64 q.hi))
       have h6:=hid (Blk.far (b1.out) (p:=⟨gp,2,none⟩) (Ne.symm hpq) (.int .i64 q.hi))
       have p6:=hid (Below.setCell (c5.out) (p:=⟨gp,2,none⟩) hlp (.int .i64 q.hi))
       have p7:=hid (rdI_far (c9.out) (p:=⟨gp,2,none⟩) (Or.inr (HF1.out gp (Or.inr (Or.inl rfl)))) (.int .i64 q.hi))
       have p8:=hid (rdI_far (d0.out) (p:=⟨gp,2,none⟩) (Or.inr (HF2.out gp (Or.inr (Or.inl rfl)))) (.int .i64 q.hi))
       obtain ⟨p9,l7⟩:∃ w',w'=((p5).setCell ⟨gp,2,none⟩ (.int .i64 q.hi)):=⟨_,rfl⟩
       rw [← l7] at h5 h6 p6 p7 p8
       rw [← l7]
       clear l7 v0_ f0_ hlt_ b6 b1 c5 c9 d0
       refine hK.out _ _ h6.out (fun _=>?_);clear hK K
       try simp only [pq]
       refine' twH 9 h6.out ?_
       refine' twH 10 h6.out ?_
       try simp only [pq]
       refine oneH 11 rfl fun K hK=>?_
       have v0_:(p9).cell? ⟨gp,4,none⟩=some (.int .i64 p.hb):=Blk.cell (h5.out) 4
       have f0_:(p9).frozen? ⟨gp,4,none⟩=false:=Blk.frozen (h5.out) 4
       have hlt_:=Blk.lt (h5.out)
       go_simp
       have A4:=hid (Blk.set_ (h5.out) 4 (.int .i64 q.hb))
       have q8:=hid (Blk.far (h6.out) (p:=⟨gp,4,none⟩) (Ne.symm hpq) (.int .i64 q.hb))
       have A5:=hid (Below.setCell (p6.out) (p:=⟨gp,4,none⟩) hlp (.int .i64 q.hb))
       have A6:=hid (rdI_far (p7.out) (p:=⟨gp,4,none⟩) (Or.inr (HF1.out gp (Or.inr (Or.inl rfl)))) (.int .i64 q.hb))
       have A7:=hid (rdI_far (p8.out) (p:=⟨gp,4,none⟩) (Or.inr (HF2.out gp (Or.inr (Or.inl rfl)))) (.int .i64 q.hb))
       obtain ⟨O8,l8⟩:∃ w',w'=((p9).setCell ⟨gp,4,none⟩ (.int .i64 q.hb)):=⟨_,rfl⟩
       rw [← l8] at A4 q8 A5 A6 A7
       rw [← l8]
       clear l8 v0_ f0_ hlt_ h5 h6 p6 p7 p8
       refine hK.out _ _ q8.out (fun _=>?_);clear hK K
       try simp only [pq]
       refine wpAnyH_done (by kernel_rfl) ?_ _
       go_wp2
       go_meet
       exact ⟨by rw [E1.out,E2.out];exact A4.out,q8.out,A6.out,A7.out,A5.out⟩
     · have e1:hi1=p.hi:=HHI1.out.trans (if_neg hif)
       have e2:hb1=p.hb:=HHB1.out.trans (if_neg hif)
       have E1:=hid e1;have E2:=hid e2;clear e1 e2
       go_wp2_with fail
       go_meet
       exact ⟨by rw [E1.out,E2.out];exact b6.out,b1.out,c9.out,d0.out,c5.out⟩
    case rest =>
     obtain ⟨kbp,kbq,kr1,kr2,kbel⟩:=hcut
     clear b6 b1 c5 c9 d0
     have HKP:=hid kbp;have HKQ:=hid kbq;have HKB:=hid kbel;have HR1:=hid kr1;have HR2:=hid kr2;clear kbp kbq kbel kr1 kr2
     obtain ⟨v2,hv2⟩:∃ v,v=wc:=⟨_,rfl⟩
     rw [← hv2] at HKP HKQ HKB HR1 HR2
     rw [← hv2]
     clear hv2
     have b7:=hid (HKP.out)
     have b4:=hid (HKQ.out)
     have c6:=hid (HKB.out)
     have d1:=hid (HR1.out)
     have d2:=hid (HR2.out)
     clear HKP HKQ HKB HR1 HR2
     obtain ⟨A8,A9,B0,B1,B2,B3,B4,B5⟩:=at8 b7
     obtain ⟨B6,B7,B8,B9,C0,C1,C2,C3⟩:=at8 b4
     go_upto_if 68 with fail
     clear A8 A9 B0 B1 B2 B3 B4 B5 B6 B7 B8 B9 C0 C1 C2 C3
     go_cut [] from 68 to 72 (fun wx=>Blk wx gp 48 #[.slice R1 r1 k2,.int .i64 lo1,.int .i64 hi1,.int .i64 lb1,.int .i64 hb1,.bool ft1,.int .i64 fb1,.slice R2 r2 k3]∧Blk wx gq 48 #[.slice y.A y.n y.c,.int .i64 q.lo,.int .i64 q.hi,.int .i64 q.lb,.int .i64 q.hb,.bool q.ft,.int .i64 q.fb,.slice y.B y.m y.d]∧RdI wx R1 r1 k2 (uniL p.sh q.sh)∧RdI wx R2 r2 k3 (uniL p.rs q.rs)∧Below w2.heap.size w2 wx)
     case first =>
      cases hif:q.ft
      · have e1:ft1=p.ft:=HFT1.out.trans (by rw [hif,Bool.or_false])
        have e2:fb1=p.fb:=HFB1.out.trans (by rw [hif];rfl)
        have E1:=hid e1;have E2:=hid e2;clear e1 e2
        go_wp2_with fail
        go_meet
        exact ⟨by rw [E1.out,E2.out];exact b7.out,b4.out,d1.out,d2.out,c6.out⟩
      · have e1:ft1=true:=HFT1.out.trans (by rw [hif,Bool.or_true])
        have e2:fb1=q.fb:=HFB1.out.trans (if_pos hif)
        have E1:=hid e1;have E2:=hid e2;clear e1 e2
        go_upto_region 9 with fail
        replace b7:=kD b7
        replace b4:=kD b4
        replace c6:=bD c6
        replace d1:=iD d1
        replace d2:=iD d2
        refine wp_region_held_drew (S:=(fun W'=>Blk W' (gq) 48 #[.slice y.A y.n y.c,.int .i64 q.lo,.int .i64 q.hi,.int .i64 q.lb,.int .i64 q.hb,.bool q.ft,.int .i64 q.fb,.slice y.B y.m y.d])) (by kernel_rfl) b4.out (fun _=>?_)
        obtain ⟨q9,l9⟩:∃ w',w'=(v2.drew):=⟨_,rfl⟩
        rw [← l9] at b7 b4 c6 d1 d2
        rw [← l9]
        clear l9
        refine' twH 0 b4.out ?_
        refine' tkH 1 b4.out ?C4 ?_
        case C4=>(rintro W' hS0;have hc0:=Blk.nth hS0 6;clear hS0;go_simp;try with_reducible rfl)
        refine' twH 2 b4.out ?_
        try simp only [pq]
        refine oneH 3 rfl fun K hK=>?_
        have v0_:(q9).cell? ⟨gp,5,none⟩=some (.bool p.ft):=Blk.cell (b7.out) 5
        have f0_:(q9).frozen? ⟨gp,5,none⟩=false:=Blk.frozen (b7.out) 5
        have hlt_:=Blk.lt (b7.out)
        go_simp
        have h7:=hid (Blk.set_ (b7.out) 5 (.bool true))
        have i4:=hid (Blk.far (b4.out) (p:=⟨gp,5,none⟩) (Ne.symm hpq) (.bool true))
        have r0:=hid (Below.setCell (c6.out) (p:=⟨gp,5,none⟩) hlp (.bool true))
        have r3:=hid (rdI_far (d1.out) (p:=⟨gp,5,none⟩) (Or.inr (HF1.out gp (Or.inr (Or.inl rfl)))) (.bool true))
        have r4:=hid (rdI_far (d2.out) (p:=⟨gp,5,none⟩) (Or.inr (HF2.out gp (Or.inr (Or.inl rfl)))) (.bool true))
        obtain ⟨r5,m0⟩:∃ w',w'=((q9).setCell ⟨gp,5,none⟩ (.bool true)):=⟨_,rfl⟩
        rw [← m0] at h7 i4 r0 r3 r4
        rw [← m0]
        clear m0 v0_ f0_ hlt_ b7 b4 c6 d1 d2
        refine hK.out _ _ i4.out (fun _=>?_);clear hK K
        try simp only [pq]
        refine' twH 4 i4.out ?_
        try simp only [pq]
        refine oneH 5 rfl fun K hK=>?_
        have v0_:(r5).cell? ⟨gp,6,none⟩=some (.int .i64 p.fb):=Blk.cell (h7.out) 6
        have f0_:(r5).frozen? ⟨gp,6,none⟩=false:=Blk.frozen (h7.out) 6
        have hlt_:=Blk.lt (h7.out)
        go_simp
        have C5:=hid (Blk.set_ (h7.out) 6 (.int .i64 q.fb))
        have r6:=hid (Blk.far (i4.out) (p:=⟨gp,6,none⟩) (Ne.symm hpq) (.int .i64 q.fb))
        have C6:=hid (Below.setCell (r0.out) (p:=⟨gp,6,none⟩) hlp (.int .i64 q.fb))
        have C7:=hid (rdI_far (r3.out) (p:=⟨gp,6,none⟩) (Or.inr (HF1.out gp (Or.inr (Or.inl rfl)))) (.int .i64 q.fb))
        have C8:=hid (rdI_far (r4.out) (p:=⟨gp,6,none⟩) (Or.inr (HF2.out gp (Or.inr (Or.inl rfl)))) (.int .i64 q.fb))
        obtain ⟨O9,m1⟩:∃ w',w'=((r5).setCell ⟨gp,6,none⟩ (.int .i64 q.fb)):=⟨_,rfl⟩
        rw [← m1] at C5 r6 C6 C7 C8
        rw [← m1]
        clear m1 v0_ f0_ hlt_ h7 i4 r0 r3 r4
        refine hK.out _ _ r6.out (fun _=>?_);clear hK K
        try simp only [pq]
        refine wpAnyH_done (by kernel_rfl) ?_ _
        go_wp2
        go_meet
        exact ⟨by rw [E1.out,E2.out];exact C5.out,r6.out,C7.out,C8.out,C6.out⟩
     case rest =>
      obtain ⟨kbp,kbq,kr1,kr2,kbel⟩:=hcut
      clear b7 b4 c6 d1 d2
      have HKP:=hid kbp;have HKQ:=hid kbq;have HKB:=hid kbel;have HR1:=hid kr1;have HR2:=hid kr2;clear kbp kbq kbel kr1 kr2
      obtain ⟨w4,hw4⟩:∃ v,v=wc:=⟨_,rfl⟩
      rw [← hw4] at HKP HKQ HKB HR1 HR2
      rw [← hw4]
      clear hw4
      have HOA:=hid (HO2.out.keep HKB.out)
      have hbc:=HBC.out.keep HKB.out
      have hbz:=HBZ.out.keep HKB.out
      have hbe:=HBE.out.trans (HKB.out.mono (show w.heap.size≤w2.heap.size by omega))
      have i6:=hid (HKP.out)
      have h8:=hid (hbc)
      have h9:=hid (hbz)
      have i5:=hid (hbe)
      clear hbc hbz hbe
      obtain ⟨C9,D0,D1,D2,D3,D4,D5,D6⟩:=at8 i6
      obtain ⟨D7,D8,D9,E0⟩:=at4 h8
      obtain ⟨E3,E4,E5,E6⟩:=at4 h9
      obtain ⟨x9,-,-,hx9⟩:=OwnPt.get8 HOA.out HPA.out
      obtain ⟨q0,q1,q2,q3,q4,q5,q6,q7⟩:=cells_at8 hx9
      clear hx9
      have fo0:=OwnPt.frozen HOA.out (a * 8)
      have fo1:=OwnPt.frozen HOA.out (a * 8+1)
      have fo2:=OwnPt.frozen HOA.out (a * 8+2)
      have fo3:=OwnPt.frozen HOA.out (a * 8+3)
      have fo4:=OwnPt.frozen HOA.out (a * 8+4)
      have fo5:=OwnPt.frozen HOA.out (a * 8+5)
      have fo6:=OwnPt.frozen HOA.out (a * 8+6)
      have fo7:=OwnPt.frozen HOA.out (a * 8+7)
      have hgl4:g<w4.heap.size:=Nat.lt_of_lt_of_le hgl2 HKB.out.size
      have hlen1:=HR1.out.len;have hlen2:=HR2.out.len;have hul1:=uniL_len p.sh q.sh;have hul2:=uniL_len p.rs q.rs;have hs1_:=HS1.out;have hs2_:=HS2.out;have hx1_:=HXO.out.1.len;have hy1_:=HYO.out.1.len;have hx2_:=HXO.out.2.1.len;have hy2_:=HYO.out.2.1.len
      have HO5:=hid (OwnPt.put8 HOA.out (q:=a) (by omega) ⟨uniL p.sh q.sh,lo1,hi1,lb1,hb1,ft1,fb1,uniL p.rs q.rs⟩ ⟨R1,r1,k2,R2,r2,k3⟩ HR1.out HR2.out (show r1≤maxLen by unfold maxLen;omega) (show r2≤maxLen by unfold maxLen;omega) (fun g' hg'=>(fun hl_=>⟨.inr (HF1.out g' (.inl hl_)),.inr (HF2.out g' (.inl hl_))⟩:g'<w2.heap.size→PAd.far ⟨R1,r1,k2,R2,r2,k3⟩ g' ⟨uniL p.sh q.sh,lo1,hi1,lb1,hb1,ft1,fb1,uniL p.rs q.rs⟩) (by rcases hg' with rfl|hg'|rfl|rfl;(omega);(have:=HT.out _ hg';omega);(omega);(omega))))
      clear hlen1 hlen2 hul1 hul2 hs1_ hs2_ hx1_ hy1_ hx2_ hy2_
      dsimp only at HO5
      have HC5:=hid (Blk.far (Blk.far (Blk.far (Blk.far (Blk.far (Blk.far (Blk.far (Blk.far h8.out (p:=⟨g,a * 8,none⟩) (by dsimp only;omega) (.slice R1 r1 k2)) (p:=⟨g,a * 8+1,none⟩) (by dsimp only;omega) (.int .i64 lo1)) (p:=⟨g,a * 8+2,none⟩) (by dsimp only;omega) (.int .i64 hi1)) (p:=⟨g,a * 8+3,none⟩) (by dsimp only;omega) (.int .i64 lb1)) (p:=⟨g,a * 8+4,none⟩) (by dsimp only;omega) (.int .i64 hb1)) (p:=⟨g,a * 8+5,none⟩) (by dsimp only;omega) (.bool ft1)) (p:=⟨g,a * 8+6,none⟩) (by dsimp only;omega) (.int .i64 fb1)) (p:=⟨g,a * 8+7,none⟩) (by dsimp only;omega) (.slice R2 r2 k3))
      have HZ5:=hid (Blk.far (Blk.far (Blk.far (Blk.far (Blk.far (Blk.far (Blk.far (Blk.far h9.out (p:=⟨g,a * 8,none⟩) (by dsimp only;omega) (.slice R1 r1 k2)) (p:=⟨g,a * 8+1,none⟩) (by dsimp only;omega) (.int .i64 lo1)) (p:=⟨g,a * 8+2,none⟩) (by dsimp only;omega) (.int .i64 hi1)) (p:=⟨g,a * 8+3,none⟩) (by dsimp only;omega) (.int .i64 lb1)) (p:=⟨g,a * 8+4,none⟩) (by dsimp only;omega) (.int .i64 hb1)) (p:=⟨g,a * 8+5,none⟩) (by dsimp only;omega) (.bool ft1)) (p:=⟨g,a * 8+6,none⟩) (by dsimp only;omega) (.int .i64 fb1)) (p:=⟨g,a * 8+7,none⟩) (by dsimp only;omega) (.slice R2 r2 k3))
      have HE5:=hid (Below.setCell (Below.setCell (Below.setCell (Below.setCell (Below.setCell (Below.setCell (Below.setCell (Below.setCell i5.out (p:=⟨g,a * 8,none⟩) (by dsimp only;omega) (.slice R1 r1 k2)) (p:=⟨g,a * 8+1,none⟩) (by dsimp only;omega) (.int .i64 lo1)) (p:=⟨g,a * 8+2,none⟩) (by dsimp only;omega) (.int .i64 hi1)) (p:=⟨g,a * 8+3,none⟩) (by dsimp only;omega) (.int .i64 lb1)) (p:=⟨g,a * 8+4,none⟩) (by dsimp only;omega) (.int .i64 hb1)) (p:=⟨g,a * 8+5,none⟩) (by dsimp only;omega) (.bool ft1)) (p:=⟨g,a * 8+6,none⟩) (by dsimp only;omega) (.int .i64 fb1)) (p:=⟨g,a * 8+7,none⟩) (by dsimp only;omega) (.slice R2 r2 k3))
      obtain ⟨w5,hw5⟩:∃ v,v=((((((((w4).setCell ⟨g,a * 8,none⟩ (.slice R1 r1 k2)).setCell ⟨g,a * 8+1,none⟩ (.int .i64 lo1)).setCell ⟨g,a * 8+2,none⟩ (.int .i64 hi1)).setCell ⟨g,a * 8+3,none⟩ (.int .i64 lb1)).setCell ⟨g,a * 8+4,none⟩ (.int .i64 hb1)).setCell ⟨g,a * 8+5,none⟩ (.bool ft1)).setCell ⟨g,a * 8+6,none⟩ (.int .i64 fb1)).setCell ⟨g,a * 8+7,none⟩ (.slice R2 r2 k3):=⟨_,rfl⟩
      rw [← hw5] at HC5 HZ5 HE5 HO5
      have hsz5:w2.heap.size≤w5.heap.size:=by rw [hw5];simp only [World.size_setCell];exact HKB.out.size
      have HW5:=hid hw5;clear hw5
      have HC:=hid (deleteP_any HO5.out hn (a:=b) (j:=b+1) hb rfl)
      rw [show ((b+1:Nat):Int)=(b:Int)+1 by omega] at HC
      have hw6:(b:Int)+1≤9223372036854775807:=by omega
      have HC5':=Blk.nth HC5.out 3
      rw [HW5.out] at HC5'
      go_wp2_with fail
      rw [← HW5.out]
      refine HC.out.mono ?_
      rintro e w6 ⟨rfl,ho,hb9⟩
      clear HC HC5'
      clear C9 D0 D1 D2 D3 D4 D5 D6 D7 D8 D9 E0 E3 E4 E5 E6
      clear q0 q1 q2 q3 q4 q5 q6 q7 fo0 fo1 fo2 fo3 fo4 fo5 fo6 fo7 i6 h8 h9 i5
      have hbk:=HC5.out.below hb9 (show w.heap.size<w.heap.size+1+1 by omega)
      have d9:=hid (hbk)
      have hbk2:=HZ5.out.below hb9 (show w.heap.size+1<w.heap.size+1+1 by omega)
      have e0:=hid (hbk2)
      have hbe3:=HE5.out.trans (hb9.mono (show w.heap.size≤w.heap.size+1+1 by omega))
      have r7:=hid (hbe3)
      have hsz6:=Nat.le_trans hsz5 hb9.size
      have HO6:=hid ho;clear ho hb9 hbk hbk2 hbe3 HC5 HZ5 HE5 HO5 HW5 HOA
      obtain ⟨E7,E8,E9,F0⟩:=at4 d9
      obtain ⟨F1,F2,F3,F4⟩:=at4 e0
      have r8:(w6).frozen? ⟨w.heap.size,0,none⟩=false:=Blk.frozen d9.out 0
      have r9:(w6).frozen? ⟨w.heap.size,1,none⟩=false:=Blk.frozen d9.out 1
      have s0:(w6).frozen? ⟨w.heap.size,2,none⟩=false:=Blk.frozen d9.out 2
      have s1:(w6).frozen? ⟨w.heap.size,3,none⟩=false:=Blk.frozen d9.out 3
      have s2:(w6).frozen? ⟨w.heap.size+1,0,none⟩=false:=Blk.frozen e0.out 0
      have s3:(w6).frozen? ⟨w.heap.size+1,1,none⟩=false:=Blk.frozen e0.out 1
      have s4:(w6).frozen? ⟨w.heap.size+1,2,none⟩=false:=Blk.frozen e0.out 2
      have s5:(w6).frozen? ⟨w.heap.size+1,3,none⟩=false:=Blk.frozen e0.out 3
      have HOO:=hid (OwnPt.weak (OwnPt.out (OwnPt.out (OwnPt.out (OwnPt.out (OwnPt.out (HO6.out) (b:=w.heap.size) (j:=3) (by omega) (Or.inr (Or.inl rfl)) (.slice (some ⟨g,0,none⟩) (n-1) k1)) (b:=w.heap.size+1) (j:=0) (by omega) (Or.inr (Or.inr rfl)) (.string ware)) (b:=w.heap.size+1) (j:=1) (by omega) (Or.inr (Or.inr rfl)) (.int .i64 lim)) (b:=w.heap.size+1) (j:=2) (by omega) (Or.inr (Or.inr rfl)) (.int .i64 by_)) (b:=w.heap.size+1) (j:=3) (by omega) (Or.inr (Or.inr rfl)) (.slice (some ⟨g,0,none⟩) (n-1) k1)) (S':=T) (fun _ h=>Or.inl h) (show w.heap.size≤w.heap.size+1+1 by omega))
      have i7:=r7.out
      have HMP:=hid (show (⟨uniL p.sh q.sh,lo1,hi1,lb1,hb1,ft1,fb1,uniL p.rs q.rs⟩:Prt)=mrgP p q by rw [HLO1.out,HLB1.out,HHI1.out,HHB1.out,HFT1.out,HFB1.out];rfl)
      rw [HMP.out] at HOO
      go_wp2
      refine bodyPost_ret (v:=.agg #[.string ware,.int .i64 lim,.int .i64 by_,.slice (some ⟨g,0,none⟩) (n-1) k1]) (by simp [results,Tryz.results87,go_sem,E7,E8,E9,F0,F1,F2,F3,F4,r8,r9,s0,s1,s2,s3,s4,s5]) rfl ⟨⟨some ⟨g,0,none⟩,k1,rfl,HOO.out⟩,(by have hsz_:=Below.size i7;repeat' (first|with_reducible exact i7|with_reducible exact Below.refl _ _|with_reducible refine Below.alloc ?_ ?_ _|with_reducible refine Below.setCell ?_ ?_ _|with_reducible refine Below.drew ?_|with_reducible refine below_setRow ?_ ?_ _|omega | (simp;done) | (simp;omega)))⟩
end Go.Proofs.YtokpblmgdmokoaaGreat
