import Derived.Test.YtokpblmgdmokoaaGreatAVCpy
import Derived.Test.YtokpblmgdmokoaaGreatAVDel
set_option linter.unusedSimpArgs false
set_option linter.unusedVariables false
namespace Go.Proofs.YtokpblmgdmokoaaGreat
open Go.Lib (hid)
open Go.RowKit Go.Maps
set_option maxRecDepth 100000 in
set_option maxHeartbeats 4000000 in
theorem without_T (ware:ByteArray) (lim by_:Int) (A:Option Addr) (n k:Nat) (ps:List Prt) (a:Nat) (T:Nat→Prop) (w:World) (hr:RdP w A n k ps) (hn:n≤100000) (hsm:∀ p∈ps,p.sh.length≤100000∧p.rs.length≤100000) (ha:a<n) (xs:List (Prt × PAd)) (h1:xs.map (·.1)=ps) (h2:∀ x∈xs,x.2.ok w x.1∧∀ g,T g→x.2.far g x.1) (h3:Cells w A (xs.flatMap pv)) (hT:∀ g,T g→g<w.heap.size):Calls Tryz.prog 71 #[.agg #[.string ware,.int .i64 lim,.int .i64 by_,.slice A n k],.int .i64 a] w fun e w'=>(∃ R k1,e=.returned (.agg #[.string ware,.int .i64 lim,.int .i64 by_,.slice R (n-1) k1])∧OwnPt w' w.heap.size T R (n-1) k1 (ps.eraseIdx a))∧Below w.heap.size w w':=by
 go_enter Tryz.func71,Tryz.ntmps71
 obtain ⟨a0,a4,a1⟩:=ent2 w #[.string ware,.int .i64 lim,.int .i64 by_,.slice A n k] 24 #[.string ⟨#[]⟩,.int .i64 0,.int .i64 0,.slice none 0 0] 24
 have a7:=hid (RdP.below (hr) a1.out)
 clear hr
 obtain ⟨e0,e1,e2,e3⟩:=at4 a0
 obtain ⟨e4,c1,c2,c3⟩:=at4 a4
 have HC:=hid (copied_T ware lim by_ A n k ps (fun b=>T b∨(b=w.heap.size∨b=w.heap.size+1)) (((w.alloc (.cells #[.string ware,.int .i64 lim,.int .i64 by_,.slice A n k] 24)).alloc (.cells #[.string ⟨#[]⟩,.int .i64 0,.int .i64 0,.slice none 0 0] 24))) a7.out hn hsm xs h1 (fun x hx=>⟨(h2 x hx).1.below a1.out,fun g hg=>by rcases hg with hg|rfl|rfl;exact (h2 x hx).2 g hg;exact (h2 x hx).1.out (by omega);exact (h2 x hx).1.out (by omega)⟩) ((h3.alloc _).alloc _) (fun g hg=>by simp only [World.size_alloc];rcases hg with hg|rfl|rfl;(have:=hT g hg;omega);omega;omega))
 go_wp2_with fail
 refine HC.out.mono ?_
 rintro e w1 ⟨⟨R,k1,rfl,ho⟩,hb⟩
 clear HC
 clear e0 e1 e2 e3 e4 c1 c2 c3
 have hsz1:=hb.size
 simp only [World.size_alloc] at hsz1 ho
 have a5:=hid hb
 clear hb
 obtain ⟨g,rfl⟩:=ho.addr (by omega)
 obtain ⟨hgb,hgl,hpl,hnk⟩:=ho.blk
 have HO:=hid ho;clear ho
 replace a0:=kH a0 a5
 obtain ⟨c4,c5,c6,c7⟩:=at4 a0
 replace a4:=kH a4 a5
 obtain ⟨c8,c9,d0,d1⟩:=at4 a4
 have a9:(w1).frozen? ⟨w.heap.size,0,none⟩=false:=Blk.frozen a0.out 0
 have b0:(w1).frozen? ⟨w.heap.size,1,none⟩=false:=Blk.frozen a0.out 1
 have b1:(w1).frozen? ⟨w.heap.size,2,none⟩=false:=Blk.frozen a0.out 2
 have b2:(w1).frozen? ⟨w.heap.size,3,none⟩=false:=Blk.frozen a0.out 3
 replace a1:=bH a1 a5
 have HBC:=hid (Blk.set_ ((Blk.set_ ((Blk.set_ ((Blk.set_ (a0.out) 0 (.string ware))) 1 (.int .i64 lim))) 2 (.int .i64 by_))) 3 (.slice (some ⟨g,0,none⟩) n k1))
 have HBZ:=hid (Blk.far ((Blk.far ((Blk.far ((Blk.far (a4.out) (p:=⟨w.heap.size,0,none⟩) (by simp) (.string ware))) (p:=⟨w.heap.size,1,none⟩) (by simp) (.int .i64 lim))) (p:=⟨w.heap.size,2,none⟩) (by simp) (.int .i64 by_))) (p:=⟨w.heap.size,3,none⟩) (by simp) (.slice (some ⟨g,0,none⟩) n k1))
 have HBE:=hid (Below.setCell ((Below.setCell ((Below.setCell ((Below.setCell (a1.out) (p:=⟨w.heap.size,0,none⟩) (by simp) (.string ware))) (p:=⟨w.heap.size,1,none⟩) (by simp) (.int .i64 lim))) (p:=⟨w.heap.size,2,none⟩) (by simp) (.int .i64 by_))) (p:=⟨w.heap.size,3,none⟩) (by simp) (.slice (some ⟨g,0,none⟩) n k1))
 have HO2:=hid (OwnPt.out ((OwnPt.out ((OwnPt.out ((OwnPt.out (HO.out) (b:=w.heap.size) (j:=0) (by omega) (Or.inr (Or.inl rfl)) (.string ware))) (b:=w.heap.size) (j:=1) (by omega) (Or.inr (Or.inl rfl)) (.int .i64 lim))) (b:=w.heap.size) (j:=2) (by omega) (Or.inr (Or.inl rfl)) (.int .i64 by_))) (b:=w.heap.size) (j:=3) (by omega) (Or.inr (Or.inl rfl)) (.slice (some ⟨g,0,none⟩) n k1))
 obtain ⟨w2,hw2⟩:∃ v,v=((((w1).setCell ⟨w.heap.size,0,none⟩ (.string ware)).setCell ⟨w.heap.size,1,none⟩ (.int .i64 lim)).setCell ⟨w.heap.size,2,none⟩ (.int .i64 by_)).setCell ⟨w.heap.size,3,none⟩ (.slice (some ⟨g,0,none⟩) n k1):=⟨_,rfl⟩
 rw [← hw2] at HBC HBZ HBE HO2
 have hsz2:w.heap.size+1+1≤w2.heap.size:=by rw [hw2];simp only [World.size_setCell];exact hsz1
 have HC:=hid (deleteP_any HO2.out hn (j:=a+1) ha rfl)
 rw [show ((a+1:Nat):Int)=(a:Int)+1 by omega] at HC
 have hw3:(a:Int)+1≤9223372036854775807:=by omega
 have HW2:=hid hw2;clear hw2
 go_wp2_with fail
 rw [← HW2.out]
 refine HC.out.mono ?_
 rintro e w3 ⟨rfl,ho,hb⟩
 clear HC
 clear c4 c5 c6 c7 c8 c9 d0 d1 a9 b0 b1 b2
 clear a1 a7 a0 a4
 have hbk:=HBC.out.below hb (show w.heap.size<w.heap.size+1+1 by omega)
 have a2:=hid (hbk)
 have hbk2:=HBZ.out.below hb (show w.heap.size+1<w.heap.size+1+1 by omega)
 have a3:=hid (hbk2)
 have hbe3:=HBE.out.trans (hb.mono (show w.heap.size≤w.heap.size+1+1 by omega))
 have a8:=hid (hbe3)
 have hsz3:=Nat.le_trans hsz2 hb.size
 have HO3:=hid ho;clear ho hb hbk hbk2 hbe3 HBC HBZ HBE HO2 HO HW2 hsz2
 obtain ⟨d2,d3,d4,d5⟩:=at4 a2
 obtain ⟨d6,d7,d8,d9⟩:=at4 a3
 have b3:(w3).frozen? ⟨w.heap.size,0,none⟩=false:=Blk.frozen a2.out 0
 have b4:(w3).frozen? ⟨w.heap.size,1,none⟩=false:=Blk.frozen a2.out 1
 have b5:(w3).frozen? ⟨w.heap.size,2,none⟩=false:=Blk.frozen a2.out 2
 have b6:(w3).frozen? ⟨w.heap.size,3,none⟩=false:=Blk.frozen a2.out 3
 have b7:(w3).frozen? ⟨w.heap.size+1,0,none⟩=false:=Blk.frozen a3.out 0
 have b8:(w3).frozen? ⟨w.heap.size+1,1,none⟩=false:=Blk.frozen a3.out 1
 have b9:(w3).frozen? ⟨w.heap.size+1,2,none⟩=false:=Blk.frozen a3.out 2
 have c0:(w3).frozen? ⟨w.heap.size+1,3,none⟩=false:=Blk.frozen a3.out 3
 have HOO:=hid (OwnPt.weak (OwnPt.out (OwnPt.out (OwnPt.out (OwnPt.out (OwnPt.out (HO3.out) (b:=w.heap.size) (j:=3) (by omega) (Or.inr (Or.inl rfl)) (.slice (some ⟨g,0,none⟩) (n-1) k1)) (b:=w.heap.size+1) (j:=0) (by omega) (Or.inr (Or.inr rfl)) (.string ware)) (b:=w.heap.size+1) (j:=1) (by omega) (Or.inr (Or.inr rfl)) (.int .i64 lim)) (b:=w.heap.size+1) (j:=2) (by omega) (Or.inr (Or.inr rfl)) (.int .i64 by_)) (b:=w.heap.size+1) (j:=3) (by omega) (Or.inr (Or.inr rfl)) (.slice (some ⟨g,0,none⟩) (n-1) k1)) (S':=T) (fun _ h=>Or.inl h) (show w.heap.size≤w.heap.size+1+1 by omega))
 have a6:=a8.out
 go_wp2
 refine bodyPost_ret (v:=.agg #[.string ware,.int .i64 lim,.int .i64 by_,.slice (some ⟨g,0,none⟩) (n-1) k1]) (by simp [results,Tryz.results71,go_sem,d2,d3,d4,d5,d6,d7,d8,d9,b3,b4,b5,b6,b7,b8,b9,c0]) rfl ⟨⟨some ⟨g,0,none⟩,k1,rfl,HOO.out⟩,(by have hsz_:=Below.size a6;repeat' (first|with_reducible exact a6|with_reducible exact Below.refl _ _|with_reducible refine Below.alloc ?_ ?_ _|with_reducible refine Below.setCell ?_ ?_ _|with_reducible refine Below.drew ?_|with_reducible refine below_setRow ?_ ?_ _|omega | (simp;done) | (simp;omega)))⟩
theorem small_of {c:Cse} (h:chkC c=0):∀ p∈c.ps,p.sh.length≤100000∧p.rs.length≤100000:=fun p hp=>by
 obtain ⟨-,-,-,-,-,h6,-⟩:=chkC_ok h
 obtain ⟨-,h1,h2,-⟩:=prtB_ok (h6 p hp)
 exact ⟨by omega,by omega⟩
end Go.Proofs.YtokpblmgdmokoaaGreat
