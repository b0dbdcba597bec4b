import Derived.Test.YtokpblmgdmokoaaGreatAVOf
set_option linter.unusedSimpArgs false
set_option linter.unusedVariables false
namespace Go.Proofs.YtokpblmgdmokoaaGreat
open Go.Lib (hid)
open Go.RowKit
theorem ptA_at {ps:List Prt} {a:Nat} {p:Prt} (h:ps[a]?=some p):ptA ps (a:Int)=p:=by
 unfold ptA;rw [Int.toNat_natCast,List.getD_eq_getElem?_getD,h];rfl
set_option maxRecDepth 100000 in
set_option maxHeartbeats 4000000 in
theorem xclash_any (A:Option Addr) (n k:Nat) (ps:List Prt) (w:World) (hr:RdP w A n k ps) (hn:n≤maxLen) (a b':Nat) (ha:a<n) (hb:b'<n):Calls Tryz.prog 70 #[.slice A n k,.int .i64 a,.int .i64 b'] w fun e w'=>e=.returned (.bool (clB ps a b'))∧Below w.heap.size w w':=by
 unfold maxLen at hn
 by_cases hab:a=b'
 · subst hab
   have HZ:=hid (show clB ps a a=false by simp [clB])
   rw [HZ.out]
   clear HZ hr
   go_enter Tryz.func70,Tryz.ntmps70
   go_wp2
   go_ret
   exact ⟨rfl,Below.refl _ _⟩
 · have hab1:((a:Int) == (b':Int))=false:=by rw [beq_eq_false_iff_ne];omega
   have hab2:((a:Int)=(b':Int))=False:=eq_false (by omega)
   obtain ⟨b,o,p,x,rfl,hbw,hx,-,g0,g1,g2,g3,g4,g5,g6,g7⟩:=RdP.get hr ha
   obtain ⟨p2,x2,-,hx2,-,k0,k1,k2,k3,k4,k5,k6,k7⟩:=RdP.at hr hb
   have ha':(a:Int)<n:=by omega
   have hb':(b':Int)<n:=by omega
   have HZ:=hid (show clB ps a b'=((p.ft&&p2.ft) || decide (p.hi<p2.lo) || decide (p2.hi<p.lo)) by unfold clB;rw [ptA_at hx,ptA_at hx2,decide_eq_true (by omega),Bool.true_and];rfl)
   clear hx hx2 hr hab
   obtain ⟨ft,hft⟩:∃ f,p.ft=f:=⟨_,rfl⟩
   obtain ⟨ft2,hft2⟩:∃ f,p2.ft=f:=⟨_,rfl⟩
   rw [hft] at g5 HZ
   rw [hft2] at k5 HZ
   clear hft hft2
   by_cases hc:p.hi<p2.lo<;>by_cases hd:p2.hi<p.lo<;>have HC:=hid hc<;>have HD:=hid hd<;>cases ft<;>cases ft2
   · skip
     go_enter Tryz.func70,Tryz.ntmps70
     have a0:=hid (show Below w.heap.size w w from Below.refl _ w)
     have c0:=g0
     have c1:=g1
     have c2:=g2
     have c3:=g3
     have c4:=g4
     have c5:=g5
     have c6:=g6
     have c7:=g7
     obtain ⟨o_,ho_⟩:∃ o,o=((.cells #[.slice x.A x.n x.c,.int .i64 p.lo,.int .i64 p.hi,.int .i64 p.lb,.int .i64 p.hb,.bool false,.int .i64 p.fb,.slice x.B x.m x.d] 48):Obj):=⟨_,rfl⟩
     replace a0:=bA a0 o_
     subst ho_
     have a1:=hid (Blk.new w 48 #[.slice x.A x.n x.c,.int .i64 p.lo,.int .i64 p.hi,.int .i64 p.lb,.int .i64 p.hb,.bool false,.int .i64 p.fb,.slice x.B x.m x.d])
     have d0:=(Below.cell a0.out (p:=⟨b,_,none⟩) hbw).trans k0
     have d1:=(Below.cell a0.out (p:=⟨b,_,none⟩) hbw).trans k1
     have d2:=(Below.cell a0.out (p:=⟨b,_,none⟩) hbw).trans k2
     have d3:=(Below.cell a0.out (p:=⟨b,_,none⟩) hbw).trans k3
     have d4:=(Below.cell a0.out (p:=⟨b,_,none⟩) hbw).trans k4
     have d5:=(Below.cell a0.out (p:=⟨b,_,none⟩) hbw).trans k5
     have d6:=(Below.cell a0.out (p:=⟨b,_,none⟩) hbw).trans k6
     have d7:=(Below.cell a0.out (p:=⟨b,_,none⟩) hbw).trans k7
     obtain ⟨o_,ho_⟩:∃ o,o=((.cells #[.slice x2.A x2.n x2.c,.int .i64 p2.lo,.int .i64 p2.hi,.int .i64 p2.lb,.int .i64 p2.hb,.bool false,.int .i64 p2.fb,.slice x2.B x2.m x2.d] 48):Obj):=⟨_,rfl⟩
     replace a0:=bA a0 o_
     replace a1:=kA a1 o_
     subst ho_
     have a2:=hid (Blk.new (w.alloc (.cells #[.slice x.A x.n x.c,.int .i64 p.lo,.int .i64 p.hi,.int .i64 p.lb,.int .i64 p.hb,.bool false,.int .i64 p.fb,.slice x.B x.m x.d] 48)) 48 #[.slice x2.A x2.n x2.c,.int .i64 p2.lo,.int .i64 p2.hi,.int .i64 p2.lb,.int .i64 p2.hb,.bool false,.int .i64 p2.fb,.slice x2.B x2.m x2.d])
     obtain ⟨b3,b4,b5,b6,b7,b8,a3,a4⟩:=at8 a1
     obtain ⟨a5,a6,a7,a8,a9,b0,b1,b2⟩:=at8 a2
     clear g0 g1 g2 g3 g4 g5 g6 g7 k0 k1 k2 k3 k4 k5 k6 k7
     go_wp2
     go_ret
     exact ⟨ret_bool (by rw [HZ.out];have hc:=HC.out;have hd:=HD.out;first|rfl | (simp;done) | (simp;omega)),a0.out⟩
   · skip
     go_enter Tryz.func70,Tryz.ntmps70
     have a0:=hid (show Below w.heap.size w w from Below.refl _ w)
     have c0:=g0
     have c1:=g1
     have c2:=g2
     have c3:=g3
     have c4:=g4
     have c5:=g5
     have c6:=g6
     have c7:=g7
     obtain ⟨o_,ho_⟩:∃ o,o=((.cells #[.slice x.A x.n x.c,.int .i64 p.lo,.int .i64 p.hi,.int .i64 p.lb,.int .i64 p.hb,.bool false,.int .i64 p.fb,.slice x.B x.m x.d] 48):Obj):=⟨_,rfl⟩
     replace a0:=bA a0 o_
     subst ho_
     have a1:=hid (Blk.new w 48 #[.slice x.A x.n x.c,.int .i64 p.lo,.int .i64 p.hi,.int .i64 p.lb,.int .i64 p.hb,.bool false,.int .i64 p.fb,.slice x.B x.m x.d])
     have d0:=(Below.cell a0.out (p:=⟨b,_,none⟩) hbw).trans k0
     have d1:=(Below.cell a0.out (p:=⟨b,_,none⟩) hbw).trans k1
     have d2:=(Below.cell a0.out (p:=⟨b,_,none⟩) hbw).trans k2
     have d3:=(Below.cell a0.out (p:=⟨b,_,none⟩) hbw).trans k3
     have d4:=(Below.cell a0.out (p:=⟨b,_,none⟩) hbw).trans k4
     have d5:=(Below.cell a0.out (p:=⟨b,_,none⟩) hbw).trans k5
     have d6:=(Below.cell a0.out (p:=⟨b,_,none⟩) hbw).trans k6
     have d7:=(Below.cell a0.out (p:=⟨b,_,none⟩) hbw).trans k7
     obtain ⟨o_,ho_⟩:∃ o,o=((.cells #[.slice x2.A x2.n x2.c,.int .i64 p2.lo,.int .i64 p2.hi,.int .i64 p2.lb,.int .i64 p2.hb,.bool true,.int .i64 p2.fb,.slice x2.B x2.m x2.d] 48):Obj):=⟨_,rfl⟩
     replace a0:=bA a0 o_
     replace a1:=kA a1 o_
     subst ho_
     have a2:=hid (Blk.new (w.alloc (.cells #[.slice x.A x.n x.c,.int .i64 p.lo,.int .i64 p.hi,.int .i64 p.lb,.int .i64 p.hb,.bool false,.int .i64 p.fb,.slice x.B x.m x.d] 48)) 48 #[.slice x2.A x2.n x2.c,.int .i64 p2.lo,.int .i64 p2.hi,.int .i64 p2.lb,.int .i64 p2.hb,.bool true,.int .i64 p2.fb,.slice x2.B x2.m x2.d])
     obtain ⟨b3,b4,b5,b6,b7,b8,a3,a4⟩:=at8 a1
     obtain ⟨a5,a6,a7,a8,a9,b0,b1,b2⟩:=at8 a2
     clear g0 g1 g2 g3 g4 g5 g6 g7 k0 k1 k2 k3 k4 k5 k6 k7
     go_wp2
     go_ret
     exact ⟨ret_bool (by rw [HZ.out];have hc:=HC.out;have hd:=HD.out;first|rfl | (simp;done) | (simp;omega)),a0.out⟩
   · skip
     go_enter Tryz.func70,Tryz.ntmps70
     have a0:=hid (show Below w.heap.size w w from Below.refl _ w)
     have c0:=g0
     have c1:=g1
     have c2:=g2
     have c3:=g3
     have c4:=g4
     have c5:=g5
     have c6:=g6
     have c7:=g7
     obtain ⟨o_,ho_⟩:∃ o,o=((.cells #[.slice x.A x.n x.c,.int .i64 p.lo,.int .i64 p.hi,.int .i64 p.lb,.int .i64 p.hb,.bool true,.int .i64 p.fb,.slice x.B x.m x.d] 48):Obj):=⟨_,rfl⟩
     replace a0:=bA a0 o_
     subst ho_
     have a1:=hid (Blk.new w 48 #[.slice x.A x.n x.c,.int .i64 p.lo,.int .i64 p.hi,.int .i64 p.lb,.int .i64 p.hb,.bool true,.int .i64 p.fb,.slice x.B x.m x.d])
     have d0:=(Below.cell a0.out (p:=⟨b,_,none⟩) hbw).trans k0
     have d1:=(Below.cell a0.out (p:=⟨b,_,none⟩) hbw).trans k1
     have d2:=(Below.cell a0.out (p:=⟨b,_,none⟩) hbw).trans k2
     have d3:=(Below.cell a0.out (p:=⟨b,_,none⟩) hbw).trans k3
     have d4:=(Below.cell a0.out (p:=⟨b,_,none⟩) hbw).trans k4
     have d5:=(Below.cell a0.out (p:=⟨b,_,none⟩) hbw).trans k5
     have d6:=(Below.cell a0.out (p:=⟨b,_,none⟩) hbw).trans k6
     have d7:=(Below.cell a0.out (p:=⟨b,_,none⟩) hbw).trans k7
     obtain ⟨o_,ho_⟩:∃ o,o=((.cells #[.slice x2.A x2.n x2.c,.int .i64 p2.lo,.int .i64 p2.hi,.int .i64 p2.lb,.int .i64 p2.hb,.bool false,.int .i64 p2.fb,.slice x2.B x2.m x2.d] 48):Obj):=⟨_,rfl⟩
     replace a0:=bA a0 o_
     replace a1:=kA a1 o_
     subst ho_
     have a2:=hid (Blk.new (w.alloc (.cells #[.slice x.A x.n x.c,.int .i64 p.lo,.int .i64 p.hi,.int .i64 p.lb,.int .i64 p.hb,.bool true,.int .i64 p.fb,.slice x.B x.m x.d] 48)) 48 #[.slice x2.A x2.n x2.c,.int .i64 p2.lo,.int .i64 p2.hi,.int .i64 p2.lb,.int .i64 p2.hb,.bool false,.int .i64 p2.fb,.slice x2.B x2.m x2.d])
     obtain ⟨b3,b4,b5,b6,b7,b8,a3,a4⟩:=at8 a1
     obtain ⟨a5,a6,a7,a8,a9,b0,b1,b2⟩:=at8 a2
     clear g0 g1 g2 g3 g4 g5 g6 g7 k0 k1 k2 k3 k4 k5 k6 k7
     go_wp2
     go_ret
     exact ⟨ret_bool (by rw [HZ.out];have hc:=HC.out;have hd:=HD.out;first|rfl | (simp;done) | (simp;omega)),a0.out⟩
   · skip
     go_enter Tryz.func70,Tryz.ntmps70
     have a0:=hid (show Below w.heap.size w w from Below.refl _ w)
     have c0:=g0
     have c1:=g1
     have c2:=g2
     have c3:=g3
     have c4:=g4
     have c5:=g5
     have c6:=g6
     have c7:=g7
     obtain ⟨o_,ho_⟩:∃ o,o=((.cells #[.slice x.A x.n x.c,.int .i64 p.lo,.int .i64 p.hi,.int .i64 p.lb,.int .i64 p.hb,.bool true,.int .i64 p.fb,.slice x.B x.m x.d] 48):Obj):=⟨_,rfl⟩
     replace a0:=bA a0 o_
     subst ho_
     have a1:=hid (Blk.new w 48 #[.slice x.A x.n x.c,.int .i64 p.lo,.int .i64 p.hi,.int .i64 p.lb,.int .i64 p.hb,.bool true,.int .i64 p.fb,.slice x.B x.m x.d])
     have d0:=(Below.cell a0.out (p:=⟨b,_,none⟩) hbw).trans k0
     have d1:=(Below.cell a0.out (p:=⟨b,_,none⟩) hbw).trans k1
     have d2:=(Below.cell a0.out (p:=⟨b,_,none⟩) hbw).trans k2
     have d3:=(Below.cell a0.out (p:=⟨b,_,none⟩) hbw).trans k3
     have d4:=(Below.cell a0.out (p:=⟨b,_,none⟩) hbw).trans k4
     have d5:=(Below.cell a0.out (p:=⟨b,_,none⟩) hbw).trans k5
     have d6:=(Below.cell a0.out (p:=⟨b,_,none⟩) hbw).trans k6
     have d7:=(Below.cell a0.out (p:=⟨b,_,none⟩) hbw).trans k7
     obtain ⟨o_,ho_⟩:∃ o,o=((.cells #[.slice x2.A x2.n x2.c,.int .i64 p2.lo,.int .i64 p2.hi,.int .i64 p2.lb,.int .i64 p2.hb,.bool true,.int .i64 p2.fb,.slice x2.B x2.m x2.d] 48):Obj):=⟨_,rfl⟩
     replace a0:=bA a0 o_
     replace a1:=kA a1 o_
     subst ho_
     have a2:=hid (Blk.new (w.alloc (.cells #[.slice x.A x.n x.c,.int .i64 p.lo,.int .i64 p.hi,.int .i64 p.lb,.int .i64 p.hb,.bool true,.int .i64 p.fb,.slice x.B x.m x.d] 48)) 48 #[.slice x2.A x2.n x2.c,.int .i64 p2.lo,.int .i64 p2.hi,.int .i64 p2.lb,.int .i64 p2.hb,.bool true,.int .i64 p2.fb,.slice x2.B x2.m x2.d])
     obtain ⟨b3,b4,b5,b6,b7,b8,a3,a4⟩:=at8 a1
     obtain ⟨a5,a6,a7,a8,a9,b0,b1,b2⟩:=at8 a2
     clear g0 g1 g2 g3 g4 g5 g6 g7 k0 k1 k2 k3 k4 k5 k6 k7
     go_wp2
     go_ret
     exact ⟨ret_bool (by rw [HZ.out];have hc:=HC.out;have hd:=HD.out;first|rfl | (simp;done) | (simp;omega)),a0.out⟩
   · skip
     go_enter Tryz.func70,Tryz.ntmps70
     have a0:=hid (show Below w.heap.size w w from Below.refl _ w)
     have c0:=g0
     have c1:=g1
     have c2:=g2
     have c3:=g3
     have c4:=g4
     have c5:=g5
     have c6:=g6
     have c7:=g7
     obtain ⟨o_,ho_⟩:∃ o,o=((.cells #[.slice x.A x.n x.c,.int .i64 p.lo,.int .i64 p.hi,.int .i64 p.lb,.int .i64 p.hb,.bool false,.int .i64 p.fb,.slice x.B x.m x.d] 48):Obj):=⟨_,rfl⟩
     replace a0:=bA a0 o_
     subst ho_
     have a1:=hid (Blk.new w 48 #[.slice x.A x.n x.c,.int .i64 p.lo,.int .i64 p.hi,.int .i64 p.lb,.int .i64 p.hb,.bool false,.int .i64 p.fb,.slice x.B x.m x.d])
     have d0:=(Below.cell a0.out (p:=⟨b,_,none⟩) hbw).trans k0
     have d1:=(Below.cell a0.out (p:=⟨b,_,none⟩) hbw).trans k1
     have d2:=(Below.cell a0.out (p:=⟨b,_,none⟩) hbw).trans k2
     have d3:=(Below.cell a0.out (p:=⟨b,_,none⟩) hbw).trans k3
     have d4:=(Below.cell a0.out (p:=⟨b,_,none⟩) hbw).trans k4
     have d5:=(Below.cell a0.out (p:=⟨b,_,none⟩) hbw).trans k5
     have d6:=(Below.cell a0.out (p:=⟨b,_,none⟩) hbw).trans k6
     have d7:=(Below.cell a0.out (p:=⟨b,_,none⟩) hbw).trans k7
     obtain ⟨o_,ho_⟩:∃ o,o=((.cells #[.slice x2.A x2.n x2.c,.int .i64 p2.lo,.int .i64 p2.hi,.int .i64 p2.lb,.int .i64 p2.hb,.bool false,.int .i64 p2.fb,.slice x2.B x2.m x2.d] 48):Obj):=⟨_,rfl⟩
     replace a0:=bA a0 o_
     replace a1:=kA a1 o_
     subst ho_
     have a2:=hid (Blk.new (w.alloc (.cells #[.slice x.A x.n x.c,.int .i64 p.lo,.int .i64 p.hi,.int .i64 p.lb,.int .i64 p.hb,.bool false,.int .i64 p.fb,.slice x.B x.m x.d] 48)) 48 #[.slice x2.A x2.n x2.c,.int .i64 p2.lo,.int .i64 p2.hi,.int .i64 p2.lb,.int .i64 p2.hb,.bool false,.int .i64 p2.fb,.slice x2.B x2.m x2.d])
     obtain ⟨b3,b4,b5,b6,b7,b8,a3,a4⟩:=at8 a1
     obtain ⟨a5,a6,a7,a8,a9,b0,b1,b2⟩:=at8 a2
     clear g0 g1 g2 g3 g4 g5 g6 g7 k0 k1 k2 k3 k4 k5 k6 k7
     go_wp2
     go_ret
     exact ⟨ret_bool (by rw [HZ.out];have hc:=HC.out;have hd:=HD.out;first|rfl | (simp;done) | (simp;omega)),a0.out⟩
   · skip
     go_enter Tryz.func70,Tryz.ntmps70
     have a0:=hid (show Below w.heap.size w w from Below.refl _ w)
     have c0:=g0
     have c1:=g1
     have c2:=g2
     have c3:=g3
     have c4:=g4
     have c5:=g5
     have c6:=g6
     have c7:=g7
     obtain ⟨o_,ho_⟩:∃ o,o=((.cells #[.slice x.A x.n x.c,.int .i64 p.lo,.int .i64 p.hi,.int .i64 p.lb,.int .i64 p.hb,.bool false,.int .i64 p.fb,.slice x.B x.m x.d] 48):Obj):=⟨_,rfl⟩
     replace a0:=bA a0 o_
     subst ho_
     have a1:=hid (Blk.new w 48 #[.slice x.A x.n x.c,.int .i64 p.lo,.int .i64 p.hi,.int .i64 p.lb,.int .i64 p.hb,.bool false,.int .i64 p.fb,.slice x.B x.m x.d])
     have d0:=(Below.cell a0.out (p:=⟨b,_,none⟩) hbw).trans k0
     have d1:=(Below.cell a0.out (p:=⟨b,_,none⟩) hbw).trans k1
     have d2:=(Below.cell a0.out (p:=⟨b,_,none⟩) hbw).trans k2
     have d3:=(Below.cell a0.out (p:=⟨b,_,none⟩) hbw).trans k3
     have d4:=(Below.cell a0.out (p:=⟨b,_,none⟩) hbw).trans k4
     have d5:=(Below.cell a0.out (p:=⟨b,_,none⟩) hbw).trans k5
     have d6:=(Below.cell a0.out (p:=⟨b,_,none⟩) hbw).trans k6
     have d7:=(Below.cell a0.out (p:=⟨b,_,none⟩) hbw).trans k7
     obtain ⟨o_,ho_⟩:∃ o,o=((.cells #[.slice x2.A x2.n x2.c,.int .i64 p2.lo,.int .i64 p2.hi,.int .i64 p2.lb,.int .i64 p2.hb,.bool true,.int .i64 p2.fb,.slice x2.B x2.m x2.d] 48):Obj):=⟨_,rfl⟩
     replace a0:=bA a0 o_
     replace a1:=kA a1 o_
     subst ho_
     have a2:=hid (Blk.new (w.alloc (.cells #[.slice x.A x.n x.c,.int .i64 p.lo,.int .i64 p.hi,.int .i64 p.lb,.int .i64 p.hb,.bool false,.int .i64 p.fb,.slice x.B x.m x.d] 48)) 48 #[.slice x2.A x2.n x2.c,.int .i64 p2.lo,.int .i64 p2.hi,.int .i64 p2.lb,.int .i64 p2.hb,.bool true,.int .i64 p2.fb,.slice x2.B x2.m x2.d])
     obtain ⟨b3,b4,b5,b6,b7,b8,a3,a4⟩:=at8 a1
     obtain ⟨a5,a6,a7,a8,a9,b0,b1,b2⟩:=at8 a2
     clear g0 g1 g2 g3 g4 g5 g6 g7 k0 k1 k2 k3 k4 k5 k6 k7
     go_wp2
     go_ret
     exact ⟨ret_bool (by rw [HZ.out];have hc:=HC.out;have hd:=HD.out;first|rfl | (simp;done) | (simp;omega)),a0.out⟩
   · skip
     go_enter Tryz.func70,Tryz.ntmps70
     have a0:=hid (show Below w.heap.size w w from Below.refl _ w)
     have c0:=g0
     have c1:=g1
     have c2:=g2
     have c3:=g3
     have c4:=g4
     have c5:=g5
     have c6:=g6
     have c7:=g7
     obtain ⟨o_,ho_⟩:∃ o,o=((.cells #[.slice x.A x.n x.c,.int .i64 p.lo,.int .i64 p.hi,.int .i64 p.lb,.int .i64 p.hb,.bool true,.int .i64 p.fb,.slice x.B x.m x.d] 48):Obj):=⟨_,rfl⟩
     replace a0:=bA a0 o_
     subst ho_
     have a1:=hid (Blk.new w 48 #[.slice x.A x.n x.c,.int .i64 p.lo,.int .i64 p.hi,.int .i64 p.lb,.int .i64 p.hb,.bool true,.int .i64 p.fb,.slice x.B x.m x.d])
     have d0:=(Below.cell a0.out (p:=⟨b,_,none⟩) hbw).trans k0
     have d1:=(Below.cell a0.out (p:=⟨b,_,none⟩) hbw).trans k1
     have d2:=(Below.cell a0.out (p:=⟨b,_,none⟩) hbw).trans k2
     have d3:=(Below.cell a0.out (p:=⟨b,_,none⟩) hbw).trans k3
     have d4:=(Below.cell a0.out (p:=⟨b,_,none⟩) hbw).trans k4
     have d5:=(Below.cell a0.out (p:=⟨b,_,none⟩) hbw).trans k5
     have d6:=(Below.cell a0.out (p:=⟨b,_,none⟩) hbw).trans k6
     have d7:=(Below.cell a0.out (p:=⟨b,_,none⟩) hbw).trans k7
     obtain ⟨o_,ho_⟩:∃ o,o=((.cells #[.slice x2.A x2.n x2.c,.int .i64 p2.lo,.int .i64 p2.hi,.int .i64 p2.lb,.int .i64 p2.hb,.bool false,.int .i64 p2.fb,.slice x2.B x2.m x2.d] 48):Obj):=⟨_,rfl⟩
     replace a0:=bA a0 o_
     replace a1:=kA a1 o_
     subst ho_
     have a2:=hid (Blk.new (w.alloc (.cells #[.slice x.A x.n x.c,.int .i64 p.lo,.int .i64 p.hi,.int .i64 p.lb,.int .i64 p.hb,.bool true,.int .i64 p.fb,.slice x.B x.m x.d] 48)) 48 #[.slice x2.A x2.n x2.c,.int .i64 p2.lo,.int .i64 p2.hi,.int .i64 p2.lb,.int .i64 p2.hb,.bool false,.int .i64 p2.fb,.slice x2.B x2.m x2.d])
     obtain ⟨b3,b4,b5,b6,b7,b8,a3,a4⟩:=at8 a1
     obtain ⟨a5,a6,a7,a8,a9,b0,b1,b2⟩:=at8 a2
     clear g0 g1 g2 g3 g4 g5 g6 g7 k0 k1 k2 k3 k4 k5 k6 k7
     go_wp2
     go_ret
     exact ⟨ret_bool (by rw [HZ.out];have hc:=HC.out;have hd:=HD.out;first|rfl | (simp;done) | (simp;omega)),a0.out⟩
   · skip
     go_enter Tryz.func70,Tryz.ntmps70
     have a0:=hid (show Below w.heap.size w w from Below.refl _ w)
     have c0:=g0
     have c1:=g1
     have c2:=g2
     have c3:=g3
     have c4:=g4
     have c5:=g5
     have c6:=g6
     have c7:=g7
     obtain ⟨o_,ho_⟩:∃ o,o=((.cells #[.slice x.A x.n x.c,.int .i64 p.lo,.int .i64 p.hi,.int .i64 p.lb,.int .i64 p.hb,.bool true,.int .i64 p.fb,.slice x.B x.m x.d] 48):Obj):=⟨_,rfl⟩
     replace a0:=bA a0 o_
     subst ho_
     have a1:=hid (Blk.new w 48 #[.slice x.A x.n x.c,.int .i64 p.lo,.int .i64 p.hi,.int .i64 p.lb,.int .i64 p.hb,.bool true,.int .i64 p.fb,.slice x.B x.m x.d])
     have d0:=(Below.cell a0.out (p:=⟨b,_,none⟩) hbw).trans k0
     have d1:=(Below.cell a0.out (p:=⟨b,_,none⟩) hbw).trans k1
     have d2:=(Below.cell a0.out (p:=⟨b,_,none⟩) hbw).trans k2
     have d3:=(Below.cell a0.out (p:=⟨b,_,none⟩) hbw).trans k3
     have d4:=(Below.cell a0.out (p:=⟨b,_,none⟩) hbw).trans k4
     have d5:=(Below.cell a0.out (p:=⟨b,_,none⟩) hbw).trans k5
     have d6:=(Below.cell a0.out (p:=⟨b,_,none⟩) hbw).trans k6
     have d7:=(Below.cell a0.out (p:=⟨b,_,none⟩) hbw).trans k7
     obtain ⟨o_,ho_⟩:∃ o,o=((.cells #[.slice x2.A x2.n x2.c,.int .i64 p2.lo,.int .i64 p2.hi,.int .i64 p2.lb,.int .i64 p2.hb,.bool true,.int .i64 p2.fb,.slice x2.B x2.m x2.d] 48):Obj):=⟨_,rfl⟩
     replace a0:=bA a0 o_
     replace a1:=kA a1 o_
     subst ho_
     have a2:=hid (Blk.new (w.alloc (.cells #[.slice x.A x.n x.c,.int .i64 p.lo,.int .i64 p.hi,.int .i64 p.lb,.int .i64 p.hb,.bool true,.int .i64 p.fb,.slice x.B x.m x.d] 48)) 48 #[.slice x2.A x2.n x2.c,.int .i64 p2.lo,.int .i64 p2.hi,.int .i64 p2.lb,.int .i64 p2.hb,.bool true,.int .i64 p2.fb,.slice x2.B x2.m x2.d])
     obtain ⟨b3,b4,b5,b6,b7,b8,a3,a4⟩:=at8 a1
     obtain ⟨a5,a6,a7,a8,a9,b0,b1,b2⟩:=at8 a2
     clear g0 g1 g2 g3 g4 g5 g6 g7 k0 k1 k2 k3 k4 k5 k6 k7
     go_wp2
     go_ret
     exact ⟨ret_bool (by rw [HZ.out];have hc:=HC.out;have hd:=HD.out;first|rfl | (simp;done) | (simp;omega)),a0.out⟩
   · skip
     go_enter Tryz.func70,Tryz.ntmps70
     have a0:=hid (show Below w.heap.size w w from Below.refl _ w)
     have c0:=g0
     have c1:=g1
     have c2:=g2
     have c3:=g3
     have c4:=g4
     have c5:=g5
     have c6:=g6
     have c7:=g7
     obtain ⟨o_,ho_⟩:∃ o,o=((.cells #[.slice x.A x.n x.c,.int .i64 p.lo,.int .i64 p.hi,.int .i64 p.lb,.int .i64 p.hb,.bool false,.int .i64 p.fb,.slice x.B x.m x.d] 48):Obj):=⟨_,rfl⟩
     replace a0:=bA a0 o_
     subst ho_
     have a1:=hid (Blk.new w 48 #[.slice x.A x.n x.c,.int .i64 p.lo,.int .i64 p.hi,.int .i64 p.lb,.int .i64 p.hb,.bool false,.int .i64 p.fb,.slice x.B x.m x.d])
     have d0:=(Below.cell a0.out (p:=⟨b,_,none⟩) hbw).trans k0
     have d1:=(Below.cell a0.out (p:=⟨b,_,none⟩) hbw).trans k1
     have d2:=(Below.cell a0.out (p:=⟨b,_,none⟩) hbw).trans k2
     have d3:=(Below.cell a0.out (p:=⟨b,_,none⟩) hbw).trans k3
     have d4:=(Below.cell a0.out (p:=⟨b,_,none⟩) hbw).trans k4
     have d5:=(Below.cell a0.out (p:=⟨b,_,none⟩) hbw).trans k5
     have d6:=(Below.cell a0.out (p:=⟨b,_,none⟩) hbw).trans k6
     have d7:=(Below.cell a0.out (p:=⟨b,_,none⟩) hbw).trans k7
     obtain ⟨o_,ho_⟩:∃ o,o=((.cells #[.slice x2.A x2.n x2.c,.int .i64 p2.lo,.int .i64 p2.hi,.int .i64 p2.lb,.int .i64 p2.hb,.bool false,.int .i64 p2.fb,.slice x2.B x2.m x2.d] 48):Obj):=⟨_,rfl⟩
     replace a0:=bA a0 o_
     replace a1:=kA a1 o_
     subst ho_
     have a2:=hid (Blk.new (w.alloc (.cells #[.slice x.A x.n x.c,.int .i64 p.lo,.int .i64 p.hi,.int .i64 p.lb,.int .i64 p.hb,.bool false,.int .i64 p.fb,.slice x.B x.m x.d] 48)) 48 #[.slice x2.A x2.n x2.c,.int .i64 p2.lo,.int .i64 p2.hi,.int .i64 p2.lb,.int .i64 p2.hb,.bool false,.int .i64 p2.fb,.slice x2.B x2.m x2.d])
     obtain ⟨b3,b4,b5,b6,b7,b8,a3,a4⟩:=at8 a1
     obtain ⟨a5,a6,a7,a8,a9,b0,b1,b2⟩:=at8 a2
     clear g0 g1 g2 g3 g4 g5 g6 g7 k0 k1 k2 k3 k4 k5 k6 k7
     go_wp2
     go_ret
     exact ⟨ret_bool (by rw [HZ.out];have hc:=HC.out;have hd:=HD.out;first|rfl | (simp;done) | (simp;omega)),a0.out⟩
   · skip
     go_enter Tryz.func70,Tryz.ntmps70
     have a0:=hid (show Below w.heap.size w w from Below.refl _ w)
     have c0:=g0
     have c1:=g1
     have c2:=g2
     have c3:=g3
     have c4:=g4
     have c5:=g5
     have c6:=g6
     have c7:=g7
     obtain ⟨o_,ho_⟩:∃ o,o=((.cells #[.slice x.A x.n x.c,.int .i64 p.lo,.int .i64 p.hi,.int .i64 p.lb,.int .i64 p.hb,.bool false,.int .i64 p.fb,.slice x.B x.m x.d] 48):Obj):=⟨_,rfl⟩
     replace a0:=bA a0 o_
     subst ho_
     have a1:=hid (Blk.new w 48 #[.slice x.A x.n x.c,.int .i64 p.lo,.int .i64 p.hi,.int .i64 p.lb,.int .i64 p.hb,.bool false,.int .i64 p.fb,.slice x.B x.m x.d])
     have d0:=(Below.cell a0.out (p:=⟨b,_,none⟩) hbw).trans k0
     have d1:=(Below.cell a0.out (p:=⟨b,_,none⟩) hbw).trans k1
     have d2:=(Below.cell a0.out (p:=⟨b,_,none⟩) hbw).trans k2
     have d3:=(Below.cell a0.out (p:=⟨b,_,none⟩) hbw).trans k3
     have d4:=(Below.cell a0.out (p:=⟨b,_,none⟩) hbw).trans k4
     have d5:=(Below.cell a0.out (p:=⟨b,_,none⟩) hbw).trans k5
     have d6:=(Below.cell a0.out (p:=⟨b,_,none⟩) hbw).trans k6
     have d7:=(Below.cell a0.out (p:=⟨b,_,none⟩) hbw).trans k7
     obtain ⟨o_,ho_⟩:∃ o,o=((.cells #[.slice x2.A x2.n x2.c,.int .i64 p2.lo,.int .i64 p2.hi,.int .i64 p2.lb,.int .i64 p2.hb,.bool true,.int .i64 p2.fb,.slice x2.B x2.m x2.d] 48):Obj):=⟨_,rfl⟩
     replace a0:=bA a0 o_
     replace a1:=kA a1 o_
     subst ho_
     have a2:=hid (Blk.new (w.alloc (.cells #[.slice x.A x.n x.c,.int .i64 p.lo,.int .i64 p.hi,.int .i64 p.lb,.int .i64 p.hb,.bool false,.int .i64 p.fb,.slice x.B x.m x.d] 48)) 48 #[.slice x2.A x2.n x2.c,.int .i64 p2.lo,.int .i64 p2.hi,.int .i64 p2.lb,.int .i64 p2.hb,.bool true,.int .i64 p2.fb,.slice x2.B x2.m x2.d])
     obtain ⟨b3,b4,b5,b6,b7,b8,a3,a4⟩:=at8 a1
     obtain ⟨a5,a6,a7,a8,a9,b0,b1,b2⟩:=at8 a2
     clear g0 g1 g2 g3 g4 g5 g6 g7 k0 k1 k2 k3 k4 k5 k6 k7
     go_wp2
     go_ret
     exact ⟨ret_bool (by rw [HZ.out];have hc:=HC.out;have hd:=HD.out;first|rfl | (simp;done) | (simp;omega)),a0.out⟩
   · skip
     go_enter Tryz.func70,Tryz.ntmps70
     have a0:=hid (show Below w.heap.size w w from Below.refl _ w)
     have c0:=g0
     have c1:=g1
     have c2:=g2
     have c3:=g3
     have c4:=g4
     have c5:=g5
     have c6:=g6
     have c7:=g7
     obtain ⟨o_,ho_⟩:∃ o,o=((.cells #[.slice x.A x.n x.c,.int .i64 p.lo,.int .i64 p.hi,.int .i64 p.lb,.int .i64 p.hb,.bool true,.int .i64 p.fb,.slice x.B x.m x.d] 48):Obj):=⟨_,rfl⟩
     replace a0:=bA a0 o_
     subst ho_
     have a1:=hid (Blk.new w 48 #[.slice x.A x.n x.c,.int .i64 p.lo,.int .i64 p.hi,.int .i64 p.lb,.int .i64 p.hb,.bool true,.int .i64 p.fb,.slice x.B x.m x.d])
     have d0:=(Below.cell a0.out (p:=⟨b,_,none⟩) hbw).trans k0
     have d1:=(Below.cell a0.out (p:=⟨b,_,none⟩) hbw).trans k1
     have d2:=(Below.cell a0.out (p:=⟨b,_,none⟩) hbw).trans k2
     have d3:=(Below.cell a0.out (p:=⟨b,_,none⟩) hbw).trans k3
     have d4:=(Below.cell a0.out (p:=⟨b,_,none⟩) hbw).trans k4
     have d5:=(Below.cell a0.out (p:=⟨b,_,none⟩) hbw).trans k5
     have d6:=(Below.cell a0.out (p:=⟨b,_,none⟩) hbw).trans k6
     have d7:=(Below.cell a0.out (p:=⟨b,_,none⟩) hbw).trans k7
     obtain ⟨o_,ho_⟩:∃ o,o=((.cells #[.slice x2.A x2.n x2.c,.int .i64 p2.lo,.int .i64 p2.hi,.int .i64 p2.lb,.int .i64 p2.hb,.bool false,.int .i64 p2.fb,.slice x2.B x2.m x2.d] 48):Obj):=⟨_,rfl⟩
     replace a0:=bA a0 o_
     replace a1:=kA a1 o_
     subst ho_
     have a2:=hid (Blk.new (w.alloc (.cells #[.slice x.A x.n x.c,.int .i64 p.lo,.int .i64 p.hi,.int .i64 p.lb,.int .i64 p.hb,.bool true,.int .i64 p.fb,.slice x.B x.m x.d] 48)) 48 #[.slice x2.A x2.n x2.c,.int .i64 p2.lo,.int .i64 p2.hi,.int .i64 p2.lb,.int .i64 p2.hb,.bool false,.int .i64 p2.fb,.slice x2.B x2.m x2.d])
     obtain ⟨b3,b4,b5,b6,b7,b8,a3,a4⟩:=at8 a1
     obtain ⟨a5,a6,a7,a8,a9,b0,b1,b2⟩:=at8 a2
     clear g0 g1 g2 g3 g4 g5 g6 g7 k0 k1 k2 k3 k4 k5 k6 k7
     go_wp2
     go_ret
     exact ⟨ret_bool (by rw [HZ.out];have hc:=HC.out;have hd:=HD.out;first|rfl | (simp;done) | (simp;omega)),a0.out⟩
   · skip
     go_enter Tryz.func70,Tryz.ntmps70
     have a0:=hid (show Below w.heap.size w w from Below.refl _ w)
     have c0:=g0
     have c1:=g1
     have c2:=g2
     have c3:=g3
     have c4:=g4
     have c5:=g5
     have c6:=g6
     have c7:=g7
     obtain ⟨o_,ho_⟩:∃ o,o=((.cells #[.slice x.A x.n x.c,.int .i64 p.lo,.int .i64 p.hi,.int .i64 p.lb,.int .i64 p.hb,.bool true,.int .i64 p.fb,.slice x.B x.m x.d] 48):Obj):=⟨_,rfl⟩
     replace a0:=bA a0 o_
     subst ho_
     have a1:=hid (Blk.new w 48 #[.slice x.A x.n x.c,.int .i64 p.lo,.int .i64 p.hi,.int .i64 p.lb,.int .i64 p.hb,.bool true,.int .i64 p.fb,.slice x.B x.m x.d])
     have d0:=(Below.cell a0.out (p:=⟨b,_,none⟩) hbw).trans k0
     have d1:=(Below.cell a0.out (p:=⟨b,_,none⟩) hbw).trans k1
     have d2:=(Below.cell a0.out (p:=⟨b,_,none⟩) hbw).trans k2
     have d3:=(Below.cell a0.out (p:=⟨b,_,none⟩) hbw).trans k3
     have d4:=(Below.cell a0.out (p:=⟨b,_,none⟩) hbw).trans k4
     have d5:=(Below.cell a0.out (p:=⟨b,_,none⟩) hbw).trans k5
     have d6:=(Below.cell a0.out (p:=⟨b,_,none⟩) hbw).trans k6
     have d7:=(Below.cell a0.out (p:=⟨b,_,none⟩) hbw).trans k7
     obtain ⟨o_,ho_⟩:∃ o,o=((.cells #[.slice x2.A x2.n x2.c,.int .i64 p2.lo,.int .i64 p2.hi,.int .i64 p2.lb,.int .i64 p2.hb,.bool true,.int .i64 p2.fb,.slice x2.B x2.m x2.d] 48):Obj):=⟨_,rfl⟩
     replace a0:=bA a0 o_
     replace a1:=kA a1 o_
     subst ho_
     have a2:=hid (Blk.new (w.alloc (.cells #[.slice x.A x.n x.c,.int .i64 p.lo,.int .i64 p.hi,.int .i64 p.lb,.int .i64 p.hb,.bool true,.int .i64 p.fb,.slice x.B x.m x.d] 48)) 48 #[.slice x2.A x2.n x2.c,.int .i64 p2.lo,.int .i64 p2.hi,.int .i64 p2.lb,.int .i64 p2.hb,.bool true,.int .i64 p2.fb,.slice x2.B x2.m x2.d])
     obtain ⟨b3,b4,b5,b6,b7,b8,a3,a4⟩:=at8 a1
     obtain ⟨a5,a6,a7,a8,a9,b0,b1,b2⟩:=at8 a2
     clear g0 g1 g2 g3 g4 g5 g6 g7 k0 k1 k2 k3 k4 k5 k6 k7
     go_wp2
     go_ret
     exact ⟨ret_bool (by rw [HZ.out];have hc:=HC.out;have hd:=HD.out;first|rfl | (simp;done) | (simp;omega)),a0.out⟩
   · skip
     go_enter Tryz.func70,Tryz.ntmps70
     have a0:=hid (show Below w.heap.size w w from Below.refl _ w)
     have c0:=g0
     have c1:=g1
     have c2:=g2
     have c3:=g3
     have c4:=g4
     have c5:=g5
     have c6:=g6
     have c7:=g7
     obtain ⟨o_,ho_⟩:∃ o,o=((.cells #[.slice x.A x.n x.c,.int .i64 p.lo,.int .i64 p.hi,.int .i64 p.lb,.int .i64 p.hb,.bool false,.int .i64 p.fb,.slice x.B x.m x.d] 48):Obj):=⟨_,rfl⟩
     replace a0:=bA a0 o_
     subst ho_
     have a1:=hid (Blk.new w 48 #[.slice x.A x.n x.c,.int .i64 p.lo,.int .i64 p.hi,.int .i64 p.lb,.int .i64 p.hb,.bool false,.int .i64 p.fb,.slice x.B x.m x.d])
     have d0:=(Below.cell a0.out (p:=⟨b,_,none⟩) hbw).trans k0
     have d1:=(Below.cell a0.out (p:=⟨b,_,none⟩) hbw).trans k1
     have d2:=(Below.cell a0.out (p:=⟨b,_,none⟩) hbw).trans k2
     have d3:=(Below.cell a0.out (p:=⟨b,_,none⟩) hbw).trans k3
     have d4:=(Below.cell a0.out (p:=⟨b,_,none⟩) hbw).trans k4
     have d5:=(Below.cell a0.out (p:=⟨b,_,none⟩) hbw).trans k5
     have d6:=(Below.cell a0.out (p:=⟨b,_,none⟩) hbw).trans k6
     have d7:=(Below.cell a0.out (p:=⟨b,_,none⟩) hbw).trans k7
     obtain ⟨o_,ho_⟩:∃ o,o=((.cells #[.slice x2.A x2.n x2.c,.int .i64 p2.lo,.int .i64 p2.hi,.int .i64 p2.lb,.int .i64 p2.hb,.bool false,.int .i64 p2.fb,.slice x2.B x2.m x2.d] 48):Obj):=⟨_,rfl⟩
     replace a0:=bA a0 o_
     replace a1:=kA a1 o_
     subst ho_
     have a2:=hid (Blk.new (w.alloc (.cells #[.slice x.A x.n x.c,.int .i64 p.lo,.int .i64 p.hi,.int .i64 p.lb,.int .i64 p.hb,.bool false,.int .i64 p.fb,.slice x.B x.m x.d] 48)) 48 #[.slice x2.A x2.n x2.c,.int .i64 p2.lo,.int .i64 p2.hi,.int .i64 p2.lb,.int .i64 p2.hb,.bool false,.int .i64 p2.fb,.slice x2.B x2.m x2.d])
     obtain ⟨b3,b4,b5,b6,b7,b8,a3,a4⟩:=at8 a1
     obtain ⟨a5,a6,a7,a8,a9,b0,b1,b2⟩:=at8 a2
     clear g0 g1 g2 g3 g4 g5 g6 g7 k0 k1 k2 k3 k4 k5 k6 k7
     go_wp2
     go_ret
     exact ⟨ret_bool (by rw [HZ.out];have hc:=HC.out;have hd:=HD.out;first|rfl | (simp;done) | (simp;omega)),a0.out⟩
   · skip
     go_enter Tryz.func70,Tryz.ntmps70
     have a0:=hid (show Below w.heap.size w w from Below.refl _ w)
     have c0:=g0
     have c1:=g1
     have c2:=g2
     have c3:=g3
     have c4:=g4
     have c5:=g5
     have c6:=g6
     have c7:=g7
     obtain ⟨o_,ho_⟩:∃ o,o=((.cells #[.slice x.A x.n x.c,.int .i64 p.lo,.int .i64 p.hi,.int .i64 p.lb,.int .i64 p.hb,.bool false,.int .i64 p.fb,.slice x.B x.m x.d] 48):Obj):=⟨_,rfl⟩
     replace a0:=bA a0 o_
     subst ho_
     have a1:=hid (Blk.new w 48 #[.slice x.A x.n x.c,.int .i64 p.lo,.int .i64 p.hi,.int .i64 p.lb,.int .i64 p.hb,.bool false,.int .i64 p.fb,.slice x.B x.m x.d])
     have d0:=(Below.cell a0.out (p:=⟨b,_,none⟩) hbw).trans k0
     have d1:=(Below.cell a0.out (p:=⟨b,_,none⟩) hbw).trans k1
     have d2:=(Below.cell a0.out (p:=⟨b,_,none⟩) hbw).trans k2
     have d3:=(Below.cell a0.out (p:=⟨b,_,none⟩) hbw).trans k3
     have d4:=(Below.cell a0.out (p:=⟨b,_,none⟩) hbw).trans k4
     have d5:=(Below.cell a0.out (p:=⟨b,_,none⟩) hbw).trans k5
     have d6:=(Below.cell a0.out (p:=⟨b,_,none⟩) hbw).trans k6
     have d7:=(Below.cell a0.out (p:=⟨b,_,none⟩) hbw).trans k7
     obtain ⟨o_,ho_⟩:∃ o,o=((.cells #[.slice x2.A x2.n x2.c,.int .i64 p2.lo,.int .i64 p2.hi,.int .i64 p2.lb,.int .i64 p2.hb,.bool true,.int .i64 p2.fb,.slice x2.B x2.m x2.d] 48):Obj):=⟨_,rfl⟩
     replace a0:=bA a0 o_
     replace a1:=kA a1 o_
     subst ho_
     have a2:=hid (Blk.new (w.alloc (.cells #[.slice x.A x.n x.c,.int .i64 p.lo,.int .i64 p.hi,.int .i64 p.lb,.int .i64 p.hb,.bool false,.int .i64 p.fb,.slice x.B x.m x.d] 48)) 48 #[.slice x2.A x2.n x2.c,.int .i64 p2.lo,.int .i64 p2.hi,.int .i64 p2.lb,.int .i64 p2.hb,.bool true,.int .i64 p2.fb,.slice x2.B x2.m x2.d])
     obtain ⟨b3,b4,b5,b6,b7,b8,a3,a4⟩:=at8 a1
     obtain ⟨a5,a6,a7,a8,a9,b0,b1,b2⟩:=at8 a2
     clear g0 g1 g2 g3 g4 g5 g6 g7 k0 k1 k2 k3 k4 k5 k6 k7
     go_wp2
     go_ret
     exact ⟨ret_bool (by rw [HZ.out];have hc:=HC.out;have hd:=HD.out;first|rfl | (simp;done) | (simp;omega)),a0.out⟩
   · skip
     go_enter Tryz.func70,Tryz.ntmps70
     have a0:=hid (show Below w.heap.size w w from Below.refl _ w)
     have c0:=g0
     have c1:=g1
     have c2:=g2
     have c3:=g3
     have c4:=g4
     have c5:=g5
     have c6:=g6
     have c7:=g7
     obtain ⟨o_,ho_⟩:∃ o,o=((.cells #[.slice x.A x.n x.c,.int .i64 p.lo,.int .i64 p.hi,.int .i64 p.lb,.int .i64 p.hb,.bool true,.int .i64 p.fb,.slice x.B x.m x.d] 48):Obj):=⟨_,rfl⟩
     replace a0:=bA a0 o_
     subst ho_
     have a1:=hid (Blk.new w 48 #[.slice x.A x.n x.c,.int .i64 p.lo,.int .i64 p.hi,.int .i64 p.lb,.int .i64 p.hb,.bool true,.int .i64 p.fb,.slice x.B x.m x.d])
     have d0:=(Below.cell a0.out (p:=⟨b,_,none⟩) hbw).trans k0
     have d1:=(Below.cell a0.out (p:=⟨b,_,none⟩) hbw).trans k1
     have d2:=(Below.cell a0.out (p:=⟨b,_,none⟩) hbw).trans k2
     have d3:=(Below.cell a0.out (p:=⟨b,_,none⟩) hbw).trans k3
     have d4:=(Below.cell a0.out (p:=⟨b,_,none⟩) hbw).trans k4
     have d5:=(Below.cell a0.out (p:=⟨b,_,none⟩) hbw).trans k5
     have d6:=(Below.cell a0.out (p:=⟨b,_,none⟩) hbw).trans k6
     have d7:=(Below.cell a0.out (p:=⟨b,_,none⟩) hbw).trans k7
     obtain ⟨o_,ho_⟩:∃ o,o=((.cells #[.slice x2.A x2.n x2.c,.int .i64 p2.lo,.int .i64 p2.hi,.int .i64 p2.lb,.int .i64 p2.hb,.bool false,.int .i64 p2.fb,.slice x2.B x2.m x2.d] 48):Obj):=⟨_,rfl⟩
     replace a0:=bA a0 o_
     replace a1:=kA a1 o_
     subst ho_
     have a2:=hid (Blk.new (w.alloc (.cells #[.slice x.A x.n x.c,.int .i64 p.lo,.int .i64 p.hi,.int .i64 p.lb,.int .i64 p.hb,.bool true,.int .i64 p.fb,.slice x.B x.m x.d] 48)) 48 #[.slice x2.A x2.n x2.c,.int .i64 p2.lo,.int .i64 p2.hi,.int .i64 p2.lb,.int .i64 p2.hb,.bool false,.int .i64 p2.fb,.slice x2.B x2.m x2.d])
     obtain ⟨b3,b4,b5,b6,b7,b8,a3,a4⟩:=at8 a1
     obtain ⟨a5,a6,a7,a8,a9,b0,b1,b2⟩:=at8 a2
     clear g0 g1 g2 g3 g4 g5 g6 g7 k0 k1 k2 k3 k4 k5 k6 k7
     go_wp2
     go_ret
     exact ⟨ret_bool (by rw [HZ.out];have hc:=HC.out;have hd:=HD.out;first|rfl | (simp;done) | (simp;omega)),a0.out⟩
   · skip
     go_enter Tryz.func70,Tryz.ntmps70
     have a0:=hid (show Below w.heap.size w w from Below.refl _ w)
     have c0:=g0
     have c1:=g1
     have c2:=g2
     have c3:=g3
     have c4:=g4
     have c5:=g5
     have c6:=g6
     have c7:=g7
     obtain ⟨o_,ho_⟩:∃ o,o=((.cells #[.slice x.A x.n x.c,.int .i64 p.lo,.int .i64 p.hi,.int .i64 p.lb,.int .i64 p.hb,.bool true,.int .i64 p.fb,.slice x.B x.m x.d] 48):Obj):=⟨_,rfl⟩
     replace a0:=bA a0 o_
     subst ho_
     have a1:=hid (Blk.new w 48 #[.slice x.A x.n x.c,.int .i64 p.lo,.int .i64 p.hi,.int .i64 p.lb,.int .i64 p.hb,.bool true,.int .i64 p.fb,.slice x.B x.m x.d])
     have d0:=(Below.cell a0.out (p:=⟨b,_,none⟩) hbw).trans k0
     have d1:=(Below.cell a0.out (p:=⟨b,_,none⟩) hbw).trans k1
     have d2:=(Below.cell a0.out (p:=⟨b,_,none⟩) hbw).trans k2
     have d3:=(Below.cell a0.out (p:=⟨b,_,none⟩) hbw).trans k3
     have d4:=(Below.cell a0.out (p:=⟨b,_,none⟩) hbw).trans k4
     have d5:=(Below.cell a0.out (p:=⟨b,_,none⟩) hbw).trans k5
     have d6:=(Below.cell a0.out (p:=⟨b,_,none⟩) hbw).trans k6
     have d7:=(Below.cell a0.out (p:=⟨b,_,none⟩) hbw).trans k7
     obtain ⟨o_,ho_⟩:∃ o,o=((.cells #[.slice x2.A x2.n x2.c,.int .i64 p2.lo,.int .i64 p2.hi,.int .i64 p2.lb,.int .i64 p2.hb,.bool true,.int .i64 p2.fb,.slice x2.B x2.m x2.d] 48):Obj):=⟨_,rfl⟩
     replace a0:=bA a0 o_
     replace a1:=kA a1 o_
     subst ho_
     have a2:=hid (Blk.new (w.alloc (.cells #[.slice x.A x.n x.c,.int .i64 p.lo,.int .i64 p.hi,.int .i64 p.lb,.int .i64 p.hb,.bool true,.int .i64 p.fb,.slice x.B x.m x.d] 48)) 48 #[.slice x2.A x2.n x2.c,.int .i64 p2.lo,.int .i64 p2.hi,.int .i64 p2.lb,.int .i64 p2.hb,.bool true,.int .i64 p2.fb,.slice x2.B x2.m x2.d])
     obtain ⟨b3,b4,b5,b6,b7,b8,a3,a4⟩:=at8 a1
     obtain ⟨a5,a6,a7,a8,a9,b0,b1,b2⟩:=at8 a2
     clear g0 g1 g2 g3 g4 g5 g6 g7 k0 k1 k2 k3 k4 k5 k6 k7
     go_wp2
     go_ret
     exact ⟨ret_bool (by rw [HZ.out];have hc:=HC.out;have hd:=HD.out;first|rfl | (simp;done) | (simp;omega)),a0.out⟩
theorem xclash_is (A:Option Addr) (n k:Nat) (ps:List Prt) (w:World) (hr:RdP w A n k ps) (hn:n≤maxLen) (a b':Nat) (ha:a<n) (hb:b'<n) (v:Bool) (hv:clB ps a b'=v):Calls Tryz.prog 70 #[.slice A n k,.int .i64 a,.int .i64 b'] w fun e w'=>e=.returned (.bool v)∧Below w.heap.size w w':=by
 subst hv
 exact xclash_any A n k ps w hr hn a b' ha hb
end Go.Proofs.YtokpblmgdmokoaaGreat
