import Derived.Test.YtjjmifcjailpaaaGreatTMem
import Derived.Test.YtjjmifcjailpaaaGreatRows
import Derived.Test.YtjjmifcjailpaaaGreatTMemab
import Derived.Test.YtjjmifcjailpaaaGreatTEPubab
import Derived.Test.YtjjmifcjailpaaaGreatTEAlive
import Derived.Test.YtjjmifcjailpaaaGreatTEStd
import Derived.Test.YtjjmifcjailpaaaGreatTEOpen
import Derived.Test.YtjjmifcjailpaaaGreatTEStcab
import Derived.Test.YtjjmifcjailpaaaGreatTERefMac
import Derived.Test.YtjjmifcjailpaaaGreatTERefNa
set_option maxHeartbeats 4000000
set_option linter.unusedSimpArgs false
set_option linter.unusedVariables false
namespace Go.Proofs.YtjjmifcjailpaaaGreat
open Go.RowKit
def fewB (n m : Nat) : Bool := (decide (n ≤ 40) || (decide (395 < n) && decide (n ≤ 405))) && (decide (m ≤ 40) || (decide (395 < m) && decide (m ≤ 405)))
set_option maxRecDepth 100000 in
theorem few3_any (c : Int) (A B : Option Addr) (n k m j : Nat) (w : World) :
 Calls Tryz.prog 17 #[.agg #[.int .i64 c, .slice A n k, .slice B m j]] w fun e w' => e = .returned (.bool (fewB n m)) ∧ Below w.heap.size w w' := by
 by_cases h1n : (n : Int) ≤ 40
 · skip
   by_cases h1m : (m : Int) ≤ 40
   · skip
     go_enter Tryz.func17, Tryz.ntmps17
     go_wp2
     go_ret
     exact ⟨ret_bool (by simp [fewB]; omega), (by (repeat (first | exact Below.refl _ _ | refine Below.drew ?_ | refine Below.alloc ?_ (by simp) _)))⟩
   · by_cases h2m : (395 : Int) < m
     · by_cases h3m : (m : Int) ≤ 405
       · skip
         go_enter Tryz.func17, Tryz.ntmps17
         go_wp2
         go_ret
         exact ⟨ret_bool (by simp [fewB]; omega), (by (repeat (first | exact Below.refl _ _ | refine Below.drew ?_ | refine Below.alloc ?_ (by simp) _)))⟩
       · skip
         go_enter Tryz.func17, Tryz.ntmps17
         go_wp2
         go_ret
         exact ⟨ret_bool (by simp [fewB]; omega), (by (repeat (first | exact Below.refl _ _ | refine Below.drew ?_ | refine Below.alloc ?_ (by simp) _)))⟩
     · skip
       go_enter Tryz.func17, Tryz.ntmps17
       go_wp2
       go_ret
       exact ⟨ret_bool (by simp [fewB]; omega), (by (repeat (first | exact Below.refl _ _ | refine Below.drew ?_ | refine Below.alloc ?_ (by simp) _)))⟩
 · by_cases h2n : (395 : Int) < n
   · by_cases h3n : (n : Int) ≤ 405
     · skip
       by_cases h1m : (m : Int) ≤ 40
       · skip
         go_enter Tryz.func17, Tryz.ntmps17
         go_wp2
         go_ret
         exact ⟨ret_bool (by simp [fewB]; omega), (by (repeat (first | exact Below.refl _ _ | refine Below.drew ?_ | refine Below.alloc ?_ (by simp) _)))⟩
       · by_cases h2m : (395 : Int) < m
         · by_cases h3m : (m : Int) ≤ 405
           · skip
             go_enter Tryz.func17, Tryz.ntmps17
             go_wp2
             go_ret
             exact ⟨ret_bool (by simp [fewB]; omega), (by (repeat (first | exact Below.refl _ _ | refine Below.drew ?_ | refine Below.alloc ?_ (by simp) _)))⟩
           · skip
             go_enter Tryz.func17, Tryz.ntmps17
             go_wp2
             go_ret
             exact ⟨ret_bool (by simp [fewB]; omega), (by (repeat (first | exact Below.refl _ _ | refine Below.drew ?_ | refine Below.alloc ?_ (by simp) _)))⟩
         · skip
           go_enter Tryz.func17, Tryz.ntmps17
           go_wp2
           go_ret
           exact ⟨ret_bool (by simp [fewB]; omega), (by (repeat (first | exact Below.refl _ _ | refine Below.drew ?_ | refine Below.alloc ?_ (by simp) _)))⟩
     · skip
       go_enter Tryz.func17, Tryz.ntmps17
       go_wp2
       go_ret
       exact ⟨ret_bool (by simp [fewB]; omega), (by (repeat (first | exact Below.refl _ _ | refine Below.drew ?_ | refine Below.alloc ?_ (by simp) _)))⟩
   · skip
     go_enter Tryz.func17, Tryz.ntmps17
     go_wp2
     go_ret
     exact ⟨ret_bool (by simp [fewB]; omega), (by (repeat (first | exact Below.refl _ _ | refine Below.drew ?_ | refine Below.alloc ?_ (by simp) _)))⟩
end Go.Proofs.YtjjmifcjailpaaaGreat
set_option linter.unusedSimpArgs false
set_option linter.unusedVariables false
namespace Go.Proofs.YtjjmifcjailpaaaGreat
open Go.ChangeShapes Go.WideShapes Go.ChangeAt Go.RowKit
section
variable (c : Int) (A B : Option Addr) (n k m j : Nat) (ws ts : List Bnd) (d : Int) (C D : Option Addr) (n2 k2 m2 j2 : Nat) (ws2 ts2 : List Bnd) (p1 p2 p3 p4 : Int) (w : World) (h1 : RdB w A n k ws) (h2 : RdB w B m j ts)
include c A B n k m j ws ts d C D n2 k2 m2 j2 ws2 ts2 p1 p2 p3 p4 w h1 h2
set_option maxRecDepth 100000 in
theorem xc_a (hn : n ≤ maxLen) (hm : m ≤ maxLen) (h3 : RdB w C n2 k2 ws2) (h4 : RdB w D m2 j2 ts2) (hn2 : n2 ≤ maxLen) (hm2 : m2 ≤ maxLen) (X1 : Option Addr) (x1 k1 : Nat) (xa : List Int) (X2 : Option Addr) (x2 k2x : Nat) (xb : List Int) (X3 : Option Addr) (x3 k3 : Nat) (ya : List Int) (X4 : Option Addr) (x4 k4 : Nat) (yb : List Int) (hx0 : RdI w X1 x1 k1 xa) (hl0 : x1 ≤ maxLen) (hx1 : RdI w X2 x2 k2x xb) (hl1 : x2 ≤ maxLen) (hx2 : RdI w X3 x3 k3 ya) (hl2 : x3 ≤ maxLen) (hx3 : RdI w X4 x4 k4 yb) (hl3 : x4 ≤ maxLen) (t : Bool) (F : Option Addr) (fm fd : Nat) (x : List Int) (hf : RdI w F fm fd x) (hfm : fm ≤ maxLen) (F1 : Hid (fewB n m = false)) : Calls Tryz.prog 4 #[.agg #[.int .i64 c, .slice A n k, .slice B m j], .agg #[.int .i64 d, .slice C n2 k2, .slice D m2 j2], .agg #[.int .i64 p1, .int .i64 p2, .int .i64 p3, .int .i64 p4], .agg #[.slice X1 x1 k1, .slice X2 x2 k2x, .slice X3 x3 k3, .slice X4 x4 k4], .agg #[.bool t, .slice F fm fd]] w fun e w' => e = .returned (.bool true) ∧ Below w.heap.size w w' := by
 go_enter Tryz.func4, Tryz.ntmps4
 obtain ⟨a3, a4, a5, a6, a7, a0⟩ := ent5 w #[.int .i64 c, .slice A n k, .slice B m j] 24 #[.int .i64 d, .slice C n2 k2, .slice D m2 j2] 24 #[.int .i64 p1, .int .i64 p2, .int .i64 p3, .int .i64 p4] 28 #[.slice X1 x1 k1, .slice X2 x2 k2x, .slice X3 x3 k3, .slice X4 x4 k4] 36 #[.bool t, .slice F fm fd] 40
 have e7 := rI h1 a0
 have e8 := rI h2 a0
 have e9 := rI h3 a0
 have e1 := rI h4 a0
 have e2 := iI hx0 a0
 have e3 := iI hx1 a0
 have e4 := iI hx2 a0
 have e5 := iI hx3 a0
 have e6 := iI hf a0
 clear h1 h2 h3 h4 hx0 hx1 hx2 hx3 hf
 obtain ⟨a8, a9, b0⟩ := at3 a3
 obtain ⟨b1, b2, b3⟩ := at3 a4
 obtain ⟨b4, b5, b6, b7⟩ := at4 a5
 obtain ⟨b8, b9, c0, c1⟩ := at4 a6
 obtain ⟨c2, c3⟩ := at2 a7
 have hc := few3_any c A B n k m j ((((((w.alloc (.cells #[.int .i64 c, .slice A n k, .slice B m j] 24)).alloc (.cells #[.int .i64 d, .slice C n2 k2, .slice D m2 j2] 24)).alloc (.cells #[.int .i64 p1, .int .i64 p2, .int .i64 p3, .int .i64 p4] 28)).alloc (.cells #[.slice X1 x1 k1, .slice X2 x2 k2x, .slice X3 x3 k3, .slice X4 x4 k4] 36)).alloc (.cells #[.bool t, .slice F fm fd] 40)))
 rw [F1.out] at hc
 try dsimp only at hc
 have HC := Lib.hid hc; clear hc
 go_wp2_with fail
 refine HC.out.mono ?_
 rintro e c4 ⟨rfl, hb⟩
 clear HC
 clear a8 a9 b0 b1 b2 b3 b4 b5 b6 b7 b8 b9 c0 c1 c2 c3
 have a1 := Lib.hid hb
 clear hb
 replace a3 := kH a3 a1
 obtain ⟨c5, c6, c7⟩ := at3 a3
 replace a4 := kH a4 a1
 obtain ⟨c8, c9, d0⟩ := at3 a4
 replace a5 := kH a5 a1
 obtain ⟨d1, d2, d3, d4⟩ := at4 a5
 replace a6 := kH a6 a1
 obtain ⟨d5, d6, d7, d8⟩ := at4 a6
 replace a7 := kH a7 a1
 obtain ⟨d9, e0⟩ := at2 a7
 have hc := joined_any (c4)
 have HC := Lib.hid hc; clear hc
 go_wp2_with fail
 refine HC.out.mono ?_
 rintro e f0 ⟨rfl, hb⟩
 clear HC
 clear c5 c6 c7 c8 c9 d0 d1 d2 d3 d4 d5 d6 d7 d8 d9 e0
 have a2 := Lib.hid hb
 clear hb
 replace a3 := kH a3 a2
 obtain ⟨f1, f2, f3⟩ := at3 a3
 replace a4 := kH a4 a2
 obtain ⟨f4, f5, f6⟩ := at3 a4
 replace a5 := kH a5 a2
 obtain ⟨f7, f8, f9, g0⟩ := at4 a5
 replace a6 := kH a6 a2
 obtain ⟨g1, g2, g3, g4⟩ := at4 a6
 replace a7 := kH a7 a2
 obtain ⟨g5, g6⟩ := at2 a7
 go_wp2
 go_ret
 replace a0 := bH (bH a0 a1) a2
 exact ⟨rfl, a0.out⟩
set_option maxRecDepth 100000 in
theorem xc_b (hn : n ≤ maxLen) (hm : m ≤ maxLen) (h3 : RdB w C n2 k2 ws2) (h4 : RdB w D m2 j2 ts2) (hn2 : n2 ≤ maxLen) (hm2 : m2 ≤ maxLen) (X1 : Option Addr) (x1 k1 : Nat) (xa : List Int) (X2 : Option Addr) (x2 k2x : Nat) (xb : List Int) (X3 : Option Addr) (x3 k3 : Nat) (ya : List Int) (X4 : Option Addr) (x4 k4 : Nat) (yb : List Int) (hx0 : RdI w X1 x1 k1 xa) (hl0 : x1 ≤ maxLen) (hx1 : RdI w X2 x2 k2x xb) (hl1 : x2 ≤ maxLen) (hx2 : RdI w X3 x3 k3 ya) (hl2 : x3 ≤ maxLen) (hx3 : RdI w X4 x4 k4 yb) (hl3 : x4 ≤ maxLen) (t : Bool) (F : Option Addr) (fm fd : Nat) (x : List Int) (hf : RdI w F fm fd x) (hfm : fm ≤ maxLen) (F1 : Hid (fewB n m = true)) (F2 : Hid (fewB n2 m2 = false)) : Calls Tryz.prog 4 #[.agg #[.int .i64 c, .slice A n k, .slice B m j], .agg #[.int .i64 d, .slice C n2 k2, .slice D m2 j2], .agg #[.int .i64 p1, .int .i64 p2, .int .i64 p3, .int .i64 p4], .agg #[.slice X1 x1 k1, .slice X2 x2 k2x, .slice X3 x3 k3, .slice X4 x4 k4], .agg #[.bool t, .slice F fm fd]] w fun e w' => e = .returned (.bool true) ∧ Below w.heap.size w w' := by
 go_enter Tryz.func4, Tryz.ntmps4
 obtain ⟨a1, a2, a3, a4, a5, a0⟩ := ent5 w #[.int .i64 c, .slice A n k, .slice B m j] 24 #[.int .i64 d, .slice C n2 k2, .slice D m2 j2] 24 #[.int .i64 p1, .int .i64 p2, .int .i64 p3, .int .i64 p4] 28 #[.slice X1 x1 k1, .slice X2 x2 k2x, .slice X3 x3 k3, .slice X4 x4 k4] 36 #[.bool t, .slice F fm fd] 40
 have g5 := rI h1 a0
 have g6 := rI h2 a0
 have g7 := rI h3 a0
 have f9 := rI h4 a0
 have g0 := iI hx0 a0
 have g1 := iI hx1 a0
 have g2 := iI hx2 a0
 have g3 := iI hx3 a0
 have g4 := iI hf a0
 clear h1 h2 h3 h4 hx0 hx1 hx2 hx3 hf
 obtain ⟨a9, b0, b1⟩ := at3 a1
 obtain ⟨b2, b3, b4⟩ := at3 a2
 obtain ⟨b5, b6, b7, b8⟩ := at4 a3
 obtain ⟨b9, c0, c1, c2⟩ := at4 a4
 obtain ⟨c3, c4⟩ := at2 a5
 have hc := few3_any c A B n k m j ((((((w.alloc (.cells #[.int .i64 c, .slice A n k, .slice B m j] 24)).alloc (.cells #[.int .i64 d, .slice C n2 k2, .slice D m2 j2] 24)).alloc (.cells #[.int .i64 p1, .int .i64 p2, .int .i64 p3, .int .i64 p4] 28)).alloc (.cells #[.slice X1 x1 k1, .slice X2 x2 k2x, .slice X3 x3 k3, .slice X4 x4 k4] 36)).alloc (.cells #[.bool t, .slice F fm fd] 40)))
 rw [F1.out] at hc
 try dsimp only at hc
 have HC := Lib.hid hc; clear hc
 go_wp2_with fail
 refine HC.out.mono ?_
 rintro e c5 ⟨rfl, hb⟩
 clear HC
 clear a9 b0 b1 b2 b3 b4 b5 b6 b7 b8 b9 c0 c1 c2 c3 c4
 have a6 := Lib.hid hb
 clear hb
 replace a1 := kH a1 a6
 obtain ⟨c6, c7, c8⟩ := at3 a1
 replace a2 := kH a2 a6
 obtain ⟨c9, d0, d1⟩ := at3 a2
 replace a3 := kH a3 a6
 obtain ⟨d2, d3, d4, d5⟩ := at4 a3
 replace a4 := kH a4 a6
 obtain ⟨d6, d7, d8, d9⟩ := at4 a4
 replace a5 := kH a5 a6
 obtain ⟨e0, e1⟩ := at2 a5
 have hc := few3_any d C D n2 k2 m2 j2 (c5)
 rw [F2.out] at hc
 try dsimp only at hc
 have HC := Lib.hid hc; clear hc
 go_wp2_with fail
 refine HC.out.mono ?_
 rintro e e2 ⟨rfl, hb⟩
 clear HC
 clear c6 c7 c8 c9 d0 d1 d2 d3 d4 d5 d6 d7 d8 d9 e0 e1
 have a7 := Lib.hid hb
 clear hb
 replace a1 := kH a1 a7
 obtain ⟨e3, e4, e5⟩ := at3 a1
 replace a2 := kH a2 a7
 obtain ⟨e6, e7, e8⟩ := at3 a2
 replace a3 := kH a3 a7
 obtain ⟨e9, f0, f1, f2⟩ := at4 a3
 replace a4 := kH a4 a7
 obtain ⟨f3, f4, f5, f6⟩ := at4 a4
 replace a5 := kH a5 a7
 obtain ⟨f7, f8⟩ := at2 a5
 have hc := joined_any (e2)
 have HC := Lib.hid hc; clear hc
 go_wp2_with fail
 refine HC.out.mono ?_
 rintro e g8 ⟨rfl, hb⟩
 clear HC
 clear e3 e4 e5 e6 e7 e8 e9 f0 f1 f2 f3 f4 f5 f6 f7 f8
 have a8 := Lib.hid hb
 clear hb
 replace a1 := kH a1 a8
 obtain ⟨g9, h0, h5⟩ := at3 a1
 replace a2 := kH a2 a8
 obtain ⟨h6, h7, h8⟩ := at3 a2
 replace a3 := kH a3 a8
 obtain ⟨h9, i0, i1, i2⟩ := at4 a3
 replace a4 := kH a4 a8
 obtain ⟨i3, i4, i5, i6⟩ := at4 a4
 replace a5 := kH a5 a8
 obtain ⟨i7, i8⟩ := at2 a5
 go_wp2
 go_ret
 replace a0 := bH (bH (bH a0 a6) a7) a8
 exact ⟨rfl, a0.out⟩
set_option maxRecDepth 100000 in
theorem xc_f (hn : n ≤ maxLen) (hm : m ≤ maxLen) (h3 : RdB w C n2 k2 ws2) (h4 : RdB w D m2 j2 ts2) (hn2 : n2 ≤ maxLen) (hm2 : m2 ≤ maxLen) (X1 : Option Addr) (x1 k1 : Nat) (xa : List Int) (X2 : Option Addr) (x2 k2x : Nat) (xb : List Int) (X3 : Option Addr) (x3 k3 : Nat) (ya : List Int) (X4 : Option Addr) (x4 k4 : Nat) (yb : List Int) (hx0 : RdI w X1 x1 k1 xa) (hl0 : x1 ≤ maxLen) (hx1 : RdI w X2 x2 k2x xb) (hl1 : x2 ≤ maxLen) (hx2 : RdI w X3 x3 k3 ya) (hl2 : x3 ≤ maxLen) (hx3 : RdI w X4 x4 k4 yb) (hl3 : x4 ≤ maxLen) (t : Bool) (F : Option Addr) (fm fd : Nat) (x : List Int) (hf : RdI w F fm fd x) (hfm : fm ≤ maxLen) (F1 : Hid (fewB n m = true)) (F2 : Hid (fewB n2 m2 = true)) (hl : (100 : Int) < fm) : Calls Tryz.prog 4 #[.agg #[.int .i64 c, .slice A n k, .slice B m j], .agg #[.int .i64 d, .slice C n2 k2, .slice D m2 j2], .agg #[.int .i64 p1, .int .i64 p2, .int .i64 p3, .int .i64 p4], .agg #[.slice X1 x1 k1, .slice X2 x2 k2x, .slice X3 x3 k3, .slice X4 x4 k4], .agg #[.bool t, .slice F fm fd]] w fun e w' => e = .returned (.bool true) ∧ Below w.heap.size w w' := by
 go_enter Tryz.func4, Tryz.ntmps4
 obtain ⟨a1, a2, a3, a4, a5, a0⟩ := ent5 w #[.int .i64 c, .slice A n k, .slice B m j] 24 #[.int .i64 d, .slice C n2 k2, .slice D m2 j2] 24 #[.int .i64 p1, .int .i64 p2, .int .i64 p3, .int .i64 p4] 28 #[.slice X1 x1 k1, .slice X2 x2 k2x, .slice X3 x3 k3, .slice X4 x4 k4] 36 #[.bool t, .slice F fm fd] 40
 have g5 := rI h1 a0
 have g6 := rI h2 a0
 have g7 := rI h3 a0
 have f9 := rI h4 a0
 have g0 := iI hx0 a0
 have g1 := iI hx1 a0
 have g2 := iI hx2 a0
 have g3 := iI hx3 a0
 have g4 := iI hf a0
 clear h1 h2 h3 h4 hx0 hx1 hx2 hx3 hf
 obtain ⟨a9, b0, b1⟩ := at3 a1
 obtain ⟨b2, b3, b4⟩ := at3 a2
 obtain ⟨b5, b6, b7, b8⟩ := at4 a3
 obtain ⟨b9, c0, c1, c2⟩ := at4 a4
 obtain ⟨c3, c4⟩ := at2 a5
 have hc := few3_any c A B n k m j ((((((w.alloc (.cells #[.int .i64 c, .slice A n k, .slice B m j] 24)).alloc (.cells #[.int .i64 d, .slice C n2 k2, .slice D m2 j2] 24)).alloc (.cells #[.int .i64 p1, .int .i64 p2, .int .i64 p3, .int .i64 p4] 28)).alloc (.cells #[.slice X1 x1 k1, .slice X2 x2 k2x, .slice X3 x3 k3, .slice X4 x4 k4] 36)).alloc (.cells #[.bool t, .slice F fm fd] 40)))
 rw [F1.out] at hc
 try dsimp only at hc
 have HC := Lib.hid hc; clear hc
 go_wp2_with fail
 refine HC.out.mono ?_
 rintro e c5 ⟨rfl, hb⟩
 clear HC
 clear a9 b0 b1 b2 b3 b4 b5 b6 b7 b8 b9 c0 c1 c2 c3 c4
 have a6 := Lib.hid hb
 clear hb
 replace a1 := kH a1 a6
 obtain ⟨c6, c7, c8⟩ := at3 a1
 replace a2 := kH a2 a6
 obtain ⟨c9, d0, d1⟩ := at3 a2
 replace a3 := kH a3 a6
 obtain ⟨d2, d3, d4, d5⟩ := at4 a3
 replace a4 := kH a4 a6
 obtain ⟨d6, d7, d8, d9⟩ := at4 a4
 replace a5 := kH a5 a6
 obtain ⟨e0, e1⟩ := at2 a5
 have hc := few3_any d C D n2 k2 m2 j2 (c5)
 rw [F2.out] at hc
 try dsimp only at hc
 have HC := Lib.hid hc; clear hc
 go_wp2_with fail
 refine HC.out.mono ?_
 rintro e e2 ⟨rfl, hb⟩
 clear HC
 clear c6 c7 c8 c9 d0 d1 d2 d3 d4 d5 d6 d7 d8 d9 e0 e1
 have a7 := Lib.hid hb
 clear hb
 replace a1 := kH a1 a7
 obtain ⟨e3, e4, e5⟩ := at3 a1
 replace a2 := kH a2 a7
 obtain ⟨e6, e7, e8⟩ := at3 a2
 replace a3 := kH a3 a7
 obtain ⟨e9, f0, f1, f2⟩ := at4 a3
 replace a4 := kH a4 a7
 obtain ⟨f3, f4, f5, f6⟩ := at4 a4
 replace a5 := kH a5 a7
 obtain ⟨f7, f8⟩ := at2 a5
 have hc := joined_any (e2)
 have HC := Lib.hid hc; clear hc
 go_wp2_with fail
 refine HC.out.mono ?_
 rintro e g8 ⟨rfl, hb⟩
 clear HC
 clear e3 e4 e5 e6 e7 e8 e9 f0 f1 f2 f3 f4 f5 f6 f7 f8
 have a8 := Lib.hid hb
 clear hb
 replace a1 := kH a1 a8
 obtain ⟨g9, h0, h5⟩ := at3 a1
 replace a2 := kH a2 a8
 obtain ⟨h6, h7, h8⟩ := at3 a2
 replace a3 := kH a3 a8
 obtain ⟨h9, i0, i1, i2⟩ := at4 a3
 replace a4 := kH a4 a8
 obtain ⟨i3, i4, i5, i6⟩ := at4 a4
 replace a5 := kH a5 a8
 obtain ⟨i7, i8⟩ := at2 a5
 go_wp2
 go_ret
 replace a0 := bH (bH (bH a0 a6) a7) a8
 exact ⟨rfl, a0.out⟩
set_option maxRecDepth 100000 in
theorem xc_s (hn : n ≤ maxLen) (hm : m ≤ maxLen) (h3 : RdB w C n2 k2 ws2) (h4 : RdB w D m2 j2 ts2) (hn2 : n2 ≤ maxLen) (hm2 : m2 ≤ maxLen) (X1 : Option Addr) (x1 k1 : Nat) (xa : List Int) (X2 : Option Addr) (x2 k2x : Nat) (xb : List Int) (X3 : Option Addr) (x3 k3 : Nat) (ya : List Int) (X4 : Option Addr) (x4 k4 : Nat) (yb : List Int) (hx0 : RdI w X1 x1 k1 xa) (hl0 : x1 ≤ maxLen) (hx1 : RdI w X2 x2 k2x xb) (hl1 : x2 ≤ maxLen) (hx2 : RdI w X3 x3 k3 ya) (hl2 : x3 ≤ maxLen) (hx3 : RdI w X4 x4 k4 yb) (hl3 : x4 ≤ maxLen) (t : Bool) (F : Option Addr) (fm fd : Nat) (x : List Int) (hf : RdI w F fm fd x) (hfm : fm ≤ maxLen) (F1 : Hid (fewB n m = true)) (F2 : Hid (fewB n2 m2 = true)) (hl : ¬ (100 : Int) < fm) (s1 s2 s3 : Int) (hw1 : IntKind.i64.wrap ((x1 : Int) + (x2 : Int)) = s1) (hw2 : IntKind.i64.wrap (s1 + (x3 : Int)) = s2) (hw3 : IntKind.i64.wrap (s2 + (x4 : Int)) = s3) (hs : (100 : Int) < s3) : Calls Tryz.prog 4 #[.agg #[.int .i64 c, .slice A n k, .slice B m j], .agg #[.int .i64 d, .slice C n2 k2, .slice D m2 j2], .agg #[.int .i64 p1, .int .i64 p2, .int .i64 p3, .int .i64 p4], .agg #[.slice X1 x1 k1, .slice X2 x2 k2x, .slice X3 x3 k3, .slice X4 x4 k4], .agg #[.bool t, .slice F fm fd]] w fun e w' => e = .returned (.bool true) ∧ Below w.heap.size w w' := by
 go_enter Tryz.func4, Tryz.ntmps4
 obtain ⟨a1, a2, a3, a4, a5, a0⟩ := ent5 w #[.int .i64 c, .slice A n k, .slice B m j] 24 #[.int .i64 d, .slice C n2 k2, .slice D m2 j2] 24 #[.int .i64 p1, .int .i64 p2, .int .i64 p3, .int .i64 p4] 28 #[.slice X1 x1 k1, .slice X2 x2 k2x, .slice X3 x3 k3, .slice X4 x4 k4] 36 #[.bool t, .slice F fm fd] 40
 have g5 := rI h1 a0
 have g6 := rI h2 a0
 have g7 := rI h3 a0
 have f9 := rI h4 a0
 have g0 := iI hx0 a0
 have g1 := iI hx1 a0
 have g2 := iI hx2 a0
 have g3 := iI hx3 a0
 have g4 := iI hf a0
 clear h1 h2 h3 h4 hx0 hx1 hx2 hx3 hf
 obtain ⟨a9, b0, b1⟩ := at3 a1
 obtain ⟨b2, b3, b4⟩ := at3 a2
 obtain ⟨b5, b6, b7, b8⟩ := at4 a3
 obtain ⟨b9, c0, c1, c2⟩ := at4 a4
 obtain ⟨c3, c4⟩ := at2 a5
 have hc := few3_any c A B n k m j ((((((w.alloc (.cells #[.int .i64 c, .slice A n k, .slice B m j] 24)).alloc (.cells #[.int .i64 d, .slice C n2 k2, .slice D m2 j2] 24)).alloc (.cells #[.int .i64 p1, .int .i64 p2, .int .i64 p3, .int .i64 p4] 28)).alloc (.cells #[.slice X1 x1 k1, .slice X2 x2 k2x, .slice X3 x3 k3, .slice X4 x4 k4] 36)).alloc (.cells #[.bool t, .slice F fm fd] 40)))
 rw [F1.out] at hc
 try dsimp only at hc
 have HC := Lib.hid hc; clear hc
 go_wp2_with fail
 refine HC.out.mono ?_
 rintro e c5 ⟨rfl, hb⟩
 clear HC
 clear a9 b0 b1 b2 b3 b4 b5 b6 b7 b8 b9 c0 c1 c2 c3 c4
 have a6 := Lib.hid hb
 clear hb
 replace a1 := kH a1 a6
 obtain ⟨c6, c7, c8⟩ := at3 a1
 replace a2 := kH a2 a6
 obtain ⟨c9, d0, d1⟩ := at3 a2
 replace a3 := kH a3 a6
 obtain ⟨d2, d3, d4, d5⟩ := at4 a3
 replace a4 := kH a4 a6
 obtain ⟨d6, d7, d8, d9⟩ := at4 a4
 replace a5 := kH a5 a6
 obtain ⟨e0, e1⟩ := at2 a5
 have hc := few3_any d C D n2 k2 m2 j2 (c5)
 rw [F2.out] at hc
 try dsimp only at hc
 have HC := Lib.hid hc; clear hc
 go_wp2_with fail
 refine HC.out.mono ?_
 rintro e e2 ⟨rfl, hb⟩
 clear HC
 clear c6 c7 c8 c9 d0 d1 d2 d3 d4 d5 d6 d7 d8 d9 e0 e1
 have a7 := Lib.hid hb
 clear hb
 replace a1 := kH a1 a7
 obtain ⟨e3, e4, e5⟩ := at3 a1
 replace a2 := kH a2 a7
 obtain ⟨e6, e7, e8⟩ := at3 a2
 replace a3 := kH a3 a7
 obtain ⟨e9, f0, f1, f2⟩ := at4 a3
 replace a4 := kH a4 a7
 obtain ⟨f3, f4, f5, f6⟩ := at4 a4
 replace a5 := kH a5 a7
 obtain ⟨f7, f8⟩ := at2 a5
 have hc := joined_any (e2)
 have HC := Lib.hid hc; clear hc
 go_wp2_with fail
 refine HC.out.mono ?_
 rintro e g8 ⟨rfl, hb⟩
 clear HC
 clear e3 e4 e5 e6 e7 e8 e9 f0 f1 f2 f3 f4 f5 f6 f7 f8
 have a8 := Lib.hid hb
 clear hb
 replace a1 := kH a1 a8
 obtain ⟨g9, h0, h5⟩ := at3 a1
 replace a2 := kH a2 a8
 obtain ⟨h6, h7, h8⟩ := at3 a2
 replace a3 := kH a3 a8
 obtain ⟨h9, i0, i1, i2⟩ := at4 a3
 replace a4 := kH a4 a8
 obtain ⟨i3, i4, i5, i6⟩ := at4 a4
 replace a5 := kH a5 a8
 obtain ⟨i7, i8⟩ := at2 a5
 go_wp2
 go_ret
 replace a0 := bH (bH (bH a0 a6) a7) a8
 exact ⟨rfl, a0.out⟩
set_option maxRecDepth 100000 in
theorem xc_ok (hn : n ≤ maxLen) (hm : m ≤ maxLen) (h3 : RdB w C n2 k2 ws2) (h4 : RdB w D m2 j2 ts2) (hn2 : n2 ≤ maxLen) (hm2 : m2 ≤ maxLen) (X1 : Option Addr) (x1 k1 : Nat) (xa : List Int) (X2 : Option Addr) (x2 k2x : Nat) (xb : List Int) (X3 : Option Addr) (x3 k3 : Nat) (ya : List Int) (X4 : Option Addr) (x4 k4 : Nat) (yb : List Int) (hx0 : RdI w X1 x1 k1 xa) (hl0 : x1 ≤ maxLen) (hx1 : RdI w X2 x2 k2x xb) (hl1 : x2 ≤ maxLen) (hx2 : RdI w X3 x3 k3 ya) (hl2 : x3 ≤ maxLen) (hx3 : RdI w X4 x4 k4 yb) (hl3 : x4 ≤ maxLen) (t : Bool) (F : Option Addr) (fm fd : Nat) (x : List Int) (hf : RdI w F fm fd x) (hfm : fm ≤ maxLen) (F1 : Hid (fewB n m = true)) (F2 : Hid (fewB n2 m2 = true)) (hl : ¬ (100 : Int) < fm) (s1 s2 s3 : Int) (hw1 : IntKind.i64.wrap ((x1 : Int) + (x2 : Int)) = s1) (hw2 : IntKind.i64.wrap (s1 + (x3 : Int)) = s2) (hw3 : IntKind.i64.wrap (s2 + (x4 : Int)) = s3) (hs : ¬ (100 : Int) < s3) (v1 : Bool) (v2 : Int) (EP : Hid (checkPlaceV ⟨c, ws, ts⟩ ⟨d, ws2, ts2⟩ ⟨p1, p2, p3, p4⟩ xa xb ya yb = (v1, v2))) (u1 : Bool) (u2 : Int) (EC : Hid (checkClashV t ⟨c, ws, ts⟩ ⟨d, ws2, ts2⟩ ⟨p1, p2, p3, p4⟩ x = (u1, u2))) (I1 : List Int) (I2 : Int) (ER : Hid (erestsV t ⟨c, ws, ts⟩ ⟨d, ws2, ts2⟩ ⟨p1, p2, p3, p4⟩ x = (I1, I2))) : Calls Tryz.prog 4 #[.agg #[.int .i64 c, .slice A n k, .slice B m j], .agg #[.int .i64 d, .slice C n2 k2, .slice D m2 j2], .agg #[.int .i64 p1, .int .i64 p2, .int .i64 p3, .int .i64 p4], .agg #[.slice X1 x1 k1, .slice X2 x2 k2x, .slice X3 x3 k3, .slice X4 x4 k4], .agg #[.bool t, .slice F fm fd]] w fun e w' => e = .returned (.bool true) ∧ Below w.heap.size w w' := by
 go_enter Tryz.func4, Tryz.ntmps4
 obtain ⟨a0, a1, a2, a3, a4, b5⟩ := ent5 w #[.int .i64 c, .slice A n k, .slice B m j] 24 #[.int .i64 d, .slice C n2 k2, .slice D m2 j2] 24 #[.int .i64 p1, .int .i64 p2, .int .i64 p3, .int .i64 p4] 28 #[.slice X1 x1 k1, .slice X2 x2 k2x, .slice X3 x3 k3, .slice X4 x4 k4] 36 #[.bool t, .slice F fm fd] 40
 have a9 := rI h1 b5
 have b0 := rI h2 b5
 have b1 := rI h3 b5
 have a5 := rI h4 b5
 have c1 := iI hx0 b5
 have c2 := iI hx1 b5
 have c3 := iI hx2 b5
 have c4 := iI hx3 b5
 have b6 := iI hf b5
 clear h1 h2 h3 h4 hx0 hx1 hx2 hx3 hf
 obtain ⟨m1, m3, m4⟩ := at3 a0
 obtain ⟨m5, m6, m7⟩ := at3 a1
 obtain ⟨m8, m9, n0, n1⟩ := at4 a2
 obtain ⟨n3, n4, n5, n6⟩ := at4 a3
 obtain ⟨n7, n8⟩ := at2 a4
 have hc := few3_any c A B n k m j ((((((w.alloc (.cells #[.int .i64 c, .slice A n k, .slice B m j] 24)).alloc (.cells #[.int .i64 d, .slice C n2 k2, .slice D m2 j2] 24)).alloc (.cells #[.int .i64 p1, .int .i64 p2, .int .i64 p3, .int .i64 p4] 28)).alloc (.cells #[.slice X1 x1 k1, .slice X2 x2 k2x, .slice X3 x3 k3, .slice X4 x4 k4] 36)).alloc (.cells #[.bool t, .slice F fm fd] 40)))
 rw [F1.out] at hc
 try dsimp only at hc
 have HC := Lib.hid hc; clear hc
 go_wp2_with fail
 refine HC.out.mono ?_
 rintro e n9 ⟨rfl, hb⟩
 clear HC
 clear m1 m3 m4 m5 m6 m7 m8 m9 n0 n1 n3 n4 n5 n6 n7 n8
 have a6 := Lib.hid hb
 clear hb
 replace a0 := kH a0 a6
 obtain ⟨o0, o1, o2⟩ := at3 a0
 replace a1 := kH a1 a6
 obtain ⟨o3, o4, o5⟩ := at3 a1
 replace a2 := kH a2 a6
 obtain ⟨o6, o7, o8, o9⟩ := at4 a2
 replace a3 := kH a3 a6
 obtain ⟨p0, p5, p6, p7⟩ := at4 a3
 replace a4 := kH a4 a6
 obtain ⟨p8, p9⟩ := at2 a4
 have hc := few3_any d C D n2 k2 m2 j2 (n9)
 rw [F2.out] at hc
 try dsimp only at hc
 have HC := Lib.hid hc; clear hc
 go_wp2_with fail
 refine HC.out.mono ?_
 rintro e x6 ⟨rfl, hb⟩
 clear HC
 clear o0 o1 o2 o3 o4 o5 o6 o7 o8 o9 p0 p5 p6 p7 p8 p9
 have a7 := Lib.hid hb
 clear hb
 replace a0 := kH a0 a7
 obtain ⟨q0, q1, q2⟩ := at3 a0
 replace a1 := kH a1 a7
 obtain ⟨q3, q4, q5⟩ := at3 a1
 replace a2 := kH a2 a7
 obtain ⟨q6, q7, q8, q9⟩ := at4 a2
 replace a3 := kH a3 a7
 obtain ⟨r0, r1, r2, r3⟩ := at4 a3
 replace a4 := kH a4 a7
 obtain ⟨r4, r5⟩ := at2 a4
 replace a9 := rH (rH a9 a6) a7
 replace b0 := rH (rH b0 a6) a7
 replace b1 := rH (rH b1 a6) a7
 replace a5 := rH (rH a5 a6) a7
 replace c1 := iH (iH c1 a6) a7
 replace c2 := iH (iH c2 a6) a7
 replace c3 := iH (iH c3 a6) a7
 replace c4 := iH (iH c4 a6) a7
 have hc := CheckPlace_any c A B n k m j ws ts d C D n2 k2 m2 j2 ws2 ts2 p1 p2 p3 p4 _ a9.out b0.out hn hm b1.out a5.out hn2 hm2 X1 x1 k1 xa X2 x2 k2x xb X3 x3 k3 ya X4 x4 k4 yb c1.out hl0 c2.out hl1 c3.out hl2 c4.out hl3
 rw [EP.out] at hc
 try dsimp only at hc
 have HC := Lib.hid hc; clear hc
 go_wp2_with fail
 refine HC.out.mono ?_
 rintro e x7 ⟨rfl, hb⟩
 clear HC
 clear q0 q1 q2 q3 q4 q5 q6 q7 q8 q9 r0 r1 r2 r3 r4 r5
 have a8 := Lib.hid hb
 clear hb
 replace a0 := kH a0 a8
 obtain ⟨r6, r7, r8⟩ := at3 a0
 replace a1 := kH a1 a8
 obtain ⟨r9, s0, s4⟩ := at3 a1
 replace a2 := kH a2 a8
 obtain ⟨s5, s6, s7, s8⟩ := at4 a2
 replace a3 := kH a3 a8
 obtain ⟨s9, t0, t1, t2⟩ := at4 a3
 replace a4 := kH a4 a8
 obtain ⟨t3, t4⟩ := at2 a4
 clear hw1 hw2 hw3 hs
 replace a9 := rH a9 a8
 replace b0 := rH b0 a8
 replace b1 := rH b1 a8
 replace a5 := rH a5 a8
 replace c1 := iH c1 a8
 replace c2 := iH c2 a8
 replace c3 := iH c3 a8
 replace c4 := iH c4 a8
 have hc := rCheckPlace_any c A B n k m j ws ts d C D n2 k2 m2 j2 ws2 ts2 p1 p2 p3 p4 _ a9.out b0.out hn hm b1.out a5.out hn2 hm2 X1 x1 k1 xa X2 x2 k2x xb X3 x3 k3 ya X4 x4 k4 yb c1.out hl0 c2.out hl1 c3.out hl2 c4.out hl3
 rw [EP.out] at hc
 try dsimp only at hc
 have HC := Lib.hid hc; clear hc
 go_wp2_with fail
 refine HC.out.mono ?_
 rintro e x8 ⟨rfl, hb⟩
 clear HC
 clear r6 r7 r8 r9 s0 s4 s5 s6 s7 s8 s9 t0 t1 t2 t3 t4
 have b7 := Lib.hid hb
 clear hb
 replace a0 := kH a0 b7
 obtain ⟨t5, t6, t7⟩ := at3 a0
 replace a1 := kH a1 b7
 obtain ⟨t8, t9, u0⟩ := at3 a1
 replace a2 := kH a2 b7
 obtain ⟨u3, u4, u5, u6⟩ := at4 a2
 replace a3 := kH a3 b7
 obtain ⟨u7, u8, c7, c8⟩ := at4 a3
 replace a4 := kH a4 b7
 obtain ⟨c9, d0⟩ := at2 a4
 replace a9 := rH a9 b7
 replace b0 := rH b0 b7
 replace b1 := rH b1 b7
 replace a5 := rH a5 b7
 replace b6 := iH (iH (iH (iH b6 a6) a7) a8) b7
 have hc := CheckClash_any c A B n k m j ws ts d C D n2 k2 m2 j2 ws2 ts2 p1 p2 p3 p4 _ a9.out b0.out hn hm b1.out a5.out hn2 hm2 t F fm fd x b6.out hfm
 rw [EC.out] at hc
 try dsimp only at hc
 have HC := Lib.hid hc; clear hc
 go_wp2_with fail
 refine HC.out.mono ?_
 rintro e u9 ⟨rfl, hb⟩
 clear HC
 clear t5 t6 t7 t8 t9 u0 u3 u4 u5 u6 u7 u8 c7 c8 c9 d0
 have b2 := Lib.hid hb
 clear hb
 replace a0 := kH a0 b2
 obtain ⟨d1, d2, d3⟩ := at3 a0
 replace a1 := kH a1 b2
 obtain ⟨d4, d5, d6⟩ := at3 a1
 replace a2 := kH a2 b2
 obtain ⟨d7, d8, d9, e0⟩ := at4 a2
 replace a3 := kH a3 b2
 obtain ⟨e1, e2, e3, e4⟩ := at4 a3
 replace a4 := kH a4 b2
 obtain ⟨e5, e6⟩ := at2 a4
 replace a9 := rH a9 b2
 replace b0 := rH b0 b2
 replace b1 := rH b1 b2
 replace a5 := rH a5 b2
 replace b6 := iH b6 b2
 have hc := rCheckClash_any c A B n k m j ws ts d C D n2 k2 m2 j2 ws2 ts2 p1 p2 p3 p4 _ a9.out b0.out hn hm b1.out a5.out hn2 hm2 t F fm fd x b6.out (by omega)
 rw [EC.out] at hc
 try dsimp only at hc
 have HC := Lib.hid hc; clear hc
 go_wp2_with fail
 refine HC.out.mono ?_
 rintro e v0 ⟨rfl, hb⟩
 clear HC
 clear d1 d2 d3 d4 d5 d6 d7 d8 d9 e0 e1 e2 e3 e4 e5 e6
 have b3 := Lib.hid hb
 clear hb
 replace a0 := kH a0 b3
 obtain ⟨e7, e8, e9⟩ := at3 a0
 replace a1 := kH a1 b3
 obtain ⟨f0, f1, f2⟩ := at3 a1
 replace a2 := kH a2 b3
 obtain ⟨f3, f4, f5, f6⟩ := at4 a2
 replace a3 := kH a3 b3
 obtain ⟨f7, f8, f9, g0⟩ := at4 a3
 replace a4 := kH a4 b3
 obtain ⟨g1, g2⟩ := at2 a4
 replace a9 := rH a9 b3
 replace b0 := rH b0 b3
 replace b1 := rH b1 b3
 replace a5 := rH a5 b3
 replace b6 := iH b6 b3
 have hc := Rests_any c A B n k m j ws ts d C D n2 k2 m2 j2 ws2 ts2 p1 p2 p3 p4 _ a9.out b0.out hn hm b1.out a5.out hn2 hm2 t F fm fd x b6.out (by omega)
 unfold RetLR at hc
 rw [ER.out] at hc
 have hc := hc
 have HC := Lib.hid hc; clear hc
 go_wp2_with fail
 refine HC.out.mono ?_
 rintro e v3 ⟨A1_, n1_, c1_, rfl, hr1, hm1_, hb⟩
 clear HC
 clear e7 e8 e9 f0 f1 f2 f3 f4 f5 f6 f7 f8 f9 g0 g1 g2
 have b4 := Lib.hid hb
 clear hb
 have c5 := Lib.hid (hr1)
 clear hr1
 replace a0 := kH a0 b4
 obtain ⟨g3, g4, g5⟩ := at3 a0
 replace a1 := kH a1 b4
 obtain ⟨g6, g7, g8⟩ := at3 a1
 replace a2 := kH a2 b4
 obtain ⟨g9, h0, h5, h6⟩ := at4 a2
 replace a3 := kH a3 b4
 obtain ⟨h7, h8, h9, i0⟩ := at4 a3
 replace a4 := kH a4 b4
 obtain ⟨i1, i2⟩ := at2 a4
 replace a9 := rH a9 b4
 replace b0 := rH b0 b4
 replace b1 := rH b1 b4
 replace a5 := rH a5 b4
 replace b6 := iH b6 b4
 have hc := rRests_any c A B n k m j ws ts d C D n2 k2 m2 j2 ws2 ts2 p1 p2 p3 p4 _ a9.out b0.out hn hm b1.out a5.out hn2 hm2 t F fm fd x b6.out (by omega)
 unfold RetLR at hc
 rw [ER.out] at hc
 have hc := hc
 have HC := Lib.hid hc; clear hc
 go_wp2_with fail
 refine HC.out.mono ?_
 rintro e i3 ⟨A2_, n2_, c2_, rfl, hr2, hm2_, hb⟩
 clear HC
 clear g3 g4 g5 g6 g7 g8 g9 h0 h5 h6 h7 h8 h9 i0 i1 i2
 have b9 := Lib.hid hb
 clear hb
 have c6 := Lib.hid (hr2)
 clear hr2
 replace a0 := kH a0 b9
 obtain ⟨i4, i5, i6⟩ := at3 a0
 replace a1 := kH a1 b9
 obtain ⟨i7, i8, i9⟩ := at3 a1
 replace a2 := kH a2 b9
 obtain ⟨j0, j1, j3, j4⟩ := at4 a2
 replace a3 := kH a3 b9
 obtain ⟨j5, j6, j7, j8⟩ := at4 a3
 replace a4 := kH a4 b9
 obtain ⟨j9, k0⟩ := at2 a4
 have h1_ : (v1 == v1) = true := by simp
 have h2_ : (v2 == v2) = true := by simp
 have h3_ : (u1 == u1) = true := by simp
 have h4_ : (u2 == u2) = true := by simp
 have h5_ : (I2 == I2) = true := by simp
 have hc := joined_any (i3)
 have HC := Lib.hid hc; clear hc
 go_wp2_with fail
 refine HC.out.mono ?_
 rintro e v4 ⟨rfl, hb⟩
 clear HC
 clear i4 i5 i6 i7 i8 i9 j0 j1 j3 j4 j5 j6 j7 j8 j9 k0
 have b8 := Lib.hid hb
 clear hb
 replace a0 := kH a0 b8
 obtain ⟨k5, k6, k7⟩ := at3 a0
 replace a1 := kH a1 b8
 obtain ⟨k8, k9, l0⟩ := at3 a1
 replace a2 := kH a2 b8
 obtain ⟨l1, l2, l3, l4⟩ := at4 a2
 replace a3 := kH a3 b8
 obtain ⟨l5, l6, l7, l8⟩ := at4 a3
 replace a4 := kH a4 b8
 obtain ⟨l9, m0⟩ := at2 a4
 replace c5 := iH (iH c5 b9) b8
 replace c6 := iH c6 b8
 have hc := Same_any A1_ A2_ n1_ c1_ n2_ c2_ I1 I1 _ c5.out c6.out hm1_
 rw [decide_eq_true rfl] at hc
 try dsimp only at hc
 have HC := Lib.hid hc; clear hc
 go_wp2_with fail
 refine HC.out.mono ?_
 rintro e v5 ⟨rfl, hb⟩
 clear HC
 clear k5 k6 k7 k8 k9 l0 l1 l2 l3 l4 l5 l6 l7 l8 l9 m0
 have c0 := Lib.hid hb
 clear hb
 replace a0 := kH a0 c0
 obtain ⟨v6, v7, v8⟩ := at3 a0
 replace a1 := kH a1 c0
 obtain ⟨v9, w0, w1⟩ := at3 a1
 replace a2 := kH a2 c0
 obtain ⟨w2, w3, w4, w5⟩ := at4 a2
 replace a3 := kH a3 c0
 obtain ⟨w6, w7, w8, w9⟩ := at4 a3
 replace a4 := kH a4 c0
 obtain ⟨x0, x5⟩ := at2 a4
 go_wp2
 go_ret
 replace b5 := bH (bH (bH (bH (bH (bH (bH (bH (bH (bH b5 a6) a7) a8) b7) b2) b3) b4) b9) b8) c0
 exact ⟨rfl, b5.out⟩
end
set_option maxRecDepth 100000 in
theorem xc_walk (w : World) (c : Int) (A : Option Addr) (n k : Nat) (B : Option Addr) (m j : Nat) (ws ts : List Bnd) (_ : (Lit.int .i64 c).wf = true) (h1 : RdB w A n k ws) (h2 : RdB w B m j ts) (hn : n ≤ maxLen) (hm : m ≤ maxLen) (d : Int) (C : Option Addr) (n2 k2 : Nat) (D : Option Addr) (m2 j2 : Nat) (ws2 ts2 : List Bnd) (_ : (Lit.int .i64 d).wf = true) (h3 : RdB w C n2 k2 ws2) (h4 : RdB w D m2 j2 ts2) (hn2 : n2 ≤ maxLen) (hm2 : m2 ≤ maxLen) (p1 p2 p3 p4 : Int) (X1 : Option Addr) (x1 k1 : Nat) (xa : List Int) (X2 : Option Addr) (x2 k2x : Nat) (xb : List Int) (X3 : Option Addr) (x3 k3 : Nat) (ya : List Int) (X4 : Option Addr) (x4 k4 : Nat) (yb : List Int) (hx0 : RdI w X1 x1 k1 xa) (hl0 : x1 ≤ maxLen) (hx1 : RdI w X2 x2 k2x xb) (hl1 : x2 ≤ maxLen) (hx2 : RdI w X3 x3 k3 ya) (hl2 : x3 ≤ maxLen) (hx3 : RdI w X4 x4 k4 yb) (hl3 : x4 ≤ maxLen) (t : Bool) (F : Option Addr) (fm fd : Nat) (x : List Int) (hf : RdI w F fm fd x) (hfm : fm ≤ maxLen) : Calls Tryz.prog 4 #[.agg #[.int .i64 c, .slice A n k, .slice B m j], .agg #[.int .i64 d, .slice C n2 k2, .slice D m2 j2], .agg #[.int .i64 p1, .int .i64 p2, .int .i64 p3, .int .i64 p4], .agg #[.slice X1 x1 k1, .slice X2 x2 k2x, .slice X3 x3 k3, .slice X4 x4 k4], .agg #[.bool t, .slice F fm fd]] w fun e w' => e = .returned (.bool true) ∧ Below w.heap.size w w' := by
 cases hf1 : fewB n m
 · exact xc_a c A B n k m j ws ts d C D n2 k2 m2 j2 ws2 ts2 p1 p2 p3 p4 w h1 h2 hn hm h3 h4 hn2 hm2 X1 x1 k1 xa X2 x2 k2x xb X3 x3 k3 ya X4 x4 k4 yb hx0 hl0 hx1 hl1 hx2 hl2 hx3 hl3 t F fm fd x hf hfm (Lib.hid hf1)
 · cases hf2 : fewB n2 m2
   · exact xc_b c A B n k m j ws ts d C D n2 k2 m2 j2 ws2 ts2 p1 p2 p3 p4 w h1 h2 hn hm h3 h4 hn2 hm2 X1 x1 k1 xa X2 x2 k2x xb X3 x3 k3 ya X4 x4 k4 yb hx0 hl0 hx1 hl1 hx2 hl2 hx3 hl3 t F fm fd x hf hfm (Lib.hid hf1) (Lib.hid hf2)
   · by_cases hl : (100 : Int) < fm
     · exact xc_f c A B n k m j ws ts d C D n2 k2 m2 j2 ws2 ts2 p1 p2 p3 p4 w h1 h2 hn hm h3 h4 hn2 hm2 X1 x1 k1 xa X2 x2 k2x xb X3 x3 k3 ya X4 x4 k4 yb hx0 hl0 hx1 hl1 hx2 hl2 hx3 hl3 t F fm fd x hf hfm (Lib.hid hf1) (Lib.hid hf2) hl
     · by_cases hs : (100 : Int) < IntKind.i64.wrap (IntKind.i64.wrap (IntKind.i64.wrap ((x1 : Int) + (x2 : Int)) + (x3 : Int)) + (x4 : Int))
       · exact xc_s c A B n k m j ws ts d C D n2 k2 m2 j2 ws2 ts2 p1 p2 p3 p4 w h1 h2 hn hm h3 h4 hn2 hm2 X1 x1 k1 xa X2 x2 k2x xb X3 x3 k3 ya X4 x4 k4 yb hx0 hl0 hx1 hl1 hx2 hl2 hx3 hl3 t F fm fd x hf hfm (Lib.hid hf1) (Lib.hid hf2) hl _ _ _ rfl rfl rfl hs
       · exact xc_ok c A B n k m j ws ts d C D n2 k2 m2 j2 ws2 ts2 p1 p2 p3 p4 w h1 h2 hn hm h3 h4 hn2 hm2 X1 x1 k1 xa X2 x2 k2x xb X3 x3 k3 ya X4 x4 k4 yb hx0 hl0 hx1 hl1 hx2 hl2 hx3 hl3 t F fm fd x hf hfm (Lib.hid hf1) (Lib.hid hf2) hl _ _ _ rfl rfl rfl hs _ _ (Lib.hid rfl) _ _ (Lib.hid rfl) _ _ (Lib.hid rfl)
set_option maxRecDepth 100000 in
theorem edgeChecks_lifted (os : Os) (started : os.Started) (H : Type) (enc : TypeId × Value → H) :
 ReturnsInHanded {} Tryz.checked os 4 .any (Rows.edgeChecksSpec.pre6 enc Tryz.prog Tryz.f4 Rows.edgeChecksRow.domain false) (Rows.edgeChecksSpec.post enc Tryz.prog Tryz.f4 false true false false) := by
 refine returnsInHanded_of_change (C := Tryz.checked) Law.own started (by kernel_rfl) Tryz.func4
  (ChangeSpec.witness6 (enc := enc) (C := Tryz.checked) false ⟨#[], #[.agg #[.int .i64 0, .slice none 0 0, .slice none 0 0], .agg #[.int .i64 0, .slice none 0 0, .slice none 0 0], .agg #[.int .i64 0, .int .i64 0, .int .i64 0, .int .i64 0], .agg #[.slice none 0 0, .slice none 0 0, .slice none 0 0, .slice none 0 0], .agg #[.bool false, .slice none 0 0]], []⟩ 8 (by kernel_rfl) (by kernel_rfl) (by kernel_rfl) (by kernel_rfl)) ?_
 intro W base args ds gs before hval0 hW hcnd _
 have hval : ∀ (j : Nat) t v, Tryz.f4.params[j]? = some t → args[j]? = some v → Value.okWide Tryz.prog W .any base t v := hval0
 have hW' := hW
 obtain ⟨p, q, hA0, hV, rfl, hfz, hnd⟩ := hW
 have hA : DataW.TrodAll enc Tryz.prog W 0 (fun _ => true) true Tryz.f4.params.toList args.toList ds p := hA0
 rw [Tryz.params4] at hA hval
 obtain ⟨v0, vs0, d0, ds0, p0, q0, hargs, rfl, rfl, h0, r0⟩ := trodAll_cons hA
 obtain ⟨v1, vs1, d1, ds1, p1, q1, rfl, rfl, rfl, h1, r1⟩ := trodAll_cons r0
 obtain ⟨v2, vs2, d2, ds2, p2, q2, rfl, rfl, rfl, h2, r2⟩ := trodAll_cons r1
 obtain ⟨v3, vs3, d3, ds3, p3, q3, rfl, rfl, rfl, h3, r3⟩ := trodAll_cons r2
 obtain ⟨v4, vs4, d4, ds4, p4, q4, rfl, rfl, rfl, h4, r4⟩ := trodAll_cons r3
 obtain ⟨rfl, rfl, rfl⟩ := trodAll_nil r4
 obtain rfl : args = #[v0, v1, v2, v3, v4] := by cases args; simp_all
 obtain ⟨rfl, rfl⟩ := trodVars_none hV
 have k0 := h0
 have lt0 : ∀ x ∈ p0, x.block < W.heap.size := by obtain ⟨m, hm⟩ := k0; exact DataW.trod_lt m _ _ _ hm
 obtain ⟨c0, A0, n0, k0', B0, m0, j0, ws0, ts0, rfl, w0, ra0, rb0, xa0, xb0⟩ := open_outl (hval 0 24 v0 rfl rfl) h0
 have k1 := h1
 have lt1 : ∀ x ∈ p1, x.block < W.heap.size := by obtain ⟨m, hm⟩ := k1; exact DataW.trod_lt m _ _ _ hm
 obtain ⟨c1, A1, n1, k1', B1, m1, j1, ws1, ts1, rfl, w1, ra1, rb1, xa1, xb1⟩ := open_outl (hval 1 24 v1 rfl rfl) h1
 have k2 := h2
 have lt2 : ∀ x ∈ p2, x.block < W.heap.size := by obtain ⟨m, hm⟩ := k2; exact DataW.trod_lt m _ _ _ hm
 obtain ⟨f2, t2, m2, i2, rfl⟩ := open_pair (hval 2 28 v2 rfl rfl) h2
 have k3 := h3
 have lt3 : ∀ x ∈ p3, x.block < W.heap.size := by obtain ⟨m, hm⟩ := k3; exact DataW.trod_lt m _ _ _ hm
 obtain ⟨A3a, n3a, c3a, l3a, A3b, n3b, c3b, l3b, A3c, n3c, c3c, l3c, A3d, n3d, c3d, l3d, rfl, rd3a, mx3a, rd3b, mx3b, rd3c, mx3c, rd3d, mx3d⟩ := open_place (hval 3 36 v3 rfl rfl) h3
 have k4 := h4
 have lt4 : ∀ x ∈ p4, x.block < W.heap.size := by obtain ⟨m, hm⟩ := k4; exact DataW.trod_lt m _ _ _ hm
 obtain ⟨t4, A4, n4, c4, l4, rfl, rd4, mx4⟩ := open_flaw (hval 4 40 v4 rfl rfl) h4
 clear hA0 hval0
 refine (xc_walk W c0 A0 n0 k0' B0 m0 j0 ws0 ts0 w0 ra0 rb0 xa0 xb0 c1 A1 n1 k1' B1 m1 j1 ws1 ts1 w1 ra1 rb1 xa1 xb1 f2 t2 m2 i2 A3a n3a c3a l3a A3b n3b c3b l3b A3c n3c c3c l3c A3d n3d c3d l3d rd3a mx3a rd3b mx3b rd3c mx3c rd3d mx3d t4 A4 n4 c4 l4 rd4 mx4).mono fun e W' ⟨he, bel⟩ => ?_
 subst he
 exact ⟨_, rfl, _, _, _, [], _, [], hW', trodAll_mk1 (shut_bool Tryz.underlying4 _), (trodAll_cons_mk (Below.trod Law.laidOut (by kernel_rfl) (of_decide_eq_true (by kernel_rfl)) k0 bel lt0) (trodAll_cons_mk (Below.trod Law.laidOut (by kernel_rfl) (of_decide_eq_true (by kernel_rfl)) k1 bel lt1) (trodAll_cons_mk (Below.trod Law.laidOut (by kernel_rfl) (of_decide_eq_true (by kernel_rfl)) k2 bel lt2) (trodAll_cons_mk (Below.trod Law.laidOut (by kernel_rfl) (of_decide_eq_true (by kernel_rfl)) k3 bel lt3) (trodAll_cons_mk (Below.trod Law.laidOut (by kernel_rfl) (of_decide_eq_true (by kernel_rfl)) k4 bel lt4) trodAll_mk0))))), rfl, bel.frame _, fun h => by cases h⟩
theorem edgeChecks_over : Rows.edgeChecksRow.holds Tryz.pinned (OpenSpec.ofChange Rows.edgeChecksSpec) :=
 OpenClaim.holds_of_wide 4 Tryz.f4 rfl rfl rfl rfl rfl rfl rfl ⟨rfl, rfl, rfl, rfl, rfl⟩ rfl rfl rfl rfl rfl (by kernel_rfl) Tryz.func4 (by kernel_rfl)
  (of_decide_eq_true (by kernel_rfl)) (by unfold Func.isWrapper; first | (rw [if_pos (by decide +kernel)]; kernel_rfl) | (rw [if_neg (by decide +kernel)]; exact ⟨rfl, rfl⟩))
  (fun os started H enc _ => edgeChecks_lifted os started H enc)
theorem edgeChecks_proved : Rows.EdgeChecksSaid := edgeChecks_over
end Go.Proofs.YtjjmifcjailpaaaGreat
