import Derived.Deep.AppendLies
import Derived.Deep.DeepCutAuto
import Derived.Laws.AppendOwnNone
import Derived.Lib.SmallJoins
import Derived.Maps.OwnIn
import Derived.Shelf.SlIterI.Nil
import Derived.Shelf.Slices.Reverse
import Derived.Shelf.SortM.Plain
import Derived.Shelf.SortM.SortNone
import Derived.Sort.OwnSortedInts
import Derived.Test.YtjjmifcjailpaaaGreatTClosed
import Derived.Test.YtjjmifcjailpaaaGreatRows
import Derived.Test.YtjjmifcjailpaaaGreatTMemab
import Derived.Test.YtjjmifcjailpaaaGreatTEPubab
import Derived.Test.YtjjmifcjailpaaaGreatTEAlive
import Derived.Test.YtjjmifcjailpaaaGreatTEEithMbcd
import Derived.Test.YtjjmifcjailpaaaGreatTEStd
import Derived.Test.YtjjmifcjailpaaaGreatTESmallbcd
import Derived.Test.YtjjmifcjailpaaaGreatTEOpen
import Derived.Test.YtjjmifcjailpaaaGreatTEStcab
set_option maxHeartbeats 4000000
set_option linter.unusedSimpArgs false
set_option linter.unusedVariables false
namespace Go.Proofs.YtjjmifcjailpaaaGreat
open Go.RowKit
theorem ccode_z {p : Int} {l : List Bnd} {x : List Int} (hk : chk p l = 0) : (checkCircleV p l x).2 = 0 := by
 have hg : gcode p l [] = 0 := by unfold gcode; rw [if_pos hk]; rfl
 unfold checkCircleV
 rw [if_pos hg]
 split
 · rfl
 · split <;> rfl
end Go.Proofs.YtjjmifcjailpaaaGreat
set_option linter.unusedSimpArgs false
set_option linter.unusedVariables false
namespace Go.Proofs.YtjjmifcjailpaaaGreat
open Go.ChangeShapes Go.WideShapes Go.ChangeAt Go.RowKit
section
variable (c : Int) (A B : Option Addr) (n k m j : Nat) (ws ts : List Bnd) (d : Int) (C D : Option Addr) (n2 k2 m2 j2 : Nat) (ws2 ts2 : List Bnd) (p1 p2 p3 p4 : Int) (w : World) (h1 : RdB w A n k ws) (h2 : RdB w B m j ts)
include c A B n k m j ws ts d C D n2 k2 m2 j2 ws2 ts2 p1 p2 p3 p4 w h1 h2
set_option maxRecDepth 100000 in
theorem xe_w (hn : n ≤ maxLen) (hm : m ≤ maxLen) (h3 : RdB w C n2 k2 ws2) (h4 : RdB w D m2 j2 ts2) (hn2 : n2 ≤ maxLen) (hm2 : m2 ≤ maxLen) (X1 : Option Addr) (x1 k1 : Nat) (xa : List Int) (X2 : Option Addr) (x2 k2x : Nat) (xb : List Int) (X3 : Option Addr) (x3 k3 : Nat) (ya : List Int) (X4 : Option Addr) (x4 k4 : Nat) (yb : List Int) (hx0 : RdI w X1 x1 k1 xa) (hl0 : x1 ≤ maxLen) (hx1 : RdI w X2 x2 k2x xb) (hl1 : x2 ≤ maxLen) (hx2 : RdI w X3 x3 k3 ya) (hl2 : x3 ≤ maxLen) (hx3 : RdI w X4 x4 k4 yb) (hl3 : x4 ≤ maxLen) (t : Bool) (F : Option Addr) (fm fd : Nat) (x : List Int) (hf : RdI w F fm fd x) (hfm : fm ≤ maxLen) (hs : (decide (n ≤ 40) && decide (m ≤ 40) && decide (n2 ≤ 40) && decide (m2 ≤ 40)) = false) : Calls Tryz.prog 7 #[.agg #[.int .i64 c, .slice A n k, .slice B m j], .agg #[.int .i64 d, .slice C n2 k2, .slice D m2 j2], .agg #[.int .i64 p1, .int .i64 p2, .int .i64 p3, .int .i64 p4], .agg #[.slice X1 x1 k1, .slice X2 x2 k2x, .slice X3 x3 k3, .slice X4 x4 k4], .agg #[.bool t, .slice F fm fd]] w fun e w' => e = .returned (.bool true) ∧ Below w.heap.size w w' := by
 go_enter Tryz.func7, Tryz.ntmps7
 obtain ⟨a1, a2, a3, a4, a5, a0⟩ := ent5 w #[.int .i64 c, .slice A n k, .slice B m j] 24 #[.int .i64 d, .slice C n2 k2, .slice D m2 j2] 24 #[.int .i64 p1, .int .i64 p2, .int .i64 p3, .int .i64 p4] 28 #[.slice X1 x1 k1, .slice X2 x2 k2x, .slice X3 x3 k3, .slice X4 x4 k4] 36 #[.bool t, .slice F fm fd] 40
 have b4 := rI h1 a0
 have b5 := rI h2 a0
 have b6 := rI h3 a0
 have a8 := rI h4 a0
 have a9 := iI hx0 a0
 have b0 := iI hx1 a0
 have b1 := iI hx2 a0
 have b2 := iI hx3 a0
 have b3 := iI hf a0
 clear h1 h2 h3 h4 hx0 hx1 hx2 hx3 hf
 obtain ⟨b8, b9, c0⟩ := at3 a1
 obtain ⟨c1, c2, c3⟩ := at3 a2
 obtain ⟨c4, c5, c6, c7⟩ := at4 a3
 obtain ⟨c8, c9, d0, d1⟩ := at4 a4
 obtain ⟨d2, d3⟩ := at2 a5
 clear b8 b9 c0 c1 c2 c3 c4 c5 c6 c7 c8 c9 d0 d1 d2 d3
 obtain ⟨o_, ho_⟩ : ∃ o, o = ((.cells #[.int .i64 c, .slice A n k, .slice B m j, .int .i64 d, .slice C n2 k2, .slice D m2 j2] 24) : Obj) := ⟨_, rfl⟩
 replace a0 := bA a0 o_
 replace b4 := rA b4 o_
 replace b5 := rA b5 o_
 replace b6 := rA b6 o_
 replace a8 := rA a8 o_
 replace a9 := iA a9 o_
 replace b0 := iA b0 o_
 replace b1 := iA b1 o_
 replace b2 := iA b2 o_
 replace b3 := iA b3 o_
 replace a1 := kA a1 o_
 replace a2 := kA a2 o_
 replace a3 := kA a3 o_
 replace a4 := kA a4 o_
 replace a5 := kA a5 o_
 subst ho_
 have nb_ := Blk.new (((((w.alloc (.cells #[.int .i64 c, .slice A n k, .slice B m j] 24)).alloc (.cells #[.int .i64 d, .slice C n2 k2, .slice D m2 j2] 24)).alloc (.cells #[.int .i64 p1, .int .i64 p2, .int .i64 p3, .int .i64 p4] 28)).alloc (.cells #[.slice X1 x1 k1, .slice X2 x2 k2x, .slice X3 x3 k3, .slice X4 x4 k4] 36)).alloc (.cells #[.bool t, .slice F fm fd] 40)) 24 #[.int .i64 c, .slice A n k, .slice B m j, .int .i64 d, .slice C n2 k2, .slice D m2 j2]
 simp only [World.size_alloc] at nb_
 have b7 := Lib.hid nb_; clear nb_
 have hc := (show Calls Tryz.prog 8 #[.slice (some ⟨w.heap.size + 1 + 1 + 1 + 1 + 1, 0, none⟩) 2 2] (((((((w.alloc (.cells #[.int .i64 c, .slice A n k, .slice B m j] 24)).alloc (.cells #[.int .i64 d, .slice C n2 k2, .slice D m2 j2] 24)).alloc (.cells #[.int .i64 p1, .int .i64 p2, .int .i64 p3, .int .i64 p4] 28)).alloc (.cells #[.slice X1 x1 k1, .slice X2 x2 k2x, .slice X3 x3 k3, .slice X4 x4 k4] 36)).alloc (.cells #[.bool t, .slice F fm fd] 40)).alloc (.cells #[.int .i64 c, .slice A n k, .slice B m j, .int .i64 d, .slice C n2 k2, .slice D m2 j2] 24))) fun e w' => e = .returned (.bool false) ∧ Below (((((((w.alloc (.cells #[.int .i64 c, .slice A n k, .slice B m j] 24)).alloc (.cells #[.int .i64 d, .slice C n2 k2, .slice D m2 j2] 24)).alloc (.cells #[.int .i64 p1, .int .i64 p2, .int .i64 p3, .int .i64 p4] 28)).alloc (.cells #[.slice X1 x1 k1, .slice X2 x2 k2x, .slice X3 x3 k3, .slice X4 x4 k4] 36)).alloc (.cells #[.bool t, .slice F fm fd] 40)).alloc (.cells #[.int .i64 c, .slice A n k, .slice B m j, .int .i64 d, .slice C n2 k2, .slice D m2 j2] 24))).heap.size (((((((w.alloc (.cells #[.int .i64 c, .slice A n k, .slice B m j] 24)).alloc (.cells #[.int .i64 d, .slice C n2 k2, .slice D m2 j2] 24)).alloc (.cells #[.int .i64 p1, .int .i64 p2, .int .i64 p3, .int .i64 p4] 28)).alloc (.cells #[.slice X1 x1 k1, .slice X2 x2 k2x, .slice X3 x3 k3, .slice X4 x4 k4] 36)).alloc (.cells #[.bool t, .slice F fm fd] 40)).alloc (.cells #[.int .i64 c, .slice A n k, .slice B m j, .int .i64 d, .slice C n2 k2, .slice D m2 j2] 24))) w' from by have h := small3_any c A B n k m j d C D n2 k2 m2 j2 (w.heap.size + 1 + 1 + 1 + 1 + 1) (((((((w.alloc (.cells #[.int .i64 c, .slice A n k, .slice B m j] 24)).alloc (.cells #[.int .i64 d, .slice C n2 k2, .slice D m2 j2] 24)).alloc (.cells #[.int .i64 p1, .int .i64 p2, .int .i64 p3, .int .i64 p4] 28)).alloc (.cells #[.slice X1 x1 k1, .slice X2 x2 k2x, .slice X3 x3 k3, .slice X4 x4 k4] 36)).alloc (.cells #[.bool t, .slice F fm fd] 40)).alloc (.cells #[.int .i64 c, .slice A n k, .slice B m j, .int .i64 d, .slice C n2 k2, .slice D m2 j2] 24))) b7.out; rw [show (decide (n ≤ 40) && decide (m ≤ 40) && decide (n2 ≤ 40) && decide (m2 ≤ 40)) = false from hs] at h; exact h)
 have HC := Lib.hid hc; clear hc
 go_wp2_with fail
 refine HC.out.mono ?_
 rintro e d4 ⟨rfl, hb⟩
 clear HC
 have a6 := Lib.hid hb
 clear hb
 replace a1 := kH a1 a6
 obtain ⟨d5, d6, d7⟩ := at3 a1
 replace a2 := kH a2 a6
 obtain ⟨d8, d9, e0⟩ := at3 a2
 replace a3 := kH a3 a6
 obtain ⟨e1, e2, e3, e4⟩ := at4 a3
 replace a4 := kH a4 a6
 obtain ⟨e5, e6, e7, e8⟩ := at4 a4
 replace a5 := kH a5 a6
 obtain ⟨e9, f0⟩ := at2 a5
 have hc := joined_any (d4)
 have HC := Lib.hid hc; clear hc
 go_wp2_with fail
 refine HC.out.mono ?_
 rintro e f1 ⟨rfl, hb⟩
 clear HC
 clear d5 d6 d7 d8 d9 e0 e1 e2 e3 e4 e5 e6 e7 e8 e9 f0
 have a7 := Lib.hid hb
 clear hb
 replace a1 := kH a1 a7
 obtain ⟨f2, f3, f4⟩ := at3 a1
 replace a2 := kH a2 a7
 obtain ⟨f5, f6, f7⟩ := at3 a2
 replace a3 := kH a3 a7
 obtain ⟨f8, f9, g0, g1⟩ := at4 a3
 replace a4 := kH a4 a7
 obtain ⟨g2, g3, g4, g5⟩ := at4 a4
 replace a5 := kH a5 a7
 obtain ⟨g6, g7⟩ := at2 a5
 go_wp2
 go_ret
 replace a0 := bH (bH a0 a6) a7
 exact ⟨rfl, a0.out⟩
set_option maxRecDepth 100000 in
theorem xe_f (hn : n ≤ maxLen) (hm : m ≤ maxLen) (h3 : RdB w C n2 k2 ws2) (h4 : RdB w D m2 j2 ts2) (hn2 : n2 ≤ maxLen) (hm2 : m2 ≤ maxLen) (X1 : Option Addr) (x1 k1 : Nat) (xa : List Int) (X2 : Option Addr) (x2 k2x : Nat) (xb : List Int) (X3 : Option Addr) (x3 k3 : Nat) (ya : List Int) (X4 : Option Addr) (x4 k4 : Nat) (yb : List Int) (hx0 : RdI w X1 x1 k1 xa) (hl0 : x1 ≤ maxLen) (hx1 : RdI w X2 x2 k2x xb) (hl1 : x2 ≤ maxLen) (hx2 : RdI w X3 x3 k3 ya) (hl2 : x3 ≤ maxLen) (hx3 : RdI w X4 x4 k4 yb) (hl3 : x4 ≤ maxLen) (t : Bool) (F : Option Addr) (fm fd : Nat) (x : List Int) (hf : RdI w F fm fd x) (hfm : fm ≤ maxLen) (hs : (decide (n ≤ 40) && decide (m ≤ 40) && decide (n2 ≤ 40) && decide (m2 ≤ 40)) = true) (hl : (100 : Int) < fm) : Calls Tryz.prog 7 #[.agg #[.int .i64 c, .slice A n k, .slice B m j], .agg #[.int .i64 d, .slice C n2 k2, .slice D m2 j2], .agg #[.int .i64 p1, .int .i64 p2, .int .i64 p3, .int .i64 p4], .agg #[.slice X1 x1 k1, .slice X2 x2 k2x, .slice X3 x3 k3, .slice X4 x4 k4], .agg #[.bool t, .slice F fm fd]] w fun e w' => e = .returned (.bool true) ∧ Below w.heap.size w w' := by
 go_enter Tryz.func7, Tryz.ntmps7
 obtain ⟨a1, a2, a3, a4, a5, a0⟩ := ent5 w #[.int .i64 c, .slice A n k, .slice B m j] 24 #[.int .i64 d, .slice C n2 k2, .slice D m2 j2] 24 #[.int .i64 p1, .int .i64 p2, .int .i64 p3, .int .i64 p4] 28 #[.slice X1 x1 k1, .slice X2 x2 k2x, .slice X3 x3 k3, .slice X4 x4 k4] 36 #[.bool t, .slice F fm fd] 40
 have b4 := rI h1 a0
 have b5 := rI h2 a0
 have b6 := rI h3 a0
 have a8 := rI h4 a0
 have a9 := iI hx0 a0
 have b0 := iI hx1 a0
 have b1 := iI hx2 a0
 have b2 := iI hx3 a0
 have b3 := iI hf a0
 clear h1 h2 h3 h4 hx0 hx1 hx2 hx3 hf
 obtain ⟨b8, b9, c0⟩ := at3 a1
 obtain ⟨c1, c2, c3⟩ := at3 a2
 obtain ⟨c4, c5, c6, c7⟩ := at4 a3
 obtain ⟨c8, c9, d0, d1⟩ := at4 a4
 obtain ⟨d2, d3⟩ := at2 a5
 clear b8 b9 c0 c1 c2 c3 c4 c5 c6 c7 c8 c9 d0 d1 d2 d3
 obtain ⟨o_, ho_⟩ : ∃ o, o = ((.cells #[.int .i64 c, .slice A n k, .slice B m j, .int .i64 d, .slice C n2 k2, .slice D m2 j2] 24) : Obj) := ⟨_, rfl⟩
 replace a0 := bA a0 o_
 replace b4 := rA b4 o_
 replace b5 := rA b5 o_
 replace b6 := rA b6 o_
 replace a8 := rA a8 o_
 replace a9 := iA a9 o_
 replace b0 := iA b0 o_
 replace b1 := iA b1 o_
 replace b2 := iA b2 o_
 replace b3 := iA b3 o_
 replace a1 := kA a1 o_
 replace a2 := kA a2 o_
 replace a3 := kA a3 o_
 replace a4 := kA a4 o_
 replace a5 := kA a5 o_
 subst ho_
 have nb_ := Blk.new (((((w.alloc (.cells #[.int .i64 c, .slice A n k, .slice B m j] 24)).alloc (.cells #[.int .i64 d, .slice C n2 k2, .slice D m2 j2] 24)).alloc (.cells #[.int .i64 p1, .int .i64 p2, .int .i64 p3, .int .i64 p4] 28)).alloc (.cells #[.slice X1 x1 k1, .slice X2 x2 k2x, .slice X3 x3 k3, .slice X4 x4 k4] 36)).alloc (.cells #[.bool t, .slice F fm fd] 40)) 24 #[.int .i64 c, .slice A n k, .slice B m j, .int .i64 d, .slice C n2 k2, .slice D m2 j2]
 simp only [World.size_alloc] at nb_
 have b7 := Lib.hid nb_; clear nb_
 have hc := (show Calls Tryz.prog 8 #[.slice (some ⟨w.heap.size + 1 + 1 + 1 + 1 + 1, 0, none⟩) 2 2] (((((((w.alloc (.cells #[.int .i64 c, .slice A n k, .slice B m j] 24)).alloc (.cells #[.int .i64 d, .slice C n2 k2, .slice D m2 j2] 24)).alloc (.cells #[.int .i64 p1, .int .i64 p2, .int .i64 p3, .int .i64 p4] 28)).alloc (.cells #[.slice X1 x1 k1, .slice X2 x2 k2x, .slice X3 x3 k3, .slice X4 x4 k4] 36)).alloc (.cells #[.bool t, .slice F fm fd] 40)).alloc (.cells #[.int .i64 c, .slice A n k, .slice B m j, .int .i64 d, .slice C n2 k2, .slice D m2 j2] 24))) fun e w' => e = .returned (.bool true) ∧ Below (((((((w.alloc (.cells #[.int .i64 c, .slice A n k, .slice B m j] 24)).alloc (.cells #[.int .i64 d, .slice C n2 k2, .slice D m2 j2] 24)).alloc (.cells #[.int .i64 p1, .int .i64 p2, .int .i64 p3, .int .i64 p4] 28)).alloc (.cells #[.slice X1 x1 k1, .slice X2 x2 k2x, .slice X3 x3 k3, .slice X4 x4 k4] 36)).alloc (.cells #[.bool t, .slice F fm fd] 40)).alloc (.cells #[.int .i64 c, .slice A n k, .slice B m j, .int .i64 d, .slice C n2 k2, .slice D m2 j2] 24))).heap.size (((((((w.alloc (.cells #[.int .i64 c, .slice A n k, .slice B m j] 24)).alloc (.cells #[.int .i64 d, .slice C n2 k2, .slice D m2 j2] 24)).alloc (.cells #[.int .i64 p1, .int .i64 p2, .int .i64 p3, .int .i64 p4] 28)).alloc (.cells #[.slice X1 x1 k1, .slice X2 x2 k2x, .slice X3 x3 k3, .slice X4 x4 k4] 36)).alloc (.cells #[.bool t, .slice F fm fd] 40)).alloc (.cells #[.int .i64 c, .slice A n k, .slice B m j, .int .i64 d, .slice C n2 k2, .slice D m2 j2] 24))) w' from by have h := small3_any c A B n k m j d C D n2 k2 m2 j2 (w.heap.size + 1 + 1 + 1 + 1 + 1) (((((((w.alloc (.cells #[.int .i64 c, .slice A n k, .slice B m j] 24)).alloc (.cells #[.int .i64 d, .slice C n2 k2, .slice D m2 j2] 24)).alloc (.cells #[.int .i64 p1, .int .i64 p2, .int .i64 p3, .int .i64 p4] 28)).alloc (.cells #[.slice X1 x1 k1, .slice X2 x2 k2x, .slice X3 x3 k3, .slice X4 x4 k4] 36)).alloc (.cells #[.bool t, .slice F fm fd] 40)).alloc (.cells #[.int .i64 c, .slice A n k, .slice B m j, .int .i64 d, .slice C n2 k2, .slice D m2 j2] 24))) b7.out; rw [show (decide (n ≤ 40) && decide (m ≤ 40) && decide (n2 ≤ 40) && decide (m2 ≤ 40)) = true from hs] at h; exact h)
 have HC := Lib.hid hc; clear hc
 go_wp2_with fail
 refine HC.out.mono ?_
 rintro e d4 ⟨rfl, hb⟩
 clear HC
 have a6 := Lib.hid hb
 clear hb
 replace a1 := kH a1 a6
 obtain ⟨d5, d6, d7⟩ := at3 a1
 replace a2 := kH a2 a6
 obtain ⟨d8, d9, e0⟩ := at3 a2
 replace a3 := kH a3 a6
 obtain ⟨e1, e2, e3, e4⟩ := at4 a3
 replace a4 := kH a4 a6
 obtain ⟨e5, e6, e7, e8⟩ := at4 a4
 replace a5 := kH a5 a6
 obtain ⟨e9, f0⟩ := at2 a5
 have hc := joined_any (d4)
 have HC := Lib.hid hc; clear hc
 go_wp2_with fail
 refine HC.out.mono ?_
 rintro e f1 ⟨rfl, hb⟩
 clear HC
 clear d5 d6 d7 d8 d9 e0 e1 e2 e3 e4 e5 e6 e7 e8 e9 f0
 have a7 := Lib.hid hb
 clear hb
 replace a1 := kH a1 a7
 obtain ⟨f2, f3, f4⟩ := at3 a1
 replace a2 := kH a2 a7
 obtain ⟨f5, f6, f7⟩ := at3 a2
 replace a3 := kH a3 a7
 obtain ⟨f8, f9, g0, g1⟩ := at4 a3
 replace a4 := kH a4 a7
 obtain ⟨g2, g3, g4, g5⟩ := at4 a4
 replace a5 := kH a5 a7
 obtain ⟨g6, g7⟩ := at2 a5
 go_wp2
 go_ret
 replace a0 := bH (bH a0 a6) a7
 exact ⟨rfl, a0.out⟩
set_option maxRecDepth 100000 in
theorem xe_s (hn : n ≤ maxLen) (hm : m ≤ maxLen) (h3 : RdB w C n2 k2 ws2) (h4 : RdB w D m2 j2 ts2) (hn2 : n2 ≤ maxLen) (hm2 : m2 ≤ maxLen) (X1 : Option Addr) (x1 k1 : Nat) (xa : List Int) (X2 : Option Addr) (x2 k2x : Nat) (xb : List Int) (X3 : Option Addr) (x3 k3 : Nat) (ya : List Int) (X4 : Option Addr) (x4 k4 : Nat) (yb : List Int) (hx0 : RdI w X1 x1 k1 xa) (hl0 : x1 ≤ maxLen) (hx1 : RdI w X2 x2 k2x xb) (hl1 : x2 ≤ maxLen) (hx2 : RdI w X3 x3 k3 ya) (hl2 : x3 ≤ maxLen) (hx3 : RdI w X4 x4 k4 yb) (hl3 : x4 ≤ maxLen) (t : Bool) (F : Option Addr) (fm fd : Nat) (x : List Int) (hf : RdI w F fm fd x) (hfm : fm ≤ maxLen) (hs : (decide (n ≤ 40) && decide (m ≤ 40) && decide (n2 ≤ 40) && decide (m2 ≤ 40)) = true) (hl : ¬ (100 : Int) < fm) (s1 s2 s3 : Int) (hw1 : IntKind.i64.wrap ((x1 : Int) + (x2 : Int)) = s1) (hw2 : IntKind.i64.wrap (s1 + (x3 : Int)) = s2) (hw3 : IntKind.i64.wrap (s2 + (x4 : Int)) = s3) (hs4 : (100 : Int) < s3) : Calls Tryz.prog 7 #[.agg #[.int .i64 c, .slice A n k, .slice B m j], .agg #[.int .i64 d, .slice C n2 k2, .slice D m2 j2], .agg #[.int .i64 p1, .int .i64 p2, .int .i64 p3, .int .i64 p4], .agg #[.slice X1 x1 k1, .slice X2 x2 k2x, .slice X3 x3 k3, .slice X4 x4 k4], .agg #[.bool t, .slice F fm fd]] w fun e w' => e = .returned (.bool true) ∧ Below w.heap.size w w' := by
 go_enter Tryz.func7, Tryz.ntmps7
 obtain ⟨a1, a2, a3, a4, a5, a0⟩ := ent5 w #[.int .i64 c, .slice A n k, .slice B m j] 24 #[.int .i64 d, .slice C n2 k2, .slice D m2 j2] 24 #[.int .i64 p1, .int .i64 p2, .int .i64 p3, .int .i64 p4] 28 #[.slice X1 x1 k1, .slice X2 x2 k2x, .slice X3 x3 k3, .slice X4 x4 k4] 36 #[.bool t, .slice F fm fd] 40
 have b4 := rI h1 a0
 have b5 := rI h2 a0
 have b6 := rI h3 a0
 have a8 := rI h4 a0
 have a9 := iI hx0 a0
 have b0 := iI hx1 a0
 have b1 := iI hx2 a0
 have b2 := iI hx3 a0
 have b3 := iI hf a0
 clear h1 h2 h3 h4 hx0 hx1 hx2 hx3 hf
 obtain ⟨b8, b9, c0⟩ := at3 a1
 obtain ⟨c1, c2, c3⟩ := at3 a2
 obtain ⟨c4, c5, c6, c7⟩ := at4 a3
 obtain ⟨c8, c9, d0, d1⟩ := at4 a4
 obtain ⟨d2, d3⟩ := at2 a5
 clear b8 b9 c0 c1 c2 c3 c4 c5 c6 c7 c8 c9 d0 d1 d2 d3
 obtain ⟨o_, ho_⟩ : ∃ o, o = ((.cells #[.int .i64 c, .slice A n k, .slice B m j, .int .i64 d, .slice C n2 k2, .slice D m2 j2] 24) : Obj) := ⟨_, rfl⟩
 replace a0 := bA a0 o_
 replace b4 := rA b4 o_
 replace b5 := rA b5 o_
 replace b6 := rA b6 o_
 replace a8 := rA a8 o_
 replace a9 := iA a9 o_
 replace b0 := iA b0 o_
 replace b1 := iA b1 o_
 replace b2 := iA b2 o_
 replace b3 := iA b3 o_
 replace a1 := kA a1 o_
 replace a2 := kA a2 o_
 replace a3 := kA a3 o_
 replace a4 := kA a4 o_
 replace a5 := kA a5 o_
 subst ho_
 have nb_ := Blk.new (((((w.alloc (.cells #[.int .i64 c, .slice A n k, .slice B m j] 24)).alloc (.cells #[.int .i64 d, .slice C n2 k2, .slice D m2 j2] 24)).alloc (.cells #[.int .i64 p1, .int .i64 p2, .int .i64 p3, .int .i64 p4] 28)).alloc (.cells #[.slice X1 x1 k1, .slice X2 x2 k2x, .slice X3 x3 k3, .slice X4 x4 k4] 36)).alloc (.cells #[.bool t, .slice F fm fd] 40)) 24 #[.int .i64 c, .slice A n k, .slice B m j, .int .i64 d, .slice C n2 k2, .slice D m2 j2]
 simp only [World.size_alloc] at nb_
 have b7 := Lib.hid nb_; clear nb_
 have hc := (show Calls Tryz.prog 8 #[.slice (some ⟨w.heap.size + 1 + 1 + 1 + 1 + 1, 0, none⟩) 2 2] (((((((w.alloc (.cells #[.int .i64 c, .slice A n k, .slice B m j] 24)).alloc (.cells #[.int .i64 d, .slice C n2 k2, .slice D m2 j2] 24)).alloc (.cells #[.int .i64 p1, .int .i64 p2, .int .i64 p3, .int .i64 p4] 28)).alloc (.cells #[.slice X1 x1 k1, .slice X2 x2 k2x, .slice X3 x3 k3, .slice X4 x4 k4] 36)).alloc (.cells #[.bool t, .slice F fm fd] 40)).alloc (.cells #[.int .i64 c, .slice A n k, .slice B m j, .int .i64 d, .slice C n2 k2, .slice D m2 j2] 24))) fun e w' => e = .returned (.bool true) ∧ Below (((((((w.alloc (.cells #[.int .i64 c, .slice A n k, .slice B m j] 24)).alloc (.cells #[.int .i64 d, .slice C n2 k2, .slice D m2 j2] 24)).alloc (.cells #[.int .i64 p1, .int .i64 p2, .int .i64 p3, .int .i64 p4] 28)).alloc (.cells #[.slice X1 x1 k1, .slice X2 x2 k2x, .slice X3 x3 k3, .slice X4 x4 k4] 36)).alloc (.cells #[.bool t, .slice F fm fd] 40)).alloc (.cells #[.int .i64 c, .slice A n k, .slice B m j, .int .i64 d, .slice C n2 k2, .slice D m2 j2] 24))).heap.size (((((((w.alloc (.cells #[.int .i64 c, .slice A n k, .slice B m j] 24)).alloc (.cells #[.int .i64 d, .slice C n2 k2, .slice D m2 j2] 24)).alloc (.cells #[.int .i64 p1, .int .i64 p2, .int .i64 p3, .int .i64 p4] 28)).alloc (.cells #[.slice X1 x1 k1, .slice X2 x2 k2x, .slice X3 x3 k3, .slice X4 x4 k4] 36)).alloc (.cells #[.bool t, .slice F fm fd] 40)).alloc (.cells #[.int .i64 c, .slice A n k, .slice B m j, .int .i64 d, .slice C n2 k2, .slice D m2 j2] 24))) w' from by have h := small3_any c A B n k m j d C D n2 k2 m2 j2 (w.heap.size + 1 + 1 + 1 + 1 + 1) (((((((w.alloc (.cells #[.int .i64 c, .slice A n k, .slice B m j] 24)).alloc (.cells #[.int .i64 d, .slice C n2 k2, .slice D m2 j2] 24)).alloc (.cells #[.int .i64 p1, .int .i64 p2, .int .i64 p3, .int .i64 p4] 28)).alloc (.cells #[.slice X1 x1 k1, .slice X2 x2 k2x, .slice X3 x3 k3, .slice X4 x4 k4] 36)).alloc (.cells #[.bool t, .slice F fm fd] 40)).alloc (.cells #[.int .i64 c, .slice A n k, .slice B m j, .int .i64 d, .slice C n2 k2, .slice D m2 j2] 24))) b7.out; rw [show (decide (n ≤ 40) && decide (m ≤ 40) && decide (n2 ≤ 40) && decide (m2 ≤ 40)) = true from hs] at h; exact h)
 have HC := Lib.hid hc; clear hc
 go_wp2_with fail
 refine HC.out.mono ?_
 rintro e d4 ⟨rfl, hb⟩
 clear HC
 have a6 := Lib.hid hb
 clear hb
 replace a1 := kH a1 a6
 obtain ⟨d5, d6, d7⟩ := at3 a1
 replace a2 := kH a2 a6
 obtain ⟨d8, d9, e0⟩ := at3 a2
 replace a3 := kH a3 a6
 obtain ⟨e1, e2, e3, e4⟩ := at4 a3
 replace a4 := kH a4 a6
 obtain ⟨e5, e6, e7, e8⟩ := at4 a4
 replace a5 := kH a5 a6
 obtain ⟨e9, f0⟩ := at2 a5
 have hc := joined_any (d4)
 have HC := Lib.hid hc; clear hc
 go_wp2_with fail
 refine HC.out.mono ?_
 rintro e f1 ⟨rfl, hb⟩
 clear HC
 clear d5 d6 d7 d8 d9 e0 e1 e2 e3 e4 e5 e6 e7 e8 e9 f0
 have a7 := Lib.hid hb
 clear hb
 replace a1 := kH a1 a7
 obtain ⟨f2, f3, f4⟩ := at3 a1
 replace a2 := kH a2 a7
 obtain ⟨f5, f6, f7⟩ := at3 a2
 replace a3 := kH a3 a7
 obtain ⟨f8, f9, g0, g1⟩ := at4 a3
 replace a4 := kH a4 a7
 obtain ⟨g2, g3, g4, g5⟩ := at4 a4
 replace a5 := kH a5 a7
 obtain ⟨g6, g7⟩ := at2 a5
 go_wp2
 go_ret
 replace a0 := bH (bH a0 a6) a7
 exact ⟨rfl, a0.out⟩
section
variable (hn : n ≤ maxLen) (hm : m ≤ maxLen) (h3 : RdB w C n2 k2 ws2) (h4 : RdB w D m2 j2 ts2) (hn2 : n2 ≤ maxLen) (hm2 : m2 ≤ maxLen) (X1 : Option Addr) (x1 k1 : Nat) (xa : List Int) (X2 : Option Addr) (x2 k2x : Nat) (xb : List Int) (X3 : Option Addr) (x3 k3 : Nat) (ya : List Int) (X4 : Option Addr) (x4 k4 : Nat) (yb : List Int) (hx0 : RdI w X1 x1 k1 xa) (hl0 : x1 ≤ maxLen) (hx1 : RdI w X2 x2 k2x xb) (hl1 : x2 ≤ maxLen) (hx2 : RdI w X3 x3 k3 ya) (hl2 : x3 ≤ maxLen) (hx3 : RdI w X4 x4 k4 yb) (hl3 : x4 ≤ maxLen) (t : Bool) (F : Option Addr) (fm fd : Nat) (x : List Int) (hf : RdI w F fm fd x) (hfm : fm ≤ maxLen)
include hn hm h3 h4 hn2 hm2 X1 x1 k1 xa X2 x2 k2x xb X3 x3 k3 ya X4 x4 k4 yb hx0 hl0 hx1 hl1 hx2 hl2 hx3 hl3 t F fm fd x hf hfm
set_option maxRecDepth 100000 in
theorem xe_err (hs : (decide (n ≤ 40) && decide (m ≤ 40) && decide (n2 ≤ 40) && decide (m2 ≤ 40)) = true) (hl : ¬ (100 : Int) < fm) (s1 s2 s3 : Int) (hw1 : IntKind.i64.wrap ((x1 : Int) + (x2 : Int)) = s1) (hw2 : IntKind.i64.wrap (s1 + (x3 : Int)) = s2) (hw3 : IntKind.i64.wrap (s2 + (x4 : Int)) = s3) (hs4 : ¬ (100 : Int) < s3) (q : Int) (hq : (q != 0) = true) (EM : Hid (meetsV ⟨c, ws, ts⟩ ⟨d, ws2, ts2⟩ ⟨p1, p2, p3, p4⟩ = (false, q))) (EP : Hid (checkPlaceV ⟨c, ws, ts⟩ ⟨d, ws2, ts2⟩ ⟨p1, p2, p3, p4⟩ xa xb ya yb = (false, q))) (EC : Hid (checkClashV t ⟨c, ws, ts⟩ ⟨d, ws2, ts2⟩ ⟨p1, p2, p3, p4⟩ x = (false, q))) : Calls Tryz.prog 7 #[.agg #[.int .i64 c, .slice A n k, .slice B m j], .agg #[.int .i64 d, .slice C n2 k2, .slice D m2 j2], .agg #[.int .i64 p1, .int .i64 p2, .int .i64 p3, .int .i64 p4], .agg #[.slice X1 x1 k1, .slice X2 x2 k2x, .slice X3 x3 k3, .slice X4 x4 k4], .agg #[.bool t, .slice F fm fd]] w fun e w' => e = .returned (.bool true) ∧ Below w.heap.size w w' := by
 go_enter Tryz.func7, Tryz.ntmps7
 obtain ⟨a2, a3, a4, a5, a6, a7⟩ := ent5 w #[.int .i64 c, .slice A n k, .slice B m j] 24 #[.int .i64 d, .slice C n2 k2, .slice D m2 j2] 24 #[.int .i64 p1, .int .i64 p2, .int .i64 p3, .int .i64 p4] 28 #[.slice X1 x1 k1, .slice X2 x2 k2x, .slice X3 x3 k3, .slice X4 x4 k4] 36 #[.bool t, .slice F fm fd] 40
 have b0 := rI h1 a7
 have b1 := rI h2 a7
 have b2 := rI h3 a7
 have a8 := rI h4 a7
 have b5 := iI hx0 a7
 have b6 := iI hx1 a7
 have b7 := iI hx2 a7
 have b8 := iI hx3 a7
 have b9 := iI hf a7
 clear h1 h2 h3 h4 hx0 hx1 hx2 hx3 hf
 obtain ⟨c6, c7, c8⟩ := at3 a2
 obtain ⟨c9, d0, d1⟩ := at3 a3
 obtain ⟨d2, d3, d4, d5⟩ := at4 a4
 obtain ⟨d6, d7, d8, d9⟩ := at4 a5
 obtain ⟨e0, e1⟩ := at2 a6
 clear c6 c7 c8 c9 d0 d1 d2 d3 d4 d5 d6 d7 d8 d9 e0 e1
 obtain ⟨o_, ho_⟩ : ∃ o, o = ((.cells #[.int .i64 c, .slice A n k, .slice B m j, .int .i64 d, .slice C n2 k2, .slice D m2 j2] 24) : Obj) := ⟨_, rfl⟩
 replace a7 := bA a7 o_
 replace b0 := rA b0 o_
 replace b1 := rA b1 o_
 replace b2 := rA b2 o_
 replace a8 := rA a8 o_
 replace b5 := iA b5 o_
 replace b6 := iA b6 o_
 replace b7 := iA b7 o_
 replace b8 := iA b8 o_
 replace b9 := iA b9 o_
 replace a2 := kA a2 o_
 replace a3 := kA a3 o_
 replace a4 := kA a4 o_
 replace a5 := kA a5 o_
 replace a6 := kA a6 o_
 subst ho_
 have nb_ := Blk.new (((((w.alloc (.cells #[.int .i64 c, .slice A n k, .slice B m j] 24)).alloc (.cells #[.int .i64 d, .slice C n2 k2, .slice D m2 j2] 24)).alloc (.cells #[.int .i64 p1, .int .i64 p2, .int .i64 p3, .int .i64 p4] 28)).alloc (.cells #[.slice X1 x1 k1, .slice X2 x2 k2x, .slice X3 x3 k3, .slice X4 x4 k4] 36)).alloc (.cells #[.bool t, .slice F fm fd] 40)) 24 #[.int .i64 c, .slice A n k, .slice B m j, .int .i64 d, .slice C n2 k2, .slice D m2 j2]
 simp only [World.size_alloc] at nb_
 have c0 := Lib.hid nb_; clear nb_
 have hc := (show Calls Tryz.prog 8 #[.slice (some ⟨w.heap.size + 1 + 1 + 1 + 1 + 1, 0, none⟩) 2 2] (((((((w.alloc (.cells #[.int .i64 c, .slice A n k, .slice B m j] 24)).alloc (.cells #[.int .i64 d, .slice C n2 k2, .slice D m2 j2] 24)).alloc (.cells #[.int .i64 p1, .int .i64 p2, .int .i64 p3, .int .i64 p4] 28)).alloc (.cells #[.slice X1 x1 k1, .slice X2 x2 k2x, .slice X3 x3 k3, .slice X4 x4 k4] 36)).alloc (.cells #[.bool t, .slice F fm fd] 40)).alloc (.cells #[.int .i64 c, .slice A n k, .slice B m j, .int .i64 d, .slice C n2 k2, .slice D m2 j2] 24))) fun e w' => e = .returned (.bool true) ∧ Below (((((((w.alloc (.cells #[.int .i64 c, .slice A n k, .slice B m j] 24)).alloc (.cells #[.int .i64 d, .slice C n2 k2, .slice D m2 j2] 24)).alloc (.cells #[.int .i64 p1, .int .i64 p2, .int .i64 p3, .int .i64 p4] 28)).alloc (.cells #[.slice X1 x1 k1, .slice X2 x2 k2x, .slice X3 x3 k3, .slice X4 x4 k4] 36)).alloc (.cells #[.bool t, .slice F fm fd] 40)).alloc (.cells #[.int .i64 c, .slice A n k, .slice B m j, .int .i64 d, .slice C n2 k2, .slice D m2 j2] 24))).heap.size (((((((w.alloc (.cells #[.int .i64 c, .slice A n k, .slice B m j] 24)).alloc (.cells #[.int .i64 d, .slice C n2 k2, .slice D m2 j2] 24)).alloc (.cells #[.int .i64 p1, .int .i64 p2, .int .i64 p3, .int .i64 p4] 28)).alloc (.cells #[.slice X1 x1 k1, .slice X2 x2 k2x, .slice X3 x3 k3, .slice X4 x4 k4] 36)).alloc (.cells #[.bool t, .slice F fm fd] 40)).alloc (.cells #[.int .i64 c, .slice A n k, .slice B m j, .int .i64 d, .slice C n2 k2, .slice D m2 j2] 24))) w' from by have h := small3_any c A B n k m j d C D n2 k2 m2 j2 (w.heap.size + 1 + 1 + 1 + 1 + 1) (((((((w.alloc (.cells #[.int .i64 c, .slice A n k, .slice B m j] 24)).alloc (.cells #[.int .i64 d, .slice C n2 k2, .slice D m2 j2] 24)).alloc (.cells #[.int .i64 p1, .int .i64 p2, .int .i64 p3, .int .i64 p4] 28)).alloc (.cells #[.slice X1 x1 k1, .slice X2 x2 k2x, .slice X3 x3 k3, .slice X4 x4 k4] 36)).alloc (.cells #[.bool t, .slice F fm fd] 40)).alloc (.cells #[.int .i64 c, .slice A n k, .slice B m j, .int .i64 d, .slice C n2 k2, .slice D m2 j2] 24))) c0.out; rw [show (decide (n ≤ 40) && decide (m ≤ 40) && decide (n2 ≤ 40) && decide (m2 ≤ 40)) = true from hs] at h; exact h)
 have HC := Lib.hid hc; clear hc
 go_wp2_with fail
 refine HC.out.mono ?_
 rintro e m9 ⟨rfl, hb⟩
 clear HC
 have a0 := Lib.hid hb
 clear hb
 replace a2 := kH a2 a0
 obtain ⟨e2, e3, e4⟩ := at3 a2
 replace a3 := kH a3 a0
 obtain ⟨e5, e6, e7⟩ := at3 a3
 replace a4 := kH a4 a0
 obtain ⟨e8, e9, f0, f1⟩ := at4 a4
 replace a5 := kH a5 a0
 obtain ⟨f2, f3, f4, f5⟩ := at4 a5
 replace a6 := kH a6 a0
 obtain ⟨f6, f7⟩ := at2 a6
 replace b0 := rH b0 a0
 replace b1 := rH b1 a0
 replace b2 := rH b2 a0
 replace a8 := rH a8 a0
 have hc := Meets_any c A B n k m j ws ts d C D n2 k2 m2 j2 ws2 ts2 p1 p2 p3 p4 _ b0.out b1.out hn hm b2.out a8.out hn2 hm2
 rw [EM.out] at hc
 try dsimp only at hc
 have HC := Lib.hid hc; clear hc
 go_wp2_with fail
 refine HC.out.mono ?_
 rintro e n0 ⟨rfl, hb⟩
 clear HC
 clear e2 e3 e4 e5 e6 e7 e8 e9 f0 f1 f2 f3 f4 f5 f6 f7
 have a1 := Lib.hid hb
 clear hb
 replace a2 := kH a2 a1
 obtain ⟨f8, f9, g0⟩ := at3 a2
 replace a3 := kH a3 a1
 obtain ⟨g1, g2, g3⟩ := at3 a3
 replace a4 := kH a4 a1
 obtain ⟨g4, g5, g6, g7⟩ := at4 a4
 replace a5 := kH a5 a1
 obtain ⟨g8, g9, h0, h5⟩ := at4 a5
 replace a6 := kH a6 a1
 obtain ⟨h6, h7⟩ := at2 a6
 clear hw1 hw2 hw3 hs4
 replace b0 := rH b0 a1
 replace b1 := rH b1 a1
 replace b2 := rH b2 a1
 replace a8 := rH a8 a1
 replace b5 := iH (iH b5 a0) a1
 replace b6 := iH (iH b6 a0) a1
 replace b7 := iH (iH b7 a0) a1
 replace b8 := iH (iH b8 a0) a1
 have hc := CheckPlace_any c A B n k m j ws ts d C D n2 k2 m2 j2 ws2 ts2 p1 p2 p3 p4 _ b0.out b1.out hn hm b2.out a8.out hn2 hm2 X1 x1 k1 xa X2 x2 k2x xb X3 x3 k3 ya X4 x4 k4 yb b5.out hl0 b6.out hl1 b7.out hl2 b8.out hl3
 rw [EP.out] at hc
 try dsimp only at hc
 have HC := Lib.hid hc; clear hc
 go_wp2_with fail
 refine HC.out.mono ?_
 rintro e n1 ⟨rfl, hb⟩
 clear HC
 clear f8 f9 g0 g1 g2 g3 g4 g5 g6 g7 g8 g9 h0 h5 h6 h7
 have a9 := Lib.hid hb
 clear hb
 replace a2 := kH a2 a9
 obtain ⟨h8, h9, i0⟩ := at3 a2
 replace a3 := kH a3 a9
 obtain ⟨i1, i2, i3⟩ := at3 a3
 replace a4 := kH a4 a9
 obtain ⟨i4, i5, i6, i7⟩ := at4 a4
 replace a5 := kH a5 a9
 obtain ⟨i8, i9, j0, j1⟩ := at4 a5
 replace a6 := kH a6 a9
 obtain ⟨j3, j4⟩ := at2 a6
 replace b0 := rH b0 a9
 replace b1 := rH b1 a9
 replace b2 := rH b2 a9
 replace a8 := rH a8 a9
 replace b9 := iH (iH (iH b9 a0) a1) a9
 have hc := CheckClash_any c A B n k m j ws ts d C D n2 k2 m2 j2 ws2 ts2 p1 p2 p3 p4 _ b0.out b1.out hn hm b2.out a8.out hn2 hm2 t F fm fd x b9.out hfm
 rw [EC.out] at hc
 try dsimp only at hc
 have HC := Lib.hid hc; clear hc
 go_wp2_with fail
 refine HC.out.mono ?_
 rintro e j5 ⟨rfl, hb⟩
 clear HC
 clear h8 h9 i0 i1 i2 i3 i4 i5 i6 i7 i8 i9 j0 j1 j3 j4
 have b4 := Lib.hid hb
 clear hb
 replace a2 := kH a2 b4
 obtain ⟨j6, j7, j8⟩ := at3 a2
 replace a3 := kH a3 b4
 obtain ⟨j9, k0, k5⟩ := at3 a3
 replace a4 := kH a4 b4
 obtain ⟨k6, k7, k8, k9⟩ := at4 a4
 replace a5 := kH a5 b4
 obtain ⟨l0, c1, c2, c3⟩ := at4 a5
 replace a6 := kH a6 b4
 obtain ⟨c4, c5⟩ := at2 a6
 have h1_ : (q != q) = false := by simp
 have hc := joined_any (j5)
 have HC := Lib.hid hc; clear hc
 go_wp2_with fail
 refine HC.out.mono ?_
 rintro e l1 ⟨rfl, hb⟩
 clear HC
 clear j6 j7 j8 j9 k0 k5 k6 k7 k8 k9 l0 c1 c2 c3 c4 c5
 have b3 := Lib.hid hb
 clear hb
 replace a2 := kH a2 b3
 obtain ⟨l2, l3, l4⟩ := at3 a2
 replace a3 := kH a3 b3
 obtain ⟨l5, l6, l7⟩ := at3 a3
 replace a4 := kH a4 b3
 obtain ⟨l8, l9, m0, m1⟩ := at4 a4
 replace a5 := kH a5 b3
 obtain ⟨m3, m4, m5, m6⟩ := at4 a5
 replace a6 := kH a6 b3
 obtain ⟨m7, m8⟩ := at2 a6
 go_wp2
 go_ret
 replace a7 := bH (bH (bH (bH (bH a7 a0) a1) a9) b4) b3
 exact ⟨rfl, a7.out⟩
section
variable (hs0 : (decide (n ≤ 40) && decide (m ≤ 40) && decide (n2 ≤ 40) && decide (m2 ≤ 40)) = true)
include hs0
set_option maxRecDepth 100000 in
theorem xe_a (hl : ¬ (100 : Int) < fm) (s1 s2 s3 : Int) (hw1 : IntKind.i64.wrap ((x1 : Int) + (x2 : Int)) = s1) (hw2 : IntKind.i64.wrap (s1 + (x3 : Int)) = s2) (hw3 : IntKind.i64.wrap (s2 + (x4 : Int)) = s3) (hs : ¬ (100 : Int) < s3) (EM : Hid (meetsV ⟨c, ws, ts⟩ ⟨d, ws2, ts2⟩ ⟨p1, p2, p3, p4⟩ = (true, 0))) (EP : Hid (checkPlaceV ⟨c, ws, ts⟩ ⟨d, ws2, ts2⟩ ⟨p1, p2, p3, p4⟩ xa xb ya yb = (true, 0))) (EC : Hid (checkClashV t ⟨c, ws, ts⟩ ⟨d, ws2, ts2⟩ ⟨p1, p2, p3, p4⟩ x = (false, 0))) (L1 L2 L3 L4 Z : List Int) (tn : Bool) (EL : Hid (placeV ⟨c, ws, ts⟩ ⟨d, ws2, ts2⟩ ⟨p1, p2, p3, p4⟩ = (true, 0, L1, L2, L3, L4))) (ECL : Hid (clashV ⟨c, ws, ts⟩ ⟨d, ws2, ts2⟩ ⟨p1, p2, p3, p4⟩ = ((Z, tn, false), 0))) (EP2 : Hid (checkPlaceV ⟨c, ws, ts⟩ ⟨d, ws2, ts2⟩ ⟨p1, p2, p3, p4⟩ L1 L2 L3 L4 = (true, 0))) (EC2 : Hid (checkClashV tn ⟨c, ws, ts⟩ ⟨d, ws2, ts2⟩ ⟨p1, p2, p3, p4⟩ Z = (false, 0))) : Calls Tryz.prog 7 #[.agg #[.int .i64 c, .slice A n k, .slice B m j], .agg #[.int .i64 d, .slice C n2 k2, .slice D m2 j2], .agg #[.int .i64 p1, .int .i64 p2, .int .i64 p3, .int .i64 p4], .agg #[.slice X1 x1 k1, .slice X2 x2 k2x, .slice X3 x3 k3, .slice X4 x4 k4], .agg #[.bool t, .slice F fm fd]] w fun e w' => e = .returned (.bool true) ∧ Below w.heap.size w w' := by
 have hs4 := hs; clear hs; have hs := hs0; clear hs0
 go_enter Tryz.func7, Tryz.ntmps7
 obtain ⟨a1, a2, a3, a4, a5, b6⟩ := ent5 w #[.int .i64 c, .slice A n k, .slice B m j] 24 #[.int .i64 d, .slice C n2 k2, .slice D m2 j2] 24 #[.int .i64 p1, .int .i64 p2, .int .i64 p3, .int .i64 p4] 28 #[.slice X1 x1 k1, .slice X2 x2 k2x, .slice X3 x3 k3, .slice X4 x4 k4] 36 #[.bool t, .slice F fm fd] 40
 have a8 := rI h1 b6
 have a9 := rI h2 b6
 have b0 := rI h3 b6
 have a6 := rI h4 b6
 have c5 := iI hx0 b6
 have c6 := iI hx1 b6
 have c7 := iI hx2 b6
 have c8 := iI hx3 b6
 have c9 := iI hf b6
 clear h1 h2 h3 h4 hx0 hx1 hx2 hx3 hf
 obtain ⟨o5, o6, o7⟩ := at3 a1
 obtain ⟨o8, o9, p0⟩ := at3 a2
 obtain ⟨p5, p6, p7, p8⟩ := at4 a3
 obtain ⟨p9, q0, q1, q2⟩ := at4 a4
 obtain ⟨q3, q4⟩ := at2 a5
 clear o5 o6 o7 o8 o9 p0 p5 p6 p7 p8 p9 q0 q1 q2 q3 q4
 obtain ⟨o_, ho_⟩ : ∃ o, o = ((.cells #[.int .i64 c, .slice A n k, .slice B m j, .int .i64 d, .slice C n2 k2, .slice D m2 j2] 24) : Obj) := ⟨_, rfl⟩
 replace b6 := bA b6 o_
 replace a8 := rA a8 o_
 replace a9 := rA a9 o_
 replace b0 := rA b0 o_
 replace a6 := rA a6 o_
 replace c5 := iA c5 o_
 replace c6 := iA c6 o_
 replace c7 := iA c7 o_
 replace c8 := iA c8 o_
 replace c9 := iA c9 o_
 replace a1 := kA a1 o_
 replace a2 := kA a2 o_
 replace a3 := kA a3 o_
 replace a4 := kA a4 o_
 replace a5 := kA a5 o_
 subst ho_
 have nb_ := Blk.new (((((w.alloc (.cells #[.int .i64 c, .slice A n k, .slice B m j] 24)).alloc (.cells #[.int .i64 d, .slice C n2 k2, .slice D m2 j2] 24)).alloc (.cells #[.int .i64 p1, .int .i64 p2, .int .i64 p3, .int .i64 p4] 28)).alloc (.cells #[.slice X1 x1 k1, .slice X2 x2 k2x, .slice X3 x3 k3, .slice X4 x4 k4] 36)).alloc (.cells #[.bool t, .slice F fm fd] 40)) 24 #[.int .i64 c, .slice A n k, .slice B m j, .int .i64 d, .slice C n2 k2, .slice D m2 j2]
 simp only [World.size_alloc] at nb_
 have d5 := Lib.hid nb_; clear nb_
 have hc := (show Calls Tryz.prog 8 #[.slice (some ⟨w.heap.size + 1 + 1 + 1 + 1 + 1, 0, none⟩) 2 2] (((((((w.alloc (.cells #[.int .i64 c, .slice A n k, .slice B m j] 24)).alloc (.cells #[.int .i64 d, .slice C n2 k2, .slice D m2 j2] 24)).alloc (.cells #[.int .i64 p1, .int .i64 p2, .int .i64 p3, .int .i64 p4] 28)).alloc (.cells #[.slice X1 x1 k1, .slice X2 x2 k2x, .slice X3 x3 k3, .slice X4 x4 k4] 36)).alloc (.cells #[.bool t, .slice F fm fd] 40)).alloc (.cells #[.int .i64 c, .slice A n k, .slice B m j, .int .i64 d, .slice C n2 k2, .slice D m2 j2] 24))) fun e w' => e = .returned (.bool true) ∧ Below (((((((w.alloc (.cells #[.int .i64 c, .slice A n k, .slice B m j] 24)).alloc (.cells #[.int .i64 d, .slice C n2 k2, .slice D m2 j2] 24)).alloc (.cells #[.int .i64 p1, .int .i64 p2, .int .i64 p3, .int .i64 p4] 28)).alloc (.cells #[.slice X1 x1 k1, .slice X2 x2 k2x, .slice X3 x3 k3, .slice X4 x4 k4] 36)).alloc (.cells #[.bool t, .slice F fm fd] 40)).alloc (.cells #[.int .i64 c, .slice A n k, .slice B m j, .int .i64 d, .slice C n2 k2, .slice D m2 j2] 24))).heap.size (((((((w.alloc (.cells #[.int .i64 c, .slice A n k, .slice B m j] 24)).alloc (.cells #[.int .i64 d, .slice C n2 k2, .slice D m2 j2] 24)).alloc (.cells #[.int .i64 p1, .int .i64 p2, .int .i64 p3, .int .i64 p4] 28)).alloc (.cells #[.slice X1 x1 k1, .slice X2 x2 k2x, .slice X3 x3 k3, .slice X4 x4 k4] 36)).alloc (.cells #[.bool t, .slice F fm fd] 40)).alloc (.cells #[.int .i64 c, .slice A n k, .slice B m j, .int .i64 d, .slice C n2 k2, .slice D m2 j2] 24))) w' from by have h := small3_any c A B n k m j d C D n2 k2 m2 j2 (w.heap.size + 1 + 1 + 1 + 1 + 1) (((((((w.alloc (.cells #[.int .i64 c, .slice A n k, .slice B m j] 24)).alloc (.cells #[.int .i64 d, .slice C n2 k2, .slice D m2 j2] 24)).alloc (.cells #[.int .i64 p1, .int .i64 p2, .int .i64 p3, .int .i64 p4] 28)).alloc (.cells #[.slice X1 x1 k1, .slice X2 x2 k2x, .slice X3 x3 k3, .slice X4 x4 k4] 36)).alloc (.cells #[.bool t, .slice F fm fd] 40)).alloc (.cells #[.int .i64 c, .slice A n k, .slice B m j, .int .i64 d, .slice C n2 k2, .slice D m2 j2] 24))) d5.out; rw [show (decide (n ≤ 40) && decide (m ≤ 40) && decide (n2 ≤ 40) && decide (m2 ≤ 40)) = true from hs] at h; exact h)
 have HC := Lib.hid hc; clear hc
 go_wp2_with fail
 refine HC.out.mono ?_
 rintro e z5 ⟨rfl, hb⟩
 clear HC
 have b8 := Lib.hid hb
 clear hb
 replace a1 := kH a1 b8
 obtain ⟨q5, q6, q7⟩ := at3 a1
 replace a2 := kH a2 b8
 obtain ⟨q8, q9, r0⟩ := at3 a2
 replace a3 := kH a3 b8
 obtain ⟨r1, r2, r3, r4⟩ := at4 a3
 replace a4 := kH a4 b8
 obtain ⟨r5, r6, r7, r8⟩ := at4 a4
 replace a5 := kH a5 b8
 obtain ⟨r9, s0⟩ := at2 a5
 replace a8 := rH a8 b8
 replace a9 := rH a9 b8
 replace b0 := rH b0 b8
 replace a6 := rH a6 b8
 have hc := Meets_any c A B n k m j ws ts d C D n2 k2 m2 j2 ws2 ts2 p1 p2 p3 p4 _ a8.out a9.out hn hm b0.out a6.out hn2 hm2
 rw [EM.out] at hc
 try dsimp only at hc
 have HC := Lib.hid hc; clear hc
 go_wp2_with fail
 refine HC.out.mono ?_
 rintro e z6 ⟨rfl, hb⟩
 clear HC
 clear q5 q6 q7 q8 q9 r0 r1 r2 r3 r4 r5 r6 r7 r8 r9 s0
 have b9 := Lib.hid hb
 clear hb
 replace a1 := kH a1 b9
 obtain ⟨s4, s5, s6⟩ := at3 a1
 replace a2 := kH a2 b9
 obtain ⟨s7, s8, s9⟩ := at3 a2
 replace a3 := kH a3 b9
 obtain ⟨t0, t1, t2, t3⟩ := at4 a3
 replace a4 := kH a4 b9
 obtain ⟨t4, t5, t6, t7⟩ := at4 a4
 replace a5 := kH a5 b9
 obtain ⟨t8, t9⟩ := at2 a5
 clear hw1 hw2 hw3 hs4
 replace a8 := rH a8 b9
 replace a9 := rH a9 b9
 replace b0 := rH b0 b9
 replace a6 := rH a6 b9
 replace c5 := iH (iH c5 b8) b9
 replace c6 := iH (iH c6 b8) b9
 replace c7 := iH (iH c7 b8) b9
 replace c8 := iH (iH c8 b8) b9
 have hc := CheckPlace_any c A B n k m j ws ts d C D n2 k2 m2 j2 ws2 ts2 p1 p2 p3 p4 _ a8.out a9.out hn hm b0.out a6.out hn2 hm2 X1 x1 k1 xa X2 x2 k2x xb X3 x3 k3 ya X4 x4 k4 yb c5.out hl0 c6.out hl1 c7.out hl2 c8.out hl3
 rw [EP.out] at hc
 try dsimp only at hc
 have HC := Lib.hid hc; clear hc
 go_wp2_with fail
 refine HC.out.mono ?_
 rintro e z7 ⟨rfl, hb⟩
 clear HC
 clear s4 s5 s6 s7 s8 s9 t0 t1 t2 t3 t4 t5 t6 t7 t8 t9
 have c0 := Lib.hid hb
 clear hb
 replace a1 := kH a1 c0
 obtain ⟨u0, u1, u2⟩ := at3 a1
 replace a2 := kH a2 c0
 obtain ⟨u3, u4, u5⟩ := at3 a2
 replace a3 := kH a3 c0
 obtain ⟨u6, u7, u8, u9⟩ := at4 a3
 replace a4 := kH a4 c0
 obtain ⟨v0, v1, v2, v3⟩ := at4 a4
 replace a5 := kH a5 c0
 obtain ⟨v4, v5⟩ := at2 a5
 replace a8 := rH a8 c0
 replace a9 := rH a9 c0
 replace b0 := rH b0 c0
 replace a6 := rH a6 c0
 replace c9 := iH (iH (iH c9 b8) b9) c0
 have hc := CheckClash_any c A B n k m j ws ts d C D n2 k2 m2 j2 ws2 ts2 p1 p2 p3 p4 _ a8.out a9.out hn hm b0.out a6.out hn2 hm2 t F fm fd x c9.out hfm
 rw [EC.out] at hc
 try dsimp only at hc
 have HC := Lib.hid hc; clear hc
 go_wp2_with fail
 refine HC.out.mono ?_
 rintro e z8 ⟨rfl, hb⟩
 clear HC
 clear u0 u1 u2 u3 u4 u5 u6 u7 u8 u9 v0 v1 v2 v3 v4 v5
 have c1 := Lib.hid hb
 clear hb
 replace a1 := kH a1 c1
 obtain ⟨v6, v7, v8⟩ := at3 a1
 replace a2 := kH a2 c1
 obtain ⟨v9, w0, w1⟩ := at3 a2
 replace a3 := kH a3 c1
 obtain ⟨w2, w3, w4, w5⟩ := at4 a3
 replace a4 := kH a4 c1
 obtain ⟨w6, d6, d7, d8⟩ := at4 a4
 replace a5 := kH a5 c1
 obtain ⟨d9, e0⟩ := at2 a5
 replace a8 := rH a8 c1
 replace a9 := rH a9 c1
 replace b0 := rH b0 c1
 replace a6 := rH a6 c1
 have hc := Place_any c A B n k m j ws ts d C D n2 k2 m2 j2 ws2 ts2 p1 p2 p3 p4 _ a8.out a9.out hn hm b0.out a6.out hn2 hm2 _ EL.out
 unfold RetPl at hc
 dsimp only at hc
 have hc := hc
 have HC := Lib.hid hc; clear hc
 go_wp2_with fail
 refine HC.out.mono ?_
 rintro e e5 ⟨B1, b1, e1, B2, b2, e2, B3, b3, e3, B4, b4, e4, rfl, ⟨hr1, hr2, hr3, hr4⟩, ⟨hb1, hb2, hb3, hb4⟩, hb⟩
 clear HC
 clear v6 v7 v8 v9 w0 w1 w2 w3 w4 w5 w6 d6 d7 d8 d9 e0
 have b5 := Lib.hid hb
 clear hb
 have d0 := Lib.hid (hr1)
 clear hr1
 have d1 := Lib.hid (hr2)
 clear hr2
 have d2 := Lib.hid (hr3)
 clear hr3
 have d3 := Lib.hid (hr4)
 clear hr4
 obtain ⟨o_, ho_⟩ : ∃ o, o = ((.cells #[.slice B1 b1 e1, .slice B2 b2 e2, .slice B3 b3 e3, .slice B4 b4 e4] 36) : Obj) := ⟨_, rfl⟩
 replace b6 := bA (bH (bH (bH (bH (bH b6 b8) b9) c0) c1) b5) o_
 replace a8 := rA (rH a8 b5) o_
 replace a9 := rA (rH a9 b5) o_
 replace b0 := rA (rH b0 b5) o_
 replace a6 := rA (rH a6 b5) o_
 replace c5 := iA (iH (iH (iH c5 c0) c1) b5) o_
 replace c6 := iA (iH (iH (iH c6 c0) c1) b5) o_
 replace c7 := iA (iH (iH (iH c7 c0) c1) b5) o_
 replace c8 := iA (iH (iH (iH c8 c0) c1) b5) o_
 replace c9 := iA (iH (iH c9 c1) b5) o_
 replace a1 := kA (kH a1 b5) o_
 replace a2 := kA (kH a2 b5) o_
 replace a3 := kA (kH a3 b5) o_
 replace a4 := kA (kH a4 b5) o_
 replace a5 := kA (kH a5 b5) o_
 replace d0 := iA d0 o_
 replace d1 := iA d1 o_
 replace d2 := iA d2 o_
 replace d3 := iA d3 o_
 subst ho_
 have a7 := Lib.hid (Blk.new e5 36 #[.slice B1 b1 e1, .slice B2 b2 e2, .slice B3 b3 e3, .slice B4 b4 e4])
 obtain ⟨e6, e7, e8⟩ := at3 a1
 obtain ⟨e9, f0, f1⟩ := at3 a2
 obtain ⟨f2, f3, f4, f5⟩ := at4 a3
 obtain ⟨f6, f7, f8, f9⟩ := at4 a4
 obtain ⟨g0, g1⟩ := at2 a5
 obtain ⟨g2, g3, g4, g5⟩ := at4 a7
 have hc := Clash_any c A B n k m j ws ts d C D n2 k2 m2 j2 ws2 ts2 p1 p2 p3 p4 _ a8.out a9.out hn hm b0.out a6.out hn2 hm2
 unfold RetFE at hc
 rw [ECL.out] at hc
 dsimp only at hc
 try simp only [Bool.not_true, Bool.not_false] at hc
 have hc := hc
 have HC := Lib.hid hc; clear hc
 go_wp2_with fail
 refine HC.out.mono ?_
 rintro e g6 ⟨Ac, nc, cc, rfl, hrc, hmc, hb⟩
 clear HC
 clear e6 e7 e8 e9 f0 f1 f2 f3 f4 f5 f6 f7 f8 f9 g0 g1 g2 g3 g4 g5
 have a0 := Lib.hid hb
 clear hb
 have d4 := Lib.hid (hrc)
 clear hrc
 obtain ⟨o_, ho_⟩ : ∃ o, o = ((.cells #[.bool tn, .slice Ac nc cc] 40) : Obj) := ⟨_, rfl⟩
 replace b6 := bA (bH b6 a0) o_
 replace a8 := rA (rH a8 a0) o_
 replace a9 := rA (rH a9 a0) o_
 replace b0 := rA (rH b0 a0) o_
 replace a6 := rA (rH a6 a0) o_
 replace c5 := iA (iH c5 a0) o_
 replace c6 := iA (iH c6 a0) o_
 replace c7 := iA (iH c7 a0) o_
 replace c8 := iA (iH c8 a0) o_
 replace c9 := iA (iH c9 a0) o_
 replace a1 := kA (kH a1 a0) o_
 replace a2 := kA (kH a2 a0) o_
 replace a3 := kA (kH a3 a0) o_
 replace a4 := kA (kH a4 a0) o_
 replace a5 := kA (kH a5 a0) o_
 replace d0 := iA (iH d0 a0) o_
 replace d1 := iA (iH d1 a0) o_
 replace d2 := iA (iH d2 a0) o_
 replace d3 := iA (iH d3 a0) o_
 replace a7 := kA (kH a7 a0) o_
 replace d4 := iA d4 o_
 subst ho_
 have c2 := Lib.hid (Blk.new g6 40 #[.bool tn, .slice Ac nc cc])
 obtain ⟨g7, g8, g9⟩ := at3 a1
 obtain ⟨h0, h5, h6⟩ := at3 a2
 obtain ⟨h7, h8, h9, i0⟩ := at4 a3
 obtain ⟨i1, i2, i3, i4⟩ := at4 a4
 obtain ⟨i5, i6⟩ := at2 a5
 obtain ⟨i7, i8, i9, j0⟩ := at4 a7
 obtain ⟨j1, j3⟩ := at2 c2
 have hc := CheckPlace_any c A B n k m j ws ts d C D n2 k2 m2 j2 ws2 ts2 p1 p2 p3 p4 _ a8.out a9.out hn hm b0.out a6.out hn2 hm2 B1 b1 e1 L1 B2 b2 e2 L2 B3 b3 e3 L3 B4 b4 e4 L4 d0.out (by unfold maxLen; omega) d1.out (by unfold maxLen; omega) d2.out (by unfold maxLen; omega) d3.out (by unfold maxLen; omega)
 rw [EP2.out] at hc
 try dsimp only at hc
 have HC := Lib.hid hc; clear hc
 go_wp2_with fail
 refine HC.out.mono ?_
 rintro e w7 ⟨rfl, hb⟩
 clear HC
 clear g7 g8 g9 h0 h5 h6 h7 h8 h9 i0 i1 i2 i3 i4 i5 i6 i7 i8 i9 j0 j1 j3
 have b7 := Lib.hid hb
 clear hb
 replace a1 := kH a1 b7
 obtain ⟨j4, j5, j6⟩ := at3 a1
 replace a2 := kH a2 b7
 obtain ⟨j7, j8, j9⟩ := at3 a2
 replace a3 := kH a3 b7
 obtain ⟨k0, k5, k6, k7⟩ := at4 a3
 replace a4 := kH a4 b7
 obtain ⟨k8, k9, l0, l1⟩ := at4 a4
 replace a5 := kH a5 b7
 obtain ⟨l2, l3⟩ := at2 a5
 replace a7 := kH a7 b7
 obtain ⟨l4, l5, l6, l7⟩ := at4 a7
 replace c2 := kH c2 b7
 obtain ⟨l8, l9⟩ := at2 c2
 replace a8 := rH a8 b7
 replace a9 := rH a9 b7
 replace b0 := rH b0 b7
 replace a6 := rH a6 b7
 replace d4 := iH d4 b7
 have hc := CheckClash_any c A B n k m j ws ts d C D n2 k2 m2 j2 ws2 ts2 p1 p2 p3 p4 _ a8.out a9.out hn hm b0.out a6.out hn2 hm2 tn Ac nc cc Z d4.out hmc
 rw [EC2.out] at hc
 try dsimp only at hc
 have HC := Lib.hid hc; clear hc
 go_wp2_with fail
 refine HC.out.mono ?_
 rintro e m0 ⟨rfl, hb⟩
 clear HC
 clear j4 j5 j6 j7 j8 j9 k0 k5 k6 k7 k8 k9 l0 l1 l2 l3 l4 l5 l6 l7 l8 l9
 have c3 := Lib.hid hb
 clear hb
 replace a1 := kH a1 c3
 obtain ⟨m1, m3, m4⟩ := at3 a1
 replace a2 := kH a2 c3
 obtain ⟨m5, m6, m7⟩ := at3 a2
 replace a3 := kH a3 c3
 obtain ⟨m8, m9, n0, n1⟩ := at4 a3
 replace a4 := kH a4 c3
 obtain ⟨n3, n4, n5, n6⟩ := at4 a4
 replace a5 := kH a5 c3
 obtain ⟨n7, n8⟩ := at2 a5
 replace a7 := kH a7 c3
 obtain ⟨n9, o0, o1, o2⟩ := at4 a7
 replace c2 := kH c2 c3
 obtain ⟨o3, o4⟩ := at2 c2
 have hc := joined_any (m0)
 have HC := Lib.hid hc; clear hc
 go_wp2_with fail
 refine HC.out.mono ?_
 rintro e w8 ⟨rfl, hb⟩
 clear HC
 clear m1 m3 m4 m5 m6 m7 m8 m9 n0 n1 n3 n4 n5 n6 n7 n8 n9 o0 o1 o2 o3 o4
 have c4 := Lib.hid hb
 clear hb
 replace a1 := kH a1 c4
 obtain ⟨w9, x0, x5⟩ := at3 a1
 replace a2 := kH a2 c4
 obtain ⟨x6, x7, x8⟩ := at3 a2
 replace a3 := kH a3 c4
 obtain ⟨x9, y0, y1, y2⟩ := at4 a3
 replace a4 := kH a4 c4
 obtain ⟨y3, y4, y5, y6⟩ := at4 a4
 replace a5 := kH a5 c4
 obtain ⟨y7, y8⟩ := at2 a5
 replace a7 := kH a7 c4
 obtain ⟨y9, z0, z1, z2⟩ := at4 a7
 replace c2 := kH c2 c4
 obtain ⟨z3, z4⟩ := at2 c2
 go_wp2
 go_ret
 replace b6 := bH (bH (bH b6 b7) c3) c4
 exact ⟨rfl, b6.out⟩
set_option maxRecDepth 100000 in
theorem xe_b (hl : ¬ (100 : Int) < fm) (s1 s2 s3 : Int) (hw1 : IntKind.i64.wrap ((x1 : Int) + (x2 : Int)) = s1) (hw2 : IntKind.i64.wrap (s1 + (x3 : Int)) = s2) (hw3 : IntKind.i64.wrap (s2 + (x4 : Int)) = s3) (hs : ¬ (100 : Int) < s3) (EM : Hid (meetsV ⟨c, ws, ts⟩ ⟨d, ws2, ts2⟩ ⟨p1, p2, p3, p4⟩ = (true, 0))) (EP : Hid (checkPlaceV ⟨c, ws, ts⟩ ⟨d, ws2, ts2⟩ ⟨p1, p2, p3, p4⟩ xa xb ya yb = (false, 0))) (EC : Hid (checkClashV t ⟨c, ws, ts⟩ ⟨d, ws2, ts2⟩ ⟨p1, p2, p3, p4⟩ x = (false, 0))) (L1 L2 L3 L4 Z : List Int) (tn : Bool) (EL : Hid (placeV ⟨c, ws, ts⟩ ⟨d, ws2, ts2⟩ ⟨p1, p2, p3, p4⟩ = (true, 0, L1, L2, L3, L4))) (ECL : Hid (clashV ⟨c, ws, ts⟩ ⟨d, ws2, ts2⟩ ⟨p1, p2, p3, p4⟩ = ((Z, tn, false), 0))) (EP2 : Hid (checkPlaceV ⟨c, ws, ts⟩ ⟨d, ws2, ts2⟩ ⟨p1, p2, p3, p4⟩ L1 L2 L3 L4 = (true, 0))) (EC2 : Hid (checkClashV tn ⟨c, ws, ts⟩ ⟨d, ws2, ts2⟩ ⟨p1, p2, p3, p4⟩ Z = (false, 0))) : Calls Tryz.prog 7 #[.agg #[.int .i64 c, .slice A n k, .slice B m j], .agg #[.int .i64 d, .slice C n2 k2, .slice D m2 j2], .agg #[.int .i64 p1, .int .i64 p2, .int .i64 p3, .int .i64 p4], .agg #[.slice X1 x1 k1, .slice X2 x2 k2x, .slice X3 x3 k3, .slice X4 x4 k4], .agg #[.bool t, .slice F fm fd]] w fun e w' => e = .returned (.bool true) ∧ Below w.heap.size w w' := by
 have hs4 := hs; clear hs; have hs := hs0; clear hs0
 go_enter Tryz.func7, Tryz.ntmps7
 obtain ⟨a1, a2, a3, a4, a5, b6⟩ := ent5 w #[.int .i64 c, .slice A n k, .slice B m j] 24 #[.int .i64 d, .slice C n2 k2, .slice D m2 j2] 24 #[.int .i64 p1, .int .i64 p2, .int .i64 p3, .int .i64 p4] 28 #[.slice X1 x1 k1, .slice X2 x2 k2x, .slice X3 x3 k3, .slice X4 x4 k4] 36 #[.bool t, .slice F fm fd] 40
 have a8 := rI h1 b6
 have a9 := rI h2 b6
 have b0 := rI h3 b6
 have a6 := rI h4 b6
 have c5 := iI hx0 b6
 have c6 := iI hx1 b6
 have c7 := iI hx2 b6
 have c8 := iI hx3 b6
 have c9 := iI hf b6
 clear h1 h2 h3 h4 hx0 hx1 hx2 hx3 hf
 obtain ⟨o5, o6, o7⟩ := at3 a1
 obtain ⟨o8, o9, p0⟩ := at3 a2
 obtain ⟨p5, p6, p7, p8⟩ := at4 a3
 obtain ⟨p9, q0, q1, q2⟩ := at4 a4
 obtain ⟨q3, q4⟩ := at2 a5
 clear o5 o6 o7 o8 o9 p0 p5 p6 p7 p8 p9 q0 q1 q2 q3 q4
 obtain ⟨o_, ho_⟩ : ∃ o, o = ((.cells #[.int .i64 c, .slice A n k, .slice B m j, .int .i64 d, .slice C n2 k2, .slice D m2 j2] 24) : Obj) := ⟨_, rfl⟩
 replace b6 := bA b6 o_
 replace a8 := rA a8 o_
 replace a9 := rA a9 o_
 replace b0 := rA b0 o_
 replace a6 := rA a6 o_
 replace c5 := iA c5 o_
 replace c6 := iA c6 o_
 replace c7 := iA c7 o_
 replace c8 := iA c8 o_
 replace c9 := iA c9 o_
 replace a1 := kA a1 o_
 replace a2 := kA a2 o_
 replace a3 := kA a3 o_
 replace a4 := kA a4 o_
 replace a5 := kA a5 o_
 subst ho_
 have nb_ := Blk.new (((((w.alloc (.cells #[.int .i64 c, .slice A n k, .slice B m j] 24)).alloc (.cells #[.int .i64 d, .slice C n2 k2, .slice D m2 j2] 24)).alloc (.cells #[.int .i64 p1, .int .i64 p2, .int .i64 p3, .int .i64 p4] 28)).alloc (.cells #[.slice X1 x1 k1, .slice X2 x2 k2x, .slice X3 x3 k3, .slice X4 x4 k4] 36)).alloc (.cells #[.bool t, .slice F fm fd] 40)) 24 #[.int .i64 c, .slice A n k, .slice B m j, .int .i64 d, .slice C n2 k2, .slice D m2 j2]
 simp only [World.size_alloc] at nb_
 have d5 := Lib.hid nb_; clear nb_
 have hc := (show Calls Tryz.prog 8 #[.slice (some ⟨w.heap.size + 1 + 1 + 1 + 1 + 1, 0, none⟩) 2 2] (((((((w.alloc (.cells #[.int .i64 c, .slice A n k, .slice B m j] 24)).alloc (.cells #[.int .i64 d, .slice C n2 k2, .slice D m2 j2] 24)).alloc (.cells #[.int .i64 p1, .int .i64 p2, .int .i64 p3, .int .i64 p4] 28)).alloc (.cells #[.slice X1 x1 k1, .slice X2 x2 k2x, .slice X3 x3 k3, .slice X4 x4 k4] 36)).alloc (.cells #[.bool t, .slice F fm fd] 40)).alloc (.cells #[.int .i64 c, .slice A n k, .slice B m j, .int .i64 d, .slice C n2 k2, .slice D m2 j2] 24))) fun e w' => e = .returned (.bool true) ∧ Below (((((((w.alloc (.cells #[.int .i64 c, .slice A n k, .slice B m j] 24)).alloc (.cells #[.int .i64 d, .slice C n2 k2, .slice D m2 j2] 24)).alloc (.cells #[.int .i64 p1, .int .i64 p2, .int .i64 p3, .int .i64 p4] 28)).alloc (.cells #[.slice X1 x1 k1, .slice X2 x2 k2x, .slice X3 x3 k3, .slice X4 x4 k4] 36)).alloc (.cells #[.bool t, .slice F fm fd] 40)).alloc (.cells #[.int .i64 c, .slice A n k, .slice B m j, .int .i64 d, .slice C n2 k2, .slice D m2 j2] 24))).heap.size (((((((w.alloc (.cells #[.int .i64 c, .slice A n k, .slice B m j] 24)).alloc (.cells #[.int .i64 d, .slice C n2 k2, .slice D m2 j2] 24)).alloc (.cells #[.int .i64 p1, .int .i64 p2, .int .i64 p3, .int .i64 p4] 28)).alloc (.cells #[.slice X1 x1 k1, .slice X2 x2 k2x, .slice X3 x3 k3, .slice X4 x4 k4] 36)).alloc (.cells #[.bool t, .slice F fm fd] 40)).alloc (.cells #[.int .i64 c, .slice A n k, .slice B m j, .int .i64 d, .slice C n2 k2, .slice D m2 j2] 24))) w' from by have h := small3_any c A B n k m j d C D n2 k2 m2 j2 (w.heap.size + 1 + 1 + 1 + 1 + 1) (((((((w.alloc (.cells #[.int .i64 c, .slice A n k, .slice B m j] 24)).alloc (.cells #[.int .i64 d, .slice C n2 k2, .slice D m2 j2] 24)).alloc (.cells #[.int .i64 p1, .int .i64 p2, .int .i64 p3, .int .i64 p4] 28)).alloc (.cells #[.slice X1 x1 k1, .slice X2 x2 k2x, .slice X3 x3 k3, .slice X4 x4 k4] 36)).alloc (.cells #[.bool t, .slice F fm fd] 40)).alloc (.cells #[.int .i64 c, .slice A n k, .slice B m j, .int .i64 d, .slice C n2 k2, .slice D m2 j2] 24))) d5.out; rw [show (decide (n ≤ 40) && decide (m ≤ 40) && decide (n2 ≤ 40) && decide (m2 ≤ 40)) = true from hs] at h; exact h)
 have HC := Lib.hid hc; clear hc
 go_wp2_with fail
 refine HC.out.mono ?_
 rintro e z5 ⟨rfl, hb⟩
 clear HC
 have b8 := Lib.hid hb
 clear hb
 replace a1 := kH a1 b8
 obtain ⟨q5, q6, q7⟩ := at3 a1
 replace a2 := kH a2 b8
 obtain ⟨q8, q9, r0⟩ := at3 a2
 replace a3 := kH a3 b8
 obtain ⟨r1, r2, r3, r4⟩ := at4 a3
 replace a4 := kH a4 b8
 obtain ⟨r5, r6, r7, r8⟩ := at4 a4
 replace a5 := kH a5 b8
 obtain ⟨r9, s0⟩ := at2 a5
 replace a8 := rH a8 b8
 replace a9 := rH a9 b8
 replace b0 := rH b0 b8
 replace a6 := rH a6 b8
 have hc := Meets_any c A B n k m j ws ts d C D n2 k2 m2 j2 ws2 ts2 p1 p2 p3 p4 _ a8.out a9.out hn hm b0.out a6.out hn2 hm2
 rw [EM.out] at hc
 try dsimp only at hc
 have HC := Lib.hid hc; clear hc
 go_wp2_with fail
 refine HC.out.mono ?_
 rintro e z6 ⟨rfl, hb⟩
 clear HC
 clear q5 q6 q7 q8 q9 r0 r1 r2 r3 r4 r5 r6 r7 r8 r9 s0
 have b9 := Lib.hid hb
 clear hb
 replace a1 := kH a1 b9
 obtain ⟨s4, s5, s6⟩ := at3 a1
 replace a2 := kH a2 b9
 obtain ⟨s7, s8, s9⟩ := at3 a2
 replace a3 := kH a3 b9
 obtain ⟨t0, t1, t2, t3⟩ := at4 a3
 replace a4 := kH a4 b9
 obtain ⟨t4, t5, t6, t7⟩ := at4 a4
 replace a5 := kH a5 b9
 obtain ⟨t8, t9⟩ := at2 a5
 clear hw1 hw2 hw3 hs4
 replace a8 := rH a8 b9
 replace a9 := rH a9 b9
 replace b0 := rH b0 b9
 replace a6 := rH a6 b9
 replace c5 := iH (iH c5 b8) b9
 replace c6 := iH (iH c6 b8) b9
 replace c7 := iH (iH c7 b8) b9
 replace c8 := iH (iH c8 b8) b9
 have hc := CheckPlace_any c A B n k m j ws ts d C D n2 k2 m2 j2 ws2 ts2 p1 p2 p3 p4 _ a8.out a9.out hn hm b0.out a6.out hn2 hm2 X1 x1 k1 xa X2 x2 k2x xb X3 x3 k3 ya X4 x4 k4 yb c5.out hl0 c6.out hl1 c7.out hl2 c8.out hl3
 rw [EP.out] at hc
 try dsimp only at hc
 have HC := Lib.hid hc; clear hc
 go_wp2_with fail
 refine HC.out.mono ?_
 rintro e z7 ⟨rfl, hb⟩
 clear HC
 clear s4 s5 s6 s7 s8 s9 t0 t1 t2 t3 t4 t5 t6 t7 t8 t9
 have c0 := Lib.hid hb
 clear hb
 replace a1 := kH a1 c0
 obtain ⟨u0, u1, u2⟩ := at3 a1
 replace a2 := kH a2 c0
 obtain ⟨u3, u4, u5⟩ := at3 a2
 replace a3 := kH a3 c0
 obtain ⟨u6, u7, u8, u9⟩ := at4 a3
 replace a4 := kH a4 c0
 obtain ⟨v0, v1, v2, v3⟩ := at4 a4
 replace a5 := kH a5 c0
 obtain ⟨v4, v5⟩ := at2 a5
 replace a8 := rH a8 c0
 replace a9 := rH a9 c0
 replace b0 := rH b0 c0
 replace a6 := rH a6 c0
 replace c9 := iH (iH (iH c9 b8) b9) c0
 have hc := CheckClash_any c A B n k m j ws ts d C D n2 k2 m2 j2 ws2 ts2 p1 p2 p3 p4 _ a8.out a9.out hn hm b0.out a6.out hn2 hm2 t F fm fd x c9.out hfm
 rw [EC.out] at hc
 try dsimp only at hc
 have HC := Lib.hid hc; clear hc
 go_wp2_with fail
 refine HC.out.mono ?_
 rintro e z8 ⟨rfl, hb⟩
 clear HC
 clear u0 u1 u2 u3 u4 u5 u6 u7 u8 u9 v0 v1 v2 v3 v4 v5
 have c1 := Lib.hid hb
 clear hb
 replace a1 := kH a1 c1
 obtain ⟨v6, v7, v8⟩ := at3 a1
 replace a2 := kH a2 c1
 obtain ⟨v9, w0, w1⟩ := at3 a2
 replace a3 := kH a3 c1
 obtain ⟨w2, w3, w4, w5⟩ := at4 a3
 replace a4 := kH a4 c1
 obtain ⟨w6, d6, d7, d8⟩ := at4 a4
 replace a5 := kH a5 c1
 obtain ⟨d9, e0⟩ := at2 a5
 replace a8 := rH a8 c1
 replace a9 := rH a9 c1
 replace b0 := rH b0 c1
 replace a6 := rH a6 c1
 have hc := Place_any c A B n k m j ws ts d C D n2 k2 m2 j2 ws2 ts2 p1 p2 p3 p4 _ a8.out a9.out hn hm b0.out a6.out hn2 hm2 _ EL.out
 unfold RetPl at hc
 dsimp only at hc
 have hc := hc
 have HC := Lib.hid hc; clear hc
 go_wp2_with fail
 refine HC.out.mono ?_
 rintro e e5 ⟨B1, b1, e1, B2, b2, e2, B3, b3, e3, B4, b4, e4, rfl, ⟨hr1, hr2, hr3, hr4⟩, ⟨hb1, hb2, hb3, hb4⟩, hb⟩
 clear HC
 clear v6 v7 v8 v9 w0 w1 w2 w3 w4 w5 w6 d6 d7 d8 d9 e0
 have b5 := Lib.hid hb
 clear hb
 have d0 := Lib.hid (hr1)
 clear hr1
 have d1 := Lib.hid (hr2)
 clear hr2
 have d2 := Lib.hid (hr3)
 clear hr3
 have d3 := Lib.hid (hr4)
 clear hr4
 obtain ⟨o_, ho_⟩ : ∃ o, o = ((.cells #[.slice B1 b1 e1, .slice B2 b2 e2, .slice B3 b3 e3, .slice B4 b4 e4] 36) : Obj) := ⟨_, rfl⟩
 replace b6 := bA (bH (bH (bH (bH (bH b6 b8) b9) c0) c1) b5) o_
 replace a8 := rA (rH a8 b5) o_
 replace a9 := rA (rH a9 b5) o_
 replace b0 := rA (rH b0 b5) o_
 replace a6 := rA (rH a6 b5) o_
 replace c5 := iA (iH (iH (iH c5 c0) c1) b5) o_
 replace c6 := iA (iH (iH (iH c6 c0) c1) b5) o_
 replace c7 := iA (iH (iH (iH c7 c0) c1) b5) o_
 replace c8 := iA (iH (iH (iH c8 c0) c1) b5) o_
 replace c9 := iA (iH (iH c9 c1) b5) o_
 replace a1 := kA (kH a1 b5) o_
 replace a2 := kA (kH a2 b5) o_
 replace a3 := kA (kH a3 b5) o_
 replace a4 := kA (kH a4 b5) o_
 replace a5 := kA (kH a5 b5) o_
 replace d0 := iA d0 o_
 replace d1 := iA d1 o_
 replace d2 := iA d2 o_
 replace d3 := iA d3 o_
 subst ho_
 have a7 := Lib.hid (Blk.new e5 36 #[.slice B1 b1 e1, .slice B2 b2 e2, .slice B3 b3 e3, .slice B4 b4 e4])
 obtain ⟨e6, e7, e8⟩ := at3 a1
 obtain ⟨e9, f0, f1⟩ := at3 a2
 obtain ⟨f2, f3, f4, f5⟩ := at4 a3
 obtain ⟨f6, f7, f8, f9⟩ := at4 a4
 obtain ⟨g0, g1⟩ := at2 a5
 obtain ⟨g2, g3, g4, g5⟩ := at4 a7
 have hc := Clash_any c A B n k m j ws ts d C D n2 k2 m2 j2 ws2 ts2 p1 p2 p3 p4 _ a8.out a9.out hn hm b0.out a6.out hn2 hm2
 unfold RetFE at hc
 rw [ECL.out] at hc
 dsimp only at hc
 try simp only [Bool.not_true, Bool.not_false] at hc
 have hc := hc
 have HC := Lib.hid hc; clear hc
 go_wp2_with fail
 refine HC.out.mono ?_
 rintro e g6 ⟨Ac, nc, cc, rfl, hrc, hmc, hb⟩
 clear HC
 clear e6 e7 e8 e9 f0 f1 f2 f3 f4 f5 f6 f7 f8 f9 g0 g1 g2 g3 g4 g5
 have a0 := Lib.hid hb
 clear hb
 have d4 := Lib.hid (hrc)
 clear hrc
 obtain ⟨o_, ho_⟩ : ∃ o, o = ((.cells #[.bool tn, .slice Ac nc cc] 40) : Obj) := ⟨_, rfl⟩
 replace b6 := bA (bH b6 a0) o_
 replace a8 := rA (rH a8 a0) o_
 replace a9 := rA (rH a9 a0) o_
 replace b0 := rA (rH b0 a0) o_
 replace a6 := rA (rH a6 a0) o_
 replace c5 := iA (iH c5 a0) o_
 replace c6 := iA (iH c6 a0) o_
 replace c7 := iA (iH c7 a0) o_
 replace c8 := iA (iH c8 a0) o_
 replace c9 := iA (iH c9 a0) o_
 replace a1 := kA (kH a1 a0) o_
 replace a2 := kA (kH a2 a0) o_
 replace a3 := kA (kH a3 a0) o_
 replace a4 := kA (kH a4 a0) o_
 replace a5 := kA (kH a5 a0) o_
 replace d0 := iA (iH d0 a0) o_
 replace d1 := iA (iH d1 a0) o_
 replace d2 := iA (iH d2 a0) o_
 replace d3 := iA (iH d3 a0) o_
 replace a7 := kA (kH a7 a0) o_
 replace d4 := iA d4 o_
 subst ho_
 have c2 := Lib.hid (Blk.new g6 40 #[.bool tn, .slice Ac nc cc])
 obtain ⟨g7, g8, g9⟩ := at3 a1
 obtain ⟨h0, h5, h6⟩ := at3 a2
 obtain ⟨h7, h8, h9, i0⟩ := at4 a3
 obtain ⟨i1, i2, i3, i4⟩ := at4 a4
 obtain ⟨i5, i6⟩ := at2 a5
 obtain ⟨i7, i8, i9, j0⟩ := at4 a7
 obtain ⟨j1, j3⟩ := at2 c2
 have hc := CheckPlace_any c A B n k m j ws ts d C D n2 k2 m2 j2 ws2 ts2 p1 p2 p3 p4 _ a8.out a9.out hn hm b0.out a6.out hn2 hm2 B1 b1 e1 L1 B2 b2 e2 L2 B3 b3 e3 L3 B4 b4 e4 L4 d0.out (by unfold maxLen; omega) d1.out (by unfold maxLen; omega) d2.out (by unfold maxLen; omega) d3.out (by unfold maxLen; omega)
 rw [EP2.out] at hc
 try dsimp only at hc
 have HC := Lib.hid hc; clear hc
 go_wp2_with fail
 refine HC.out.mono ?_
 rintro e w7 ⟨rfl, hb⟩
 clear HC
 clear g7 g8 g9 h0 h5 h6 h7 h8 h9 i0 i1 i2 i3 i4 i5 i6 i7 i8 i9 j0 j1 j3
 have b7 := Lib.hid hb
 clear hb
 replace a1 := kH a1 b7
 obtain ⟨j4, j5, j6⟩ := at3 a1
 replace a2 := kH a2 b7
 obtain ⟨j7, j8, j9⟩ := at3 a2
 replace a3 := kH a3 b7
 obtain ⟨k0, k5, k6, k7⟩ := at4 a3
 replace a4 := kH a4 b7
 obtain ⟨k8, k9, l0, l1⟩ := at4 a4
 replace a5 := kH a5 b7
 obtain ⟨l2, l3⟩ := at2 a5
 replace a7 := kH a7 b7
 obtain ⟨l4, l5, l6, l7⟩ := at4 a7
 replace c2 := kH c2 b7
 obtain ⟨l8, l9⟩ := at2 c2
 replace a8 := rH a8 b7
 replace a9 := rH a9 b7
 replace b0 := rH b0 b7
 replace a6 := rH a6 b7
 replace d4 := iH d4 b7
 have hc := CheckClash_any c A B n k m j ws ts d C D n2 k2 m2 j2 ws2 ts2 p1 p2 p3 p4 _ a8.out a9.out hn hm b0.out a6.out hn2 hm2 tn Ac nc cc Z d4.out hmc
 rw [EC2.out] at hc
 try dsimp only at hc
 have HC := Lib.hid hc; clear hc
 go_wp2_with fail
 refine HC.out.mono ?_
 rintro e m0 ⟨rfl, hb⟩
 clear HC
 clear j4 j5 j6 j7 j8 j9 k0 k5 k6 k7 k8 k9 l0 l1 l2 l3 l4 l5 l6 l7 l8 l9
 have c3 := Lib.hid hb
 clear hb
 replace a1 := kH a1 c3
 obtain ⟨m1, m3, m4⟩ := at3 a1
 replace a2 := kH a2 c3
 obtain ⟨m5, m6, m7⟩ := at3 a2
 replace a3 := kH a3 c3
 obtain ⟨m8, m9, n0, n1⟩ := at4 a3
 replace a4 := kH a4 c3
 obtain ⟨n3, n4, n5, n6⟩ := at4 a4
 replace a5 := kH a5 c3
 obtain ⟨n7, n8⟩ := at2 a5
 replace a7 := kH a7 c3
 obtain ⟨n9, o0, o1, o2⟩ := at4 a7
 replace c2 := kH c2 c3
 obtain ⟨o3, o4⟩ := at2 c2
 have hc := joined_any (m0)
 have HC := Lib.hid hc; clear hc
 go_wp2_with fail
 refine HC.out.mono ?_
 rintro e w8 ⟨rfl, hb⟩
 clear HC
 clear m1 m3 m4 m5 m6 m7 m8 m9 n0 n1 n3 n4 n5 n6 n7 n8 n9 o0 o1 o2 o3 o4
 have c4 := Lib.hid hb
 clear hb
 replace a1 := kH a1 c4
 obtain ⟨w9, x0, x5⟩ := at3 a1
 replace a2 := kH a2 c4
 obtain ⟨x6, x7, x8⟩ := at3 a2
 replace a3 := kH a3 c4
 obtain ⟨x9, y0, y1, y2⟩ := at4 a3
 replace a4 := kH a4 c4
 obtain ⟨y3, y4, y5, y6⟩ := at4 a4
 replace a5 := kH a5 c4
 obtain ⟨y7, y8⟩ := at2 a5
 replace a7 := kH a7 c4
 obtain ⟨y9, z0, z1, z2⟩ := at4 a7
 replace c2 := kH c2 c4
 obtain ⟨z3, z4⟩ := at2 c2
 go_wp2
 go_ret
 replace b6 := bH (bH (bH b6 b7) c3) c4
 exact ⟨rfl, b6.out⟩
set_option maxRecDepth 100000 in
theorem xe_c (hl : ¬ (100 : Int) < fm) (s1 s2 s3 : Int) (hw1 : IntKind.i64.wrap ((x1 : Int) + (x2 : Int)) = s1) (hw2 : IntKind.i64.wrap (s1 + (x3 : Int)) = s2) (hw3 : IntKind.i64.wrap (s2 + (x4 : Int)) = s3) (hs : ¬ (100 : Int) < s3) (EM : Hid (meetsV ⟨c, ws, ts⟩ ⟨d, ws2, ts2⟩ ⟨p1, p2, p3, p4⟩ = (false, 0))) (EP : Hid (checkPlaceV ⟨c, ws, ts⟩ ⟨d, ws2, ts2⟩ ⟨p1, p2, p3, p4⟩ xa xb ya yb = (false, 0))) (EC : Hid (checkClashV t ⟨c, ws, ts⟩ ⟨d, ws2, ts2⟩ ⟨p1, p2, p3, p4⟩ x = (true, 0))) (L1 L2 L3 L4 Z : List Int) (tn : Bool) (EL : Hid (placeV ⟨c, ws, ts⟩ ⟨d, ws2, ts2⟩ ⟨p1, p2, p3, p4⟩ = (false, 0, L1, L2, L3, L4))) (ECL : Hid (clashV ⟨c, ws, ts⟩ ⟨d, ws2, ts2⟩ ⟨p1, p2, p3, p4⟩ = ((Z, tn, true), 0))) (EP2 : Hid (checkPlaceV ⟨c, ws, ts⟩ ⟨d, ws2, ts2⟩ ⟨p1, p2, p3, p4⟩ L1 L2 L3 L4 = (false, 0))) (EC2 : Hid (checkClashV tn ⟨c, ws, ts⟩ ⟨d, ws2, ts2⟩ ⟨p1, p2, p3, p4⟩ Z = (true, 0))) : Calls Tryz.prog 7 #[.agg #[.int .i64 c, .slice A n k, .slice B m j], .agg #[.int .i64 d, .slice C n2 k2, .slice D m2 j2], .agg #[.int .i64 p1, .int .i64 p2, .int .i64 p3, .int .i64 p4], .agg #[.slice X1 x1 k1, .slice X2 x2 k2x, .slice X3 x3 k3, .slice X4 x4 k4], .agg #[.bool t, .slice F fm fd]] w fun e w' => e = .returned (.bool true) ∧ Below w.heap.size w w' := by
 have hs4 := hs; clear hs; have hs := hs0; clear hs0
 go_enter Tryz.func7, Tryz.ntmps7
 obtain ⟨a1, a2, a3, a4, a5, b6⟩ := ent5 w #[.int .i64 c, .slice A n k, .slice B m j] 24 #[.int .i64 d, .slice C n2 k2, .slice D m2 j2] 24 #[.int .i64 p1, .int .i64 p2, .int .i64 p3, .int .i64 p4] 28 #[.slice X1 x1 k1, .slice X2 x2 k2x, .slice X3 x3 k3, .slice X4 x4 k4] 36 #[.bool t, .slice F fm fd] 40
 have a8 := rI h1 b6
 have a9 := rI h2 b6
 have b0 := rI h3 b6
 have a6 := rI h4 b6
 have c5 := iI hx0 b6
 have c6 := iI hx1 b6
 have c7 := iI hx2 b6
 have c8 := iI hx3 b6
 have c9 := iI hf b6
 clear h1 h2 h3 h4 hx0 hx1 hx2 hx3 hf
 obtain ⟨o5, o6, o7⟩ := at3 a1
 obtain ⟨o8, o9, p0⟩ := at3 a2
 obtain ⟨p5, p6, p7, p8⟩ := at4 a3
 obtain ⟨p9, q0, q1, q2⟩ := at4 a4
 obtain ⟨q3, q4⟩ := at2 a5
 clear o5 o6 o7 o8 o9 p0 p5 p6 p7 p8 p9 q0 q1 q2 q3 q4
 obtain ⟨o_, ho_⟩ : ∃ o, o = ((.cells #[.int .i64 c, .slice A n k, .slice B m j, .int .i64 d, .slice C n2 k2, .slice D m2 j2] 24) : Obj) := ⟨_, rfl⟩
 replace b6 := bA b6 o_
 replace a8 := rA a8 o_
 replace a9 := rA a9 o_
 replace b0 := rA b0 o_
 replace a6 := rA a6 o_
 replace c5 := iA c5 o_
 replace c6 := iA c6 o_
 replace c7 := iA c7 o_
 replace c8 := iA c8 o_
 replace c9 := iA c9 o_
 replace a1 := kA a1 o_
 replace a2 := kA a2 o_
 replace a3 := kA a3 o_
 replace a4 := kA a4 o_
 replace a5 := kA a5 o_
 subst ho_
 have nb_ := Blk.new (((((w.alloc (.cells #[.int .i64 c, .slice A n k, .slice B m j] 24)).alloc (.cells #[.int .i64 d, .slice C n2 k2, .slice D m2 j2] 24)).alloc (.cells #[.int .i64 p1, .int .i64 p2, .int .i64 p3, .int .i64 p4] 28)).alloc (.cells #[.slice X1 x1 k1, .slice X2 x2 k2x, .slice X3 x3 k3, .slice X4 x4 k4] 36)).alloc (.cells #[.bool t, .slice F fm fd] 40)) 24 #[.int .i64 c, .slice A n k, .slice B m j, .int .i64 d, .slice C n2 k2, .slice D m2 j2]
 simp only [World.size_alloc] at nb_
 have d5 := Lib.hid nb_; clear nb_
 have hc := (show Calls Tryz.prog 8 #[.slice (some ⟨w.heap.size + 1 + 1 + 1 + 1 + 1, 0, none⟩) 2 2] (((((((w.alloc (.cells #[.int .i64 c, .slice A n k, .slice B m j] 24)).alloc (.cells #[.int .i64 d, .slice C n2 k2, .slice D m2 j2] 24)).alloc (.cells #[.int .i64 p1, .int .i64 p2, .int .i64 p3, .int .i64 p4] 28)).alloc (.cells #[.slice X1 x1 k1, .slice X2 x2 k2x, .slice X3 x3 k3, .slice X4 x4 k4] 36)).alloc (.cells #[.bool t, .slice F fm fd] 40)).alloc (.cells #[.int .i64 c, .slice A n k, .slice B m j, .int .i64 d, .slice C n2 k2, .slice D m2 j2] 24))) fun e w' => e = .returned (.bool true) ∧ Below (((((((w.alloc (.cells #[.int .i64 c, .slice A n k, .slice B m j] 24)).alloc (.cells #[.int .i64 d, .slice C n2 k2, .slice D m2 j2] 24)).alloc (.cells #[.int .i64 p1, .int .i64 p2, .int .i64 p3, .int .i64 p4] 28)).alloc (.cells #[.slice X1 x1 k1, .slice X2 x2 k2x, .slice X3 x3 k3, .slice X4 x4 k4] 36)).alloc (.cells #[.bool t, .slice F fm fd] 40)).alloc (.cells #[.int .i64 c, .slice A n k, .slice B m j, .int .i64 d, .slice C n2 k2, .slice D m2 j2] 24))).heap.size (((((((w.alloc (.cells #[.int .i64 c, .slice A n k, .slice B m j] 24)).alloc (.cells #[.int .i64 d, .slice C n2 k2, .slice D m2 j2] 24)).alloc (.cells #[.int .i64 p1, .int .i64 p2, .int .i64 p3, .int .i64 p4] 28)).alloc (.cells #[.slice X1 x1 k1, .slice X2 x2 k2x, .slice X3 x3 k3, .slice X4 x4 k4] 36)).alloc (.cells #[.bool t, .slice F fm fd] 40)).alloc (.cells #[.int .i64 c, .slice A n k, .slice B m j, .int .i64 d, .slice C n2 k2, .slice D m2 j2] 24))) w' from by have h := small3_any c A B n k m j d C D n2 k2 m2 j2 (w.heap.size + 1 + 1 + 1 + 1 + 1) (((((((w.alloc (.cells #[.int .i64 c, .slice A n k, .slice B m j] 24)).alloc (.cells #[.int .i64 d, .slice C n2 k2, .slice D m2 j2] 24)).alloc (.cells #[.int .i64 p1, .int .i64 p2, .int .i64 p3, .int .i64 p4] 28)).alloc (.cells #[.slice X1 x1 k1, .slice X2 x2 k2x, .slice X3 x3 k3, .slice X4 x4 k4] 36)).alloc (.cells #[.bool t, .slice F fm fd] 40)).alloc (.cells #[.int .i64 c, .slice A n k, .slice B m j, .int .i64 d, .slice C n2 k2, .slice D m2 j2] 24))) d5.out; rw [show (decide (n ≤ 40) && decide (m ≤ 40) && decide (n2 ≤ 40) && decide (m2 ≤ 40)) = true from hs] at h; exact h)
 have HC := Lib.hid hc; clear hc
 go_wp2_with fail
 refine HC.out.mono ?_
 rintro e z5 ⟨rfl, hb⟩
 clear HC
 have b8 := Lib.hid hb
 clear hb
 replace a1 := kH a1 b8
 obtain ⟨q5, q6, q7⟩ := at3 a1
 replace a2 := kH a2 b8
 obtain ⟨q8, q9, r0⟩ := at3 a2
 replace a3 := kH a3 b8
 obtain ⟨r1, r2, r3, r4⟩ := at4 a3
 replace a4 := kH a4 b8
 obtain ⟨r5, r6, r7, r8⟩ := at4 a4
 replace a5 := kH a5 b8
 obtain ⟨r9, s0⟩ := at2 a5
 replace a8 := rH a8 b8
 replace a9 := rH a9 b8
 replace b0 := rH b0 b8
 replace a6 := rH a6 b8
 have hc := Meets_any c A B n k m j ws ts d C D n2 k2 m2 j2 ws2 ts2 p1 p2 p3 p4 _ a8.out a9.out hn hm b0.out a6.out hn2 hm2
 rw [EM.out] at hc
 try dsimp only at hc
 have HC := Lib.hid hc; clear hc
 go_wp2_with fail
 refine HC.out.mono ?_
 rintro e z6 ⟨rfl, hb⟩
 clear HC
 clear q5 q6 q7 q8 q9 r0 r1 r2 r3 r4 r5 r6 r7 r8 r9 s0
 have b9 := Lib.hid hb
 clear hb
 replace a1 := kH a1 b9
 obtain ⟨s4, s5, s6⟩ := at3 a1
 replace a2 := kH a2 b9
 obtain ⟨s7, s8, s9⟩ := at3 a2
 replace a3 := kH a3 b9
 obtain ⟨t0, t1, t2, t3⟩ := at4 a3
 replace a4 := kH a4 b9
 obtain ⟨t4, t5, t6, t7⟩ := at4 a4
 replace a5 := kH a5 b9
 obtain ⟨t8, t9⟩ := at2 a5
 clear hw1 hw2 hw3 hs4
 replace a8 := rH a8 b9
 replace a9 := rH a9 b9
 replace b0 := rH b0 b9
 replace a6 := rH a6 b9
 replace c5 := iH (iH c5 b8) b9
 replace c6 := iH (iH c6 b8) b9
 replace c7 := iH (iH c7 b8) b9
 replace c8 := iH (iH c8 b8) b9
 have hc := CheckPlace_any c A B n k m j ws ts d C D n2 k2 m2 j2 ws2 ts2 p1 p2 p3 p4 _ a8.out a9.out hn hm b0.out a6.out hn2 hm2 X1 x1 k1 xa X2 x2 k2x xb X3 x3 k3 ya X4 x4 k4 yb c5.out hl0 c6.out hl1 c7.out hl2 c8.out hl3
 rw [EP.out] at hc
 try dsimp only at hc
 have HC := Lib.hid hc; clear hc
 go_wp2_with fail
 refine HC.out.mono ?_
 rintro e z7 ⟨rfl, hb⟩
 clear HC
 clear s4 s5 s6 s7 s8 s9 t0 t1 t2 t3 t4 t5 t6 t7 t8 t9
 have c0 := Lib.hid hb
 clear hb
 replace a1 := kH a1 c0
 obtain ⟨u0, u1, u2⟩ := at3 a1
 replace a2 := kH a2 c0
 obtain ⟨u3, u4, u5⟩ := at3 a2
 replace a3 := kH a3 c0
 obtain ⟨u6, u7, u8, u9⟩ := at4 a3
 replace a4 := kH a4 c0
 obtain ⟨v0, v1, v2, v3⟩ := at4 a4
 replace a5 := kH a5 c0
 obtain ⟨v4, v5⟩ := at2 a5
 replace a8 := rH a8 c0
 replace a9 := rH a9 c0
 replace b0 := rH b0 c0
 replace a6 := rH a6 c0
 replace c9 := iH (iH (iH c9 b8) b9) c0
 have hc := CheckClash_any c A B n k m j ws ts d C D n2 k2 m2 j2 ws2 ts2 p1 p2 p3 p4 _ a8.out a9.out hn hm b0.out a6.out hn2 hm2 t F fm fd x c9.out hfm
 rw [EC.out] at hc
 try dsimp only at hc
 have HC := Lib.hid hc; clear hc
 go_wp2_with fail
 refine HC.out.mono ?_
 rintro e z8 ⟨rfl, hb⟩
 clear HC
 clear u0 u1 u2 u3 u4 u5 u6 u7 u8 u9 v0 v1 v2 v3 v4 v5
 have c1 := Lib.hid hb
 clear hb
 replace a1 := kH a1 c1
 obtain ⟨v6, v7, v8⟩ := at3 a1
 replace a2 := kH a2 c1
 obtain ⟨v9, w0, w1⟩ := at3 a2
 replace a3 := kH a3 c1
 obtain ⟨w2, w3, w4, w5⟩ := at4 a3
 replace a4 := kH a4 c1
 obtain ⟨w6, d6, d7, d8⟩ := at4 a4
 replace a5 := kH a5 c1
 obtain ⟨d9, e0⟩ := at2 a5
 replace a8 := rH a8 c1
 replace a9 := rH a9 c1
 replace b0 := rH b0 c1
 replace a6 := rH a6 c1
 have hc := Place_any c A B n k m j ws ts d C D n2 k2 m2 j2 ws2 ts2 p1 p2 p3 p4 _ a8.out a9.out hn hm b0.out a6.out hn2 hm2 _ EL.out
 unfold RetPl at hc
 dsimp only at hc
 have hc := hc
 have HC := Lib.hid hc; clear hc
 go_wp2_with fail
 refine HC.out.mono ?_
 rintro e e5 ⟨B1, b1, e1, B2, b2, e2, B3, b3, e3, B4, b4, e4, rfl, ⟨hr1, hr2, hr3, hr4⟩, ⟨hb1, hb2, hb3, hb4⟩, hb⟩
 clear HC
 clear v6 v7 v8 v9 w0 w1 w2 w3 w4 w5 w6 d6 d7 d8 d9 e0
 have b5 := Lib.hid hb
 clear hb
 have d0 := Lib.hid (hr1)
 clear hr1
 have d1 := Lib.hid (hr2)
 clear hr2
 have d2 := Lib.hid (hr3)
 clear hr3
 have d3 := Lib.hid (hr4)
 clear hr4
 obtain ⟨o_, ho_⟩ : ∃ o, o = ((.cells #[.slice B1 b1 e1, .slice B2 b2 e2, .slice B3 b3 e3, .slice B4 b4 e4] 36) : Obj) := ⟨_, rfl⟩
 replace b6 := bA (bH (bH (bH (bH (bH b6 b8) b9) c0) c1) b5) o_
 replace a8 := rA (rH a8 b5) o_
 replace a9 := rA (rH a9 b5) o_
 replace b0 := rA (rH b0 b5) o_
 replace a6 := rA (rH a6 b5) o_
 replace c5 := iA (iH (iH (iH c5 c0) c1) b5) o_
 replace c6 := iA (iH (iH (iH c6 c0) c1) b5) o_
 replace c7 := iA (iH (iH (iH c7 c0) c1) b5) o_
 replace c8 := iA (iH (iH (iH c8 c0) c1) b5) o_
 replace c9 := iA (iH (iH c9 c1) b5) o_
 replace a1 := kA (kH a1 b5) o_
 replace a2 := kA (kH a2 b5) o_
 replace a3 := kA (kH a3 b5) o_
 replace a4 := kA (kH a4 b5) o_
 replace a5 := kA (kH a5 b5) o_
 replace d0 := iA d0 o_
 replace d1 := iA d1 o_
 replace d2 := iA d2 o_
 replace d3 := iA d3 o_
 subst ho_
 have a7 := Lib.hid (Blk.new e5 36 #[.slice B1 b1 e1, .slice B2 b2 e2, .slice B3 b3 e3, .slice B4 b4 e4])
 obtain ⟨e6, e7, e8⟩ := at3 a1
 obtain ⟨e9, f0, f1⟩ := at3 a2
 obtain ⟨f2, f3, f4, f5⟩ := at4 a3
 obtain ⟨f6, f7, f8, f9⟩ := at4 a4
 obtain ⟨g0, g1⟩ := at2 a5
 obtain ⟨g2, g3, g4, g5⟩ := at4 a7
 have hc := Clash_any c A B n k m j ws ts d C D n2 k2 m2 j2 ws2 ts2 p1 p2 p3 p4 _ a8.out a9.out hn hm b0.out a6.out hn2 hm2
 unfold RetFE at hc
 rw [ECL.out] at hc
 dsimp only at hc
 try simp only [Bool.not_true, Bool.not_false] at hc
 have hc := hc
 have HC := Lib.hid hc; clear hc
 go_wp2_with fail
 refine HC.out.mono ?_
 rintro e g6 ⟨Ac, nc, cc, rfl, hrc, hmc, hb⟩
 clear HC
 clear e6 e7 e8 e9 f0 f1 f2 f3 f4 f5 f6 f7 f8 f9 g0 g1 g2 g3 g4 g5
 have a0 := Lib.hid hb
 clear hb
 have d4 := Lib.hid (hrc)
 clear hrc
 obtain ⟨o_, ho_⟩ : ∃ o, o = ((.cells #[.bool tn, .slice Ac nc cc] 40) : Obj) := ⟨_, rfl⟩
 replace b6 := bA (bH b6 a0) o_
 replace a8 := rA (rH a8 a0) o_
 replace a9 := rA (rH a9 a0) o_
 replace b0 := rA (rH b0 a0) o_
 replace a6 := rA (rH a6 a0) o_
 replace c5 := iA (iH c5 a0) o_
 replace c6 := iA (iH c6 a0) o_
 replace c7 := iA (iH c7 a0) o_
 replace c8 := iA (iH c8 a0) o_
 replace c9 := iA (iH c9 a0) o_
 replace a1 := kA (kH a1 a0) o_
 replace a2 := kA (kH a2 a0) o_
 replace a3 := kA (kH a3 a0) o_
 replace a4 := kA (kH a4 a0) o_
 replace a5 := kA (kH a5 a0) o_
 replace d0 := iA (iH d0 a0) o_
 replace d1 := iA (iH d1 a0) o_
 replace d2 := iA (iH d2 a0) o_
 replace d3 := iA (iH d3 a0) o_
 replace a7 := kA (kH a7 a0) o_
 replace d4 := iA d4 o_
 subst ho_
 have c2 := Lib.hid (Blk.new g6 40 #[.bool tn, .slice Ac nc cc])
 obtain ⟨g7, g8, g9⟩ := at3 a1
 obtain ⟨h0, h5, h6⟩ := at3 a2
 obtain ⟨h7, h8, h9, i0⟩ := at4 a3
 obtain ⟨i1, i2, i3, i4⟩ := at4 a4
 obtain ⟨i5, i6⟩ := at2 a5
 obtain ⟨i7, i8, i9, j0⟩ := at4 a7
 obtain ⟨j1, j3⟩ := at2 c2
 have hc := CheckPlace_any c A B n k m j ws ts d C D n2 k2 m2 j2 ws2 ts2 p1 p2 p3 p4 _ a8.out a9.out hn hm b0.out a6.out hn2 hm2 B1 b1 e1 L1 B2 b2 e2 L2 B3 b3 e3 L3 B4 b4 e4 L4 d0.out (by unfold maxLen; omega) d1.out (by unfold maxLen; omega) d2.out (by unfold maxLen; omega) d3.out (by unfold maxLen; omega)
 rw [EP2.out] at hc
 try dsimp only at hc
 have HC := Lib.hid hc; clear hc
 go_wp2_with fail
 refine HC.out.mono ?_
 rintro e w7 ⟨rfl, hb⟩
 clear HC
 clear g7 g8 g9 h0 h5 h6 h7 h8 h9 i0 i1 i2 i3 i4 i5 i6 i7 i8 i9 j0 j1 j3
 have b7 := Lib.hid hb
 clear hb
 replace a1 := kH a1 b7
 obtain ⟨j4, j5, j6⟩ := at3 a1
 replace a2 := kH a2 b7
 obtain ⟨j7, j8, j9⟩ := at3 a2
 replace a3 := kH a3 b7
 obtain ⟨k0, k5, k6, k7⟩ := at4 a3
 replace a4 := kH a4 b7
 obtain ⟨k8, k9, l0, l1⟩ := at4 a4
 replace a5 := kH a5 b7
 obtain ⟨l2, l3⟩ := at2 a5
 replace a7 := kH a7 b7
 obtain ⟨l4, l5, l6, l7⟩ := at4 a7
 replace c2 := kH c2 b7
 obtain ⟨l8, l9⟩ := at2 c2
 replace a8 := rH a8 b7
 replace a9 := rH a9 b7
 replace b0 := rH b0 b7
 replace a6 := rH a6 b7
 replace d4 := iH d4 b7
 have hc := CheckClash_any c A B n k m j ws ts d C D n2 k2 m2 j2 ws2 ts2 p1 p2 p3 p4 _ a8.out a9.out hn hm b0.out a6.out hn2 hm2 tn Ac nc cc Z d4.out hmc
 rw [EC2.out] at hc
 try dsimp only at hc
 have HC := Lib.hid hc; clear hc
 go_wp2_with fail
 refine HC.out.mono ?_
 rintro e m0 ⟨rfl, hb⟩
 clear HC
 clear j4 j5 j6 j7 j8 j9 k0 k5 k6 k7 k8 k9 l0 l1 l2 l3 l4 l5 l6 l7 l8 l9
 have c3 := Lib.hid hb
 clear hb
 replace a1 := kH a1 c3
 obtain ⟨m1, m3, m4⟩ := at3 a1
 replace a2 := kH a2 c3
 obtain ⟨m5, m6, m7⟩ := at3 a2
 replace a3 := kH a3 c3
 obtain ⟨m8, m9, n0, n1⟩ := at4 a3
 replace a4 := kH a4 c3
 obtain ⟨n3, n4, n5, n6⟩ := at4 a4
 replace a5 := kH a5 c3
 obtain ⟨n7, n8⟩ := at2 a5
 replace a7 := kH a7 c3
 obtain ⟨n9, o0, o1, o2⟩ := at4 a7
 replace c2 := kH c2 c3
 obtain ⟨o3, o4⟩ := at2 c2
 have hc := joined_any (m0)
 have HC := Lib.hid hc; clear hc
 go_wp2_with fail
 refine HC.out.mono ?_
 rintro e w8 ⟨rfl, hb⟩
 clear HC
 clear m1 m3 m4 m5 m6 m7 m8 m9 n0 n1 n3 n4 n5 n6 n7 n8 n9 o0 o1 o2 o3 o4
 have c4 := Lib.hid hb
 clear hb
 replace a1 := kH a1 c4
 obtain ⟨w9, x0, x5⟩ := at3 a1
 replace a2 := kH a2 c4
 obtain ⟨x6, x7, x8⟩ := at3 a2
 replace a3 := kH a3 c4
 obtain ⟨x9, y0, y1, y2⟩ := at4 a3
 replace a4 := kH a4 c4
 obtain ⟨y3, y4, y5, y6⟩ := at4 a4
 replace a5 := kH a5 c4
 obtain ⟨y7, y8⟩ := at2 a5
 replace a7 := kH a7 c4
 obtain ⟨y9, z0, z1, z2⟩ := at4 a7
 replace c2 := kH c2 c4
 obtain ⟨z3, z4⟩ := at2 c2
 go_wp2
 go_ret
 replace b6 := bH (bH (bH b6 b7) c3) c4
 exact ⟨rfl, b6.out⟩
set_option maxRecDepth 100000 in
theorem xe_d (hl : ¬ (100 : Int) < fm) (s1 s2 s3 : Int) (hw1 : IntKind.i64.wrap ((x1 : Int) + (x2 : Int)) = s1) (hw2 : IntKind.i64.wrap (s1 + (x3 : Int)) = s2) (hw3 : IntKind.i64.wrap (s2 + (x4 : Int)) = s3) (hs : ¬ (100 : Int) < s3) (EM : Hid (meetsV ⟨c, ws, ts⟩ ⟨d, ws2, ts2⟩ ⟨p1, p2, p3, p4⟩ = (false, 0))) (EP : Hid (checkPlaceV ⟨c, ws, ts⟩ ⟨d, ws2, ts2⟩ ⟨p1, p2, p3, p4⟩ xa xb ya yb = (false, 0))) (EC : Hid (checkClashV t ⟨c, ws, ts⟩ ⟨d, ws2, ts2⟩ ⟨p1, p2, p3, p4⟩ x = (false, 0))) (L1 L2 L3 L4 Z : List Int) (tn : Bool) (EL : Hid (placeV ⟨c, ws, ts⟩ ⟨d, ws2, ts2⟩ ⟨p1, p2, p3, p4⟩ = (false, 0, L1, L2, L3, L4))) (ECL : Hid (clashV ⟨c, ws, ts⟩ ⟨d, ws2, ts2⟩ ⟨p1, p2, p3, p4⟩ = ((Z, tn, true), 0))) (EP2 : Hid (checkPlaceV ⟨c, ws, ts⟩ ⟨d, ws2, ts2⟩ ⟨p1, p2, p3, p4⟩ L1 L2 L3 L4 = (false, 0))) (EC2 : Hid (checkClashV tn ⟨c, ws, ts⟩ ⟨d, ws2, ts2⟩ ⟨p1, p2, p3, p4⟩ Z = (true, 0))) : Calls Tryz.prog 7 #[.agg #[.int .i64 c, .slice A n k, .slice B m j], .agg #[.int .i64 d, .slice C n2 k2, .slice D m2 j2], .agg #[.int .i64 p1, .int .i64 p2, .int .i64 p3, .int .i64 p4], .agg #[.slice X1 x1 k1, .slice X2 x2 k2x, .slice X3 x3 k3, .slice X4 x4 k4], .agg #[.bool t, .slice F fm fd]] w fun e w' => e = .returned (.bool true) ∧ Below w.heap.size w w' := by
 have hs4 := hs; clear hs; have hs := hs0; clear hs0
 go_enter Tryz.func7, Tryz.ntmps7
 obtain ⟨a1, a2, a3, a4, a5, b6⟩ := ent5 w #[.int .i64 c, .slice A n k, .slice B m j] 24 #[.int .i64 d, .slice C n2 k2, .slice D m2 j2] 24 #[.int .i64 p1, .int .i64 p2, .int .i64 p3, .int .i64 p4] 28 #[.slice X1 x1 k1, .slice X2 x2 k2x, .slice X3 x3 k3, .slice X4 x4 k4] 36 #[.bool t, .slice F fm fd] 40
 have a8 := rI h1 b6
 have a9 := rI h2 b6
 have b0 := rI h3 b6
 have a6 := rI h4 b6
 have c5 := iI hx0 b6
 have c6 := iI hx1 b6
 have c7 := iI hx2 b6
 have c8 := iI hx3 b6
 have c9 := iI hf b6
 clear h1 h2 h3 h4 hx0 hx1 hx2 hx3 hf
 obtain ⟨o5, o6, o7⟩ := at3 a1
 obtain ⟨o8, o9, p0⟩ := at3 a2
 obtain ⟨p5, p6, p7, p8⟩ := at4 a3
 obtain ⟨p9, q0, q1, q2⟩ := at4 a4
 obtain ⟨q3, q4⟩ := at2 a5
 clear o5 o6 o7 o8 o9 p0 p5 p6 p7 p8 p9 q0 q1 q2 q3 q4
 obtain ⟨o_, ho_⟩ : ∃ o, o = ((.cells #[.int .i64 c, .slice A n k, .slice B m j, .int .i64 d, .slice C n2 k2, .slice D m2 j2] 24) : Obj) := ⟨_, rfl⟩
 replace b6 := bA b6 o_
 replace a8 := rA a8 o_
 replace a9 := rA a9 o_
 replace b0 := rA b0 o_
 replace a6 := rA a6 o_
 replace c5 := iA c5 o_
 replace c6 := iA c6 o_
 replace c7 := iA c7 o_
 replace c8 := iA c8 o_
 replace c9 := iA c9 o_
 replace a1 := kA a1 o_
 replace a2 := kA a2 o_
 replace a3 := kA a3 o_
 replace a4 := kA a4 o_
 replace a5 := kA a5 o_
 subst ho_
 have nb_ := Blk.new (((((w.alloc (.cells #[.int .i64 c, .slice A n k, .slice B m j] 24)).alloc (.cells #[.int .i64 d, .slice C n2 k2, .slice D m2 j2] 24)).alloc (.cells #[.int .i64 p1, .int .i64 p2, .int .i64 p3, .int .i64 p4] 28)).alloc (.cells #[.slice X1 x1 k1, .slice X2 x2 k2x, .slice X3 x3 k3, .slice X4 x4 k4] 36)).alloc (.cells #[.bool t, .slice F fm fd] 40)) 24 #[.int .i64 c, .slice A n k, .slice B m j, .int .i64 d, .slice C n2 k2, .slice D m2 j2]
 simp only [World.size_alloc] at nb_
 have d5 := Lib.hid nb_; clear nb_
 have hc := (show Calls Tryz.prog 8 #[.slice (some ⟨w.heap.size + 1 + 1 + 1 + 1 + 1, 0, none⟩) 2 2] (((((((w.alloc (.cells #[.int .i64 c, .slice A n k, .slice B m j] 24)).alloc (.cells #[.int .i64 d, .slice C n2 k2, .slice D m2 j2] 24)).alloc (.cells #[.int .i64 p1, .int .i64 p2, .int .i64 p3, .int .i64 p4] 28)).alloc (.cells #[.slice X1 x1 k1, .slice X2 x2 k2x, .slice X3 x3 k3, .slice X4 x4 k4] 36)).alloc (.cells #[.bool t, .slice F fm fd] 40)).alloc (.cells #[.int .i64 c, .slice A n k, .slice B m j, .int .i64 d, .slice C n2 k2, .slice D m2 j2] 24))) fun e w' => e = .returned (.bool true) ∧ Below (((((((w.alloc (.cells #[.int .i64 c, .slice A n k, .slice B m j] 24)).alloc (.cells #[.int .i64 d, .slice C n2 k2, .slice D m2 j2] 24)).alloc (.cells #[.int .i64 p1, .int .i64 p2, .int .i64 p3, .int .i64 p4] 28)).alloc (.cells #[.slice X1 x1 k1, .slice X2 x2 k2x, .slice X3 x3 k3, .slice X4 x4 k4] 36)).alloc (.cells #[.bool t, .slice F fm fd] 40)).alloc (.cells #[.int .i64 c, .slice A n k, .slice B m j, .int .i64 d, .slice C n2 k2, .slice D m2 j2] 24))).heap.size (((((((w.alloc (.cells #[.int .i64 c, .slice A n k, .slice B m j] 24)).alloc (.cells #[.int .i64 d, .slice C n2 k2, .slice D m2 j2] 24)).alloc (.cells #[.int .i64 p1, .int .i64 p2, .int .i64 p3, .int .i64 p4] 28)).alloc (.cells #[.slice X1 x1 k1, .slice X2 x2 k2x, .slice X3 x3 k3, .slice X4 x4 k4] 36)).alloc (.cells #[.bool t, .slice F fm fd] 40)).alloc (.cells #[.int .i64 c, .slice A n k, .slice B m j, .int .i64 d, .slice C n2 k2, .slice D m2 j2] 24))) w' from by have h := small3_any c A B n k m j d C D n2 k2 m2 j2 (w.heap.size + 1 + 1 + 1 + 1 + 1) (((((((w.alloc (.cells #[.int .i64 c, .slice A n k, .slice B m j] 24)).alloc (.cells #[.int .i64 d, .slice C n2 k2, .slice D m2 j2] 24)).alloc (.cells #[.int .i64 p1, .int .i64 p2, .int .i64 p3, .int .i64 p4] 28)).alloc (.cells #[.slice X1 x1 k1, .slice X2 x2 k2x, .slice X3 x3 k3, .slice X4 x4 k4] 36)).alloc (.cells #[.bool t, .slice F fm fd] 40)).alloc (.cells #[.int .i64 c, .slice A n k, .slice B m j, .int .i64 d, .slice C n2 k2, .slice D m2 j2] 24))) d5.out; rw [show (decide (n ≤ 40) && decide (m ≤ 40) && decide (n2 ≤ 40) && decide (m2 ≤ 40)) = true from hs] at h; exact h)
 have HC := Lib.hid hc; clear hc
 go_wp2_with fail
 refine HC.out.mono ?_
 rintro e z5 ⟨rfl, hb⟩
 clear HC
 have b8 := Lib.hid hb
 clear hb
 replace a1 := kH a1 b8
 obtain ⟨q5, q6, q7⟩ := at3 a1
 replace a2 := kH a2 b8
 obtain ⟨q8, q9, r0⟩ := at3 a2
 replace a3 := kH a3 b8
 obtain ⟨r1, r2, r3, r4⟩ := at4 a3
 replace a4 := kH a4 b8
 obtain ⟨r5, r6, r7, r8⟩ := at4 a4
 replace a5 := kH a5 b8
 obtain ⟨r9, s0⟩ := at2 a5
 replace a8 := rH a8 b8
 replace a9 := rH a9 b8
 replace b0 := rH b0 b8
 replace a6 := rH a6 b8
 have hc := Meets_any c A B n k m j ws ts d C D n2 k2 m2 j2 ws2 ts2 p1 p2 p3 p4 _ a8.out a9.out hn hm b0.out a6.out hn2 hm2
 rw [EM.out] at hc
 try dsimp only at hc
 have HC := Lib.hid hc; clear hc
 go_wp2_with fail
 refine HC.out.mono ?_
 rintro e z6 ⟨rfl, hb⟩
 clear HC
 clear q5 q6 q7 q8 q9 r0 r1 r2 r3 r4 r5 r6 r7 r8 r9 s0
 have b9 := Lib.hid hb
 clear hb
 replace a1 := kH a1 b9
 obtain ⟨s4, s5, s6⟩ := at3 a1
 replace a2 := kH a2 b9
 obtain ⟨s7, s8, s9⟩ := at3 a2
 replace a3 := kH a3 b9
 obtain ⟨t0, t1, t2, t3⟩ := at4 a3
 replace a4 := kH a4 b9
 obtain ⟨t4, t5, t6, t7⟩ := at4 a4
 replace a5 := kH a5 b9
 obtain ⟨t8, t9⟩ := at2 a5
 clear hw1 hw2 hw3 hs4
 replace a8 := rH a8 b9
 replace a9 := rH a9 b9
 replace b0 := rH b0 b9
 replace a6 := rH a6 b9
 replace c5 := iH (iH c5 b8) b9
 replace c6 := iH (iH c6 b8) b9
 replace c7 := iH (iH c7 b8) b9
 replace c8 := iH (iH c8 b8) b9
 have hc := CheckPlace_any c A B n k m j ws ts d C D n2 k2 m2 j2 ws2 ts2 p1 p2 p3 p4 _ a8.out a9.out hn hm b0.out a6.out hn2 hm2 X1 x1 k1 xa X2 x2 k2x xb X3 x3 k3 ya X4 x4 k4 yb c5.out hl0 c6.out hl1 c7.out hl2 c8.out hl3
 rw [EP.out] at hc
 try dsimp only at hc
 have HC := Lib.hid hc; clear hc
 go_wp2_with fail
 refine HC.out.mono ?_
 rintro e z7 ⟨rfl, hb⟩
 clear HC
 clear s4 s5 s6 s7 s8 s9 t0 t1 t2 t3 t4 t5 t6 t7 t8 t9
 have c0 := Lib.hid hb
 clear hb
 replace a1 := kH a1 c0
 obtain ⟨u0, u1, u2⟩ := at3 a1
 replace a2 := kH a2 c0
 obtain ⟨u3, u4, u5⟩ := at3 a2
 replace a3 := kH a3 c0
 obtain ⟨u6, u7, u8, u9⟩ := at4 a3
 replace a4 := kH a4 c0
 obtain ⟨v0, v1, v2, v3⟩ := at4 a4
 replace a5 := kH a5 c0
 obtain ⟨v4, v5⟩ := at2 a5
 replace a8 := rH a8 c0
 replace a9 := rH a9 c0
 replace b0 := rH b0 c0
 replace a6 := rH a6 c0
 replace c9 := iH (iH (iH c9 b8) b9) c0
 have hc := CheckClash_any c A B n k m j ws ts d C D n2 k2 m2 j2 ws2 ts2 p1 p2 p3 p4 _ a8.out a9.out hn hm b0.out a6.out hn2 hm2 t F fm fd x c9.out hfm
 rw [EC.out] at hc
 try dsimp only at hc
 have HC := Lib.hid hc; clear hc
 go_wp2_with fail
 refine HC.out.mono ?_
 rintro e z8 ⟨rfl, hb⟩
 clear HC
 clear u0 u1 u2 u3 u4 u5 u6 u7 u8 u9 v0 v1 v2 v3 v4 v5
 have c1 := Lib.hid hb
 clear hb
 replace a1 := kH a1 c1
 obtain ⟨v6, v7, v8⟩ := at3 a1
 replace a2 := kH a2 c1
 obtain ⟨v9, w0, w1⟩ := at3 a2
 replace a3 := kH a3 c1
 obtain ⟨w2, w3, w4, w5⟩ := at4 a3
 replace a4 := kH a4 c1
 obtain ⟨w6, d6, d7, d8⟩ := at4 a4
 replace a5 := kH a5 c1
 obtain ⟨d9, e0⟩ := at2 a5
 replace a8 := rH a8 c1
 replace a9 := rH a9 c1
 replace b0 := rH b0 c1
 replace a6 := rH a6 c1
 have hc := Place_any c A B n k m j ws ts d C D n2 k2 m2 j2 ws2 ts2 p1 p2 p3 p4 _ a8.out a9.out hn hm b0.out a6.out hn2 hm2 _ EL.out
 unfold RetPl at hc
 dsimp only at hc
 have hc := hc
 have HC := Lib.hid hc; clear hc
 go_wp2_with fail
 refine HC.out.mono ?_
 rintro e e5 ⟨B1, b1, e1, B2, b2, e2, B3, b3, e3, B4, b4, e4, rfl, ⟨hr1, hr2, hr3, hr4⟩, ⟨hb1, hb2, hb3, hb4⟩, hb⟩
 clear HC
 clear v6 v7 v8 v9 w0 w1 w2 w3 w4 w5 w6 d6 d7 d8 d9 e0
 have b5 := Lib.hid hb
 clear hb
 have d0 := Lib.hid (hr1)
 clear hr1
 have d1 := Lib.hid (hr2)
 clear hr2
 have d2 := Lib.hid (hr3)
 clear hr3
 have d3 := Lib.hid (hr4)
 clear hr4
 obtain ⟨o_, ho_⟩ : ∃ o, o = ((.cells #[.slice B1 b1 e1, .slice B2 b2 e2, .slice B3 b3 e3, .slice B4 b4 e4] 36) : Obj) := ⟨_, rfl⟩
 replace b6 := bA (bH (bH (bH (bH (bH b6 b8) b9) c0) c1) b5) o_
 replace a8 := rA (rH a8 b5) o_
 replace a9 := rA (rH a9 b5) o_
 replace b0 := rA (rH b0 b5) o_
 replace a6 := rA (rH a6 b5) o_
 replace c5 := iA (iH (iH (iH c5 c0) c1) b5) o_
 replace c6 := iA (iH (iH (iH c6 c0) c1) b5) o_
 replace c7 := iA (iH (iH (iH c7 c0) c1) b5) o_
 replace c8 := iA (iH (iH (iH c8 c0) c1) b5) o_
 replace c9 := iA (iH (iH c9 c1) b5) o_
 replace a1 := kA (kH a1 b5) o_
 replace a2 := kA (kH a2 b5) o_
 replace a3 := kA (kH a3 b5) o_
 replace a4 := kA (kH a4 b5) o_
 replace a5 := kA (kH a5 b5) o_
 replace d0 := iA d0 o_
 replace d1 := iA d1 o_
 replace d2 := iA d2 o_
 replace d3 := iA d3 o_
 subst ho_
 have a7 := Lib.hid (Blk.new e5 36 #[.slice B1 b1 e1, .slice B2 b2 e2, .slice B3 b3 e3, .slice B4 b4 e4])
 obtain ⟨e6, e7, e8⟩ := at3 a1
 obtain ⟨e9, f0, f1⟩ := at3 a2
 obtain ⟨f2, f3, f4, f5⟩ := at4 a3
 obtain ⟨f6, f7, f8, f9⟩ := at4 a4
 obtain ⟨g0, g1⟩ := at2 a5
 obtain ⟨g2, g3, g4, g5⟩ := at4 a7
 have hc := Clash_any c A B n k m j ws ts d C D n2 k2 m2 j2 ws2 ts2 p1 p2 p3 p4 _ a8.out a9.out hn hm b0.out a6.out hn2 hm2
 unfold RetFE at hc
 rw [ECL.out] at hc
 dsimp only at hc
 try simp only [Bool.not_true, Bool.not_false] at hc
 have hc := hc
 have HC := Lib.hid hc; clear hc
 go_wp2_with fail
 refine HC.out.mono ?_
 rintro e g6 ⟨Ac, nc, cc, rfl, hrc, hmc, hb⟩
 clear HC
 clear e6 e7 e8 e9 f0 f1 f2 f3 f4 f5 f6 f7 f8 f9 g0 g1 g2 g3 g4 g5
 have a0 := Lib.hid hb
 clear hb
 have d4 := Lib.hid (hrc)
 clear hrc
 obtain ⟨o_, ho_⟩ : ∃ o, o = ((.cells #[.bool tn, .slice Ac nc cc] 40) : Obj) := ⟨_, rfl⟩
 replace b6 := bA (bH b6 a0) o_
 replace a8 := rA (rH a8 a0) o_
 replace a9 := rA (rH a9 a0) o_
 replace b0 := rA (rH b0 a0) o_
 replace a6 := rA (rH a6 a0) o_
 replace c5 := iA (iH c5 a0) o_
 replace c6 := iA (iH c6 a0) o_
 replace c7 := iA (iH c7 a0) o_
 replace c8 := iA (iH c8 a0) o_
 replace c9 := iA (iH c9 a0) o_
 replace a1 := kA (kH a1 a0) o_
 replace a2 := kA (kH a2 a0) o_
 replace a3 := kA (kH a3 a0) o_
 replace a4 := kA (kH a4 a0) o_
 replace a5 := kA (kH a5 a0) o_
 replace d0 := iA (iH d0 a0) o_
 replace d1 := iA (iH d1 a0) o_
 replace d2 := iA (iH d2 a0) o_
 replace d3 := iA (iH d3 a0) o_
 replace a7 := kA (kH a7 a0) o_
 replace d4 := iA d4 o_
 subst ho_
 have c2 := Lib.hid (Blk.new g6 40 #[.bool tn, .slice Ac nc cc])
 obtain ⟨g7, g8, g9⟩ := at3 a1
 obtain ⟨h0, h5, h6⟩ := at3 a2
 obtain ⟨h7, h8, h9, i0⟩ := at4 a3
 obtain ⟨i1, i2, i3, i4⟩ := at4 a4
 obtain ⟨i5, i6⟩ := at2 a5
 obtain ⟨i7, i8, i9, j0⟩ := at4 a7
 obtain ⟨j1, j3⟩ := at2 c2
 have hc := CheckPlace_any c A B n k m j ws ts d C D n2 k2 m2 j2 ws2 ts2 p1 p2 p3 p4 _ a8.out a9.out hn hm b0.out a6.out hn2 hm2 B1 b1 e1 L1 B2 b2 e2 L2 B3 b3 e3 L3 B4 b4 e4 L4 d0.out (by unfold maxLen; omega) d1.out (by unfold maxLen; omega) d2.out (by unfold maxLen; omega) d3.out (by unfold maxLen; omega)
 rw [EP2.out] at hc
 try dsimp only at hc
 have HC := Lib.hid hc; clear hc
 go_wp2_with fail
 refine HC.out.mono ?_
 rintro e w7 ⟨rfl, hb⟩
 clear HC
 clear g7 g8 g9 h0 h5 h6 h7 h8 h9 i0 i1 i2 i3 i4 i5 i6 i7 i8 i9 j0 j1 j3
 have b7 := Lib.hid hb
 clear hb
 replace a1 := kH a1 b7
 obtain ⟨j4, j5, j6⟩ := at3 a1
 replace a2 := kH a2 b7
 obtain ⟨j7, j8, j9⟩ := at3 a2
 replace a3 := kH a3 b7
 obtain ⟨k0, k5, k6, k7⟩ := at4 a3
 replace a4 := kH a4 b7
 obtain ⟨k8, k9, l0, l1⟩ := at4 a4
 replace a5 := kH a5 b7
 obtain ⟨l2, l3⟩ := at2 a5
 replace a7 := kH a7 b7
 obtain ⟨l4, l5, l6, l7⟩ := at4 a7
 replace c2 := kH c2 b7
 obtain ⟨l8, l9⟩ := at2 c2
 replace a8 := rH a8 b7
 replace a9 := rH a9 b7
 replace b0 := rH b0 b7
 replace a6 := rH a6 b7
 replace d4 := iH d4 b7
 have hc := CheckClash_any c A B n k m j ws ts d C D n2 k2 m2 j2 ws2 ts2 p1 p2 p3 p4 _ a8.out a9.out hn hm b0.out a6.out hn2 hm2 tn Ac nc cc Z d4.out hmc
 rw [EC2.out] at hc
 try dsimp only at hc
 have HC := Lib.hid hc; clear hc
 go_wp2_with fail
 refine HC.out.mono ?_
 rintro e m0 ⟨rfl, hb⟩
 clear HC
 clear j4 j5 j6 j7 j8 j9 k0 k5 k6 k7 k8 k9 l0 l1 l2 l3 l4 l5 l6 l7 l8 l9
 have c3 := Lib.hid hb
 clear hb
 replace a1 := kH a1 c3
 obtain ⟨m1, m3, m4⟩ := at3 a1
 replace a2 := kH a2 c3
 obtain ⟨m5, m6, m7⟩ := at3 a2
 replace a3 := kH a3 c3
 obtain ⟨m8, m9, n0, n1⟩ := at4 a3
 replace a4 := kH a4 c3
 obtain ⟨n3, n4, n5, n6⟩ := at4 a4
 replace a5 := kH a5 c3
 obtain ⟨n7, n8⟩ := at2 a5
 replace a7 := kH a7 c3
 obtain ⟨n9, o0, o1, o2⟩ := at4 a7
 replace c2 := kH c2 c3
 obtain ⟨o3, o4⟩ := at2 c2
 have hc := joined_any (m0)
 have HC := Lib.hid hc; clear hc
 go_wp2_with fail
 refine HC.out.mono ?_
 rintro e w8 ⟨rfl, hb⟩
 clear HC
 clear m1 m3 m4 m5 m6 m7 m8 m9 n0 n1 n3 n4 n5 n6 n7 n8 n9 o0 o1 o2 o3 o4
 have c4 := Lib.hid hb
 clear hb
 replace a1 := kH a1 c4
 obtain ⟨w9, x0, x5⟩ := at3 a1
 replace a2 := kH a2 c4
 obtain ⟨x6, x7, x8⟩ := at3 a2
 replace a3 := kH a3 c4
 obtain ⟨x9, y0, y1, y2⟩ := at4 a3
 replace a4 := kH a4 c4
 obtain ⟨y3, y4, y5, y6⟩ := at4 a4
 replace a5 := kH a5 c4
 obtain ⟨y7, y8⟩ := at2 a5
 replace a7 := kH a7 c4
 obtain ⟨y9, z0, z1, z2⟩ := at4 a7
 replace c2 := kH c2 c4
 obtain ⟨z3, z4⟩ := at2 c2
 go_wp2
 go_ret
 replace b6 := bH (bH (bH b6 b7) c3) c4
 exact ⟨rfl, b6.out⟩
end
end
end
set_option maxRecDepth 100000 in
theorem xe_walk (w : World) (c : Int) (A : Option Addr) (n k : Nat) (B : Option Addr) (m j : Nat) (ws ts : List Bnd) (_ : (Lit.int .i64 c).wf = true) (h1 : RdB w A n k ws) (h2 : RdB w B m j ts) (hn : n ≤ maxLen) (hm : m ≤ maxLen) (d : Int) (C : Option Addr) (n2 k2 : Nat) (D : Option Addr) (m2 j2 : Nat) (ws2 ts2 : List Bnd) (_ : (Lit.int .i64 d).wf = true) (h3 : RdB w C n2 k2 ws2) (h4 : RdB w D m2 j2 ts2) (hn2 : n2 ≤ maxLen) (hm2 : m2 ≤ maxLen) (p1 p2 p3 p4 : Int) (X1 : Option Addr) (x1 k1 : Nat) (xa : List Int) (X2 : Option Addr) (x2 k2x : Nat) (xb : List Int) (X3 : Option Addr) (x3 k3 : Nat) (ya : List Int) (X4 : Option Addr) (x4 k4 : Nat) (yb : List Int) (hx0 : RdI w X1 x1 k1 xa) (hl0 : x1 ≤ maxLen) (hx1 : RdI w X2 x2 k2x xb) (hl1 : x2 ≤ maxLen) (hx2 : RdI w X3 x3 k3 ya) (hl2 : x3 ≤ maxLen) (hx3 : RdI w X4 x4 k4 yb) (hl3 : x4 ≤ maxLen) (t : Bool) (F : Option Addr) (fm fd : Nat) (x : List Int) (hf : RdI w F fm fd x) (hfm : fm ≤ maxLen) : Calls Tryz.prog 7 #[.agg #[.int .i64 c, .slice A n k, .slice B m j], .agg #[.int .i64 d, .slice C n2 k2, .slice D m2 j2], .agg #[.int .i64 p1, .int .i64 p2, .int .i64 p3, .int .i64 p4], .agg #[.slice X1 x1 k1, .slice X2 x2 k2x, .slice X3 x3 k3, .slice X4 x4 k4], .agg #[.bool t, .slice F fm fd]] w fun e w' => e = .returned (.bool true) ∧ Below w.heap.size w w' := by
 cases hs : (decide (n ≤ 40) && decide (m ≤ 40) && decide (n2 ≤ 40) && decide (m2 ≤ 40))
 · exact xe_w c A B n k m j ws ts d C D n2 k2 m2 j2 ws2 ts2 p1 p2 p3 p4 w h1 h2 hn hm h3 h4 hn2 hm2 X1 x1 k1 xa X2 x2 k2x xb X3 x3 k3 ya X4 x4 k4 yb hx0 hl0 hx1 hl1 hx2 hl2 hx3 hl3 t F fm fd x hf hfm hs
 by_cases hl : (100 : Int) < fm
 · exact xe_f c A B n k m j ws ts d C D n2 k2 m2 j2 ws2 ts2 p1 p2 p3 p4 w h1 h2 hn hm h3 h4 hn2 hm2 X1 x1 k1 xa X2 x2 k2x xb X3 x3 k3 ya X4 x4 k4 yb hx0 hl0 hx1 hl1 hx2 hl2 hx3 hl3 t F fm fd x hf hfm hs hl
 by_cases hs4 : (100 : Int) < IntKind.i64.wrap (IntKind.i64.wrap (IntKind.i64.wrap ((x1 : Int) + (x2 : Int)) + (x3 : Int)) + (x4 : Int))
 · exact xe_s c A B n k m j ws ts d C D n2 k2 m2 j2 ws2 ts2 p1 p2 p3 p4 w h1 h2 hn hm h3 h4 hn2 hm2 X1 x1 k1 xa X2 x2 k2x xb X3 x3 k3 ya X4 x4 k4 yb hx0 hl0 hx1 hl1 hx2 hl2 hx3 hl3 t F fm fd x hf hfm hs hl _ _ _ rfl rfl rfl hs4
 by_cases hq : asked ⟨c, ws, ts⟩ ⟨d, ws2, ts2⟩ ⟨p1, p2, p3, p4⟩ = 0
 · obtain ⟨mb, L1, L2, L3, L4, Z, tn, e1, e2, e3, e4, e5, -, -⟩ := either_cases hq
   have hmb : meetsB ⟨c, ws, ts⟩ ⟨d, ws2, ts2⟩ ⟨p1, p2, p3, p4⟩ = mb := by
    unfold meetsV at e1
    rw [if_pos hq] at e1
    exact congrArg Prod.fst e1
   cases mb
   · have hp := noplace hq hmb xa xb ya yb
     have hcl : (checkClashV t ⟨c, ws, ts⟩ ⟨d, ws2, ts2⟩ ⟨p1, p2, p3, p4⟩ x).2 = 0 := by
      unfold checkClashV
      rw [if_pos hq]
      exact ccode_z (jL_chk hq t)
     cases hu : (checkClashV t ⟨c, ws, ts⟩ ⟨d, ws2, ts2⟩ ⟨p1, p2, p3, p4⟩ x).1
     · exact xe_d c A B n k m j ws ts d C D n2 k2 m2 j2 ws2 ts2 p1 p2 p3 p4 w h1 h2 hn hm h3 h4 hn2 hm2 X1 x1 k1 xa X2 x2 k2x xb X3 x3 k3 ya X4 x4 k4 yb hx0 hl0 hx1 hl1 hx2 hl2 hx3 hl3 t F fm fd x hf hfm hs hl _ _ _ rfl rfl rfl hs4 (Lib.hid e1) (Lib.hid hp) (Lib.hid (Prod.ext hu hcl)) _ _ _ _ _ _ (Lib.hid e2) (Lib.hid e3) (Lib.hid e4) (Lib.hid e5)
     · exact xe_c c A B n k m j ws ts d C D n2 k2 m2 j2 ws2 ts2 p1 p2 p3 p4 w h1 h2 hn hm h3 h4 hn2 hm2 X1 x1 k1 xa X2 x2 k2x xb X3 x3 k3 ya X4 x4 k4 yb hx0 hl0 hx1 hl1 hx2 hl2 hx3 hl3 t F fm fd x hf hfm hs hl _ _ _ rfl rfl rfl hs4 (Lib.hid e1) (Lib.hid hp) (Lib.hid (Prod.ext hu hcl)) _ _ _ _ _ _ (Lib.hid e2) (Lib.hid e3) (Lib.hid e4) (Lib.hid e5)
   · have hcl := meets_noclash hq hmb t x
     have hp : (checkPlaceV ⟨c, ws, ts⟩ ⟨d, ws2, ts2⟩ ⟨p1, p2, p3, p4⟩ xa xb ya yb).2 = 0 := by unfold checkPlaceV; rw [if_pos hq]
     cases hv : (checkPlaceV ⟨c, ws, ts⟩ ⟨d, ws2, ts2⟩ ⟨p1, p2, p3, p4⟩ xa xb ya yb).1
     · exact xe_b c A B n k m j ws ts d C D n2 k2 m2 j2 ws2 ts2 p1 p2 p3 p4 w h1 h2 hn hm h3 h4 hn2 hm2 X1 x1 k1 xa X2 x2 k2x xb X3 x3 k3 ya X4 x4 k4 yb hx0 hl0 hx1 hl1 hx2 hl2 hx3 hl3 t F fm fd x hf hfm hs hl _ _ _ rfl rfl rfl hs4 (Lib.hid e1) (Lib.hid (Prod.ext hv hp)) (Lib.hid hcl) _ _ _ _ _ _ (Lib.hid e2) (Lib.hid e3) (Lib.hid e4) (Lib.hid e5)
     · exact xe_a c A B n k m j ws ts d C D n2 k2 m2 j2 ws2 ts2 p1 p2 p3 p4 w h1 h2 hn hm h3 h4 hn2 hm2 X1 x1 k1 xa X2 x2 k2x xb X3 x3 k3 ya X4 x4 k4 yb hx0 hl0 hx1 hl1 hx2 hl2 hx3 hl3 t F fm fd x hf hfm hs hl _ _ _ rfl rfl rfl hs4 (Lib.hid e1) (Lib.hid (Prod.ext hv hp)) (Lib.hid hcl) _ _ _ _ _ _ (Lib.hid e2) (Lib.hid e3) (Lib.hid e4) (Lib.hid e5)
 · exact xe_err c A B n k m j ws ts d C D n2 k2 m2 j2 ws2 ts2 p1 p2 p3 p4 w h1 h2 hn hm h3 h4 hn2 hm2 X1 x1 k1 xa X2 x2 k2x xb X3 x3 k3 ya X4 x4 k4 yb hx0 hl0 hx1 hl1 hx2 hl2 hx3 hl3 t F fm fd x hf hfm hs hl _ _ _ rfl rfl rfl hs4 _ (by simpa using hq) (Lib.hid (by unfold meetsV; rw [if_neg hq])) (Lib.hid (by unfold checkPlaceV; rw [if_neg hq])) (Lib.hid (by unfold checkClashV; rw [if_neg hq]))
set_option maxRecDepth 100000 in
theorem edgeEither_lifted (os : Os) (started : os.Started) (H : Type) (enc : TypeId × Value → H) :
 ReturnsInHanded {} Tryz.checked os 7 .any (Rows.edgeEitherSpec.pre6 enc Tryz.prog Tryz.f7 Rows.edgeEitherRow.domain false) (Rows.edgeEitherSpec.post enc Tryz.prog Tryz.f7 false true false false) := by
 refine returnsInHanded_of_change (C := Tryz.checked) Law.own started (by kernel_rfl) Tryz.func7
  (ChangeSpec.witness6 (enc := enc) (C := Tryz.checked) false ⟨#[], #[.agg #[.int .i64 0, .slice none 0 0, .slice none 0 0], .agg #[.int .i64 0, .slice none 0 0, .slice none 0 0], .agg #[.int .i64 0, .int .i64 0, .int .i64 0, .int .i64 0], .agg #[.slice none 0 0, .slice none 0 0, .slice none 0 0, .slice none 0 0], .agg #[.bool false, .slice none 0 0]], []⟩ 8 (by kernel_rfl) (by kernel_rfl) (by kernel_rfl) (by kernel_rfl)) ?_
 intro W base args ds gs before hval0 hW hcnd _
 have hval : ∀ (j : Nat) t v, Tryz.f7.params[j]? = some t → args[j]? = some v → Value.okWide Tryz.prog W .any base t v := hval0
 have hW' := hW
 obtain ⟨p, q, hA0, hV, rfl, hfz, hnd⟩ := hW
 have hA : DataW.TrodAll enc Tryz.prog W 0 (fun _ => true) true Tryz.f7.params.toList args.toList ds p := hA0
 rw [Tryz.params7] at hA hval
 obtain ⟨v0, vs0, d0, ds0, p0, q0, hargs, rfl, rfl, h0, r0⟩ := trodAll_cons hA
 obtain ⟨v1, vs1, d1, ds1, p1, q1, rfl, rfl, rfl, h1, r1⟩ := trodAll_cons r0
 obtain ⟨v2, vs2, d2, ds2, p2, q2, rfl, rfl, rfl, h2, r2⟩ := trodAll_cons r1
 obtain ⟨v3, vs3, d3, ds3, p3, q3, rfl, rfl, rfl, h3, r3⟩ := trodAll_cons r2
 obtain ⟨v4, vs4, d4, ds4, p4, q4, rfl, rfl, rfl, h4, r4⟩ := trodAll_cons r3
 obtain ⟨rfl, rfl, rfl⟩ := trodAll_nil r4
 obtain rfl : args = #[v0, v1, v2, v3, v4] := by cases args; simp_all
 obtain ⟨rfl, rfl⟩ := trodVars_none hV
 have k0 := h0
 have lt0 : ∀ x ∈ p0, x.block < W.heap.size := by obtain ⟨m, hm⟩ := k0; exact DataW.trod_lt m _ _ _ hm
 obtain ⟨c0, A0, n0, k0', B0, m0, j0, ws0, ts0, rfl, w0, ra0, rb0, xa0, xb0⟩ := open_outl (hval 0 24 v0 rfl rfl) h0
 have k1 := h1
 have lt1 : ∀ x ∈ p1, x.block < W.heap.size := by obtain ⟨m, hm⟩ := k1; exact DataW.trod_lt m _ _ _ hm
 obtain ⟨c1, A1, n1, k1', B1, m1, j1, ws1, ts1, rfl, w1, ra1, rb1, xa1, xb1⟩ := open_outl (hval 1 24 v1 rfl rfl) h1
 have k2 := h2
 have lt2 : ∀ x ∈ p2, x.block < W.heap.size := by obtain ⟨m, hm⟩ := k2; exact DataW.trod_lt m _ _ _ hm
 obtain ⟨f2, t2, m2, i2, rfl⟩ := open_pair (hval 2 28 v2 rfl rfl) h2
 have k3 := h3
 have lt3 : ∀ x ∈ p3, x.block < W.heap.size := by obtain ⟨m, hm⟩ := k3; exact DataW.trod_lt m _ _ _ hm
 obtain ⟨A3a, n3a, c3a, l3a, A3b, n3b, c3b, l3b, A3c, n3c, c3c, l3c, A3d, n3d, c3d, l3d, rfl, rd3a, mx3a, rd3b, mx3b, rd3c, mx3c, rd3d, mx3d⟩ := open_place (hval 3 36 v3 rfl rfl) h3
 have k4 := h4
 have lt4 : ∀ x ∈ p4, x.block < W.heap.size := by obtain ⟨m, hm⟩ := k4; exact DataW.trod_lt m _ _ _ hm
 obtain ⟨t4, A4, n4, c4, l4, rfl, rd4, mx4⟩ := open_flaw (hval 4 40 v4 rfl rfl) h4
 clear hA0 hval0
 refine (xe_walk W c0 A0 n0 k0' B0 m0 j0 ws0 ts0 w0 ra0 rb0 xa0 xb0 c1 A1 n1 k1' B1 m1 j1 ws1 ts1 w1 ra1 rb1 xa1 xb1 f2 t2 m2 i2 A3a n3a c3a l3a A3b n3b c3b l3b A3c n3c c3c l3c A3d n3d c3d l3d rd3a mx3a rd3b mx3b rd3c mx3c rd3d mx3d t4 A4 n4 c4 l4 rd4 mx4).mono fun e W' ⟨he, bel⟩ => ?_
 subst he
 exact ⟨_, rfl, _, _, _, [], _, [], hW', trodAll_mk1 (shut_bool Tryz.underlying4 _), (trodAll_cons_mk (Below.trod Law.laidOut (by kernel_rfl) (of_decide_eq_true (by kernel_rfl)) k0 bel lt0) (trodAll_cons_mk (Below.trod Law.laidOut (by kernel_rfl) (of_decide_eq_true (by kernel_rfl)) k1 bel lt1) (trodAll_cons_mk (Below.trod Law.laidOut (by kernel_rfl) (of_decide_eq_true (by kernel_rfl)) k2 bel lt2) (trodAll_cons_mk (Below.trod Law.laidOut (by kernel_rfl) (of_decide_eq_true (by kernel_rfl)) k3 bel lt3) (trodAll_cons_mk (Below.trod Law.laidOut (by kernel_rfl) (of_decide_eq_true (by kernel_rfl)) k4 bel lt4) trodAll_mk0))))), rfl, bel.frame _, fun h => by cases h⟩
theorem edgeEither_over : Rows.edgeEitherRow.holds Tryz.pinned (OpenSpec.ofChange Rows.edgeEitherSpec) :=
 OpenClaim.holds_of_wide 7 Tryz.f7 rfl rfl rfl rfl rfl rfl rfl ⟨rfl, rfl, rfl, rfl, rfl⟩ rfl rfl rfl rfl rfl (by kernel_rfl) Tryz.func7 (by kernel_rfl)
  (of_decide_eq_true (by kernel_rfl)) (by unfold Func.isWrapper; first | (rw [if_pos (by decide +kernel)]; kernel_rfl) | (rw [if_neg (by decide +kernel)]; exact ⟨rfl, rfl⟩))
  (fun os started H enc _ => edgeEither_lifted os started H enc)
theorem edgeEither_proved : Rows.EdgeEitherSaid := edgeEither_over
end Go.Proofs.YtjjmifcjailpaaaGreat
