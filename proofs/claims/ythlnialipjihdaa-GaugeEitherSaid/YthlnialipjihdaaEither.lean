/- GaugeEither: a solution or a circle, never both. -/
import Derived.Test.YthlnialipjihdaaOpen
import Derived.Test.YthlnialipjihdaaClosed
set_option linter.unusedSimpArgs false
set_option linter.unusedVariables false
namespace Go.Proofs.Ythlnialipjihdaa
open Go.RowKit

set_option maxRecDepth 100000 in
set_option maxHeartbeats 4000000 in
theorem ei_w1 (P : Int) (A : Option Addr) (n k : Nat) (l : List Bnd) (w : World) (hr : RdB w A n k l) (hn : n ≤ maxLen) (B : Option Addr) (m d : Nat) (x : List Int) (hx : RdI w B m d x) (hm : m ≤ maxLen) (C : Option Addr) (m2 d2 : Nat) (y : List Int) (hy : RdI w C m2 d2 y) (hm2 : m2 ≤ maxLen) (hw : ¬ n ≤ 403) :
    Calls Try.prog 11 #[.agg #[.int .i64 P, .slice A n k], .slice B m d, .slice C m2 d2] w fun e w' => e = .returned (.bool true) ∧ Below w.heap.size w w' := by
  go_enter Try.func11, Try.ntmps11
  have bel_1 := Lib.hid (show Below w.heap.size w w from Below.refl _ w)
  have x_2 := Lib.hid (hx)
  clear hx
  have y_3 := Lib.hid (hy)
  clear hy
  have rd_4 := Lib.hid (hr)
  clear hr
  have bel_5 := Lib.hid (Below.alloc bel_1.out (bel_1.out.size) (.cells #[.int .i64 P, .slice A n k] 24))
  clear bel_1
  have x_6 := Lib.hid (RdI.alloc x_2.out (.cells #[.int .i64 P, .slice A n k] 24))
  clear x_2
  have y_7 := Lib.hid (RdI.alloc y_3.out (.cells #[.int .i64 P, .slice A n k] 24))
  clear y_3
  have rd_8 := Lib.hid (RdB.alloc rd_4.out (.cells #[.int .i64 P, .slice A n k] 24))
  clear rd_4
  have srd_9 := Lib.hid (Blk.new w 24 #[.int .i64 P, .slice A n k])
  have hc := (show Calls Try.prog 18 #[.agg #[.int .i64 P, .slice A n k]] ((w.alloc (.cells #[.int .i64 P, .slice A n k] 24))) fun e w' => e = .returned (.bool false) ∧ Below ((w.alloc (.cells #[.int .i64 P, .slice A n k] 24))).heap.size ((w.alloc (.cells #[.int .i64 P, .slice A n k] 24))) w' from by have h := wide_any P A n k ((w.alloc (.cells #[.int .i64 P, .slice A n k] 24))); rw [show decide (n ≤ 403) = false from by simpa using hw] at h; exact h)
  have HC := Lib.hid hc; clear hc
  go_wp2_with fail
  refine HC.out.mono ?_
  rintro e w_10 ⟨rfl, hb⟩
  clear HC
  have bel_11 := Lib.hid (Below.trans bel_5.out (Below.mono hb (bel_5.out.size)))
  clear bel_5
  have x_12 := Lib.hid (RdI.below x_6.out hb)
  clear x_6
  have y_13 := Lib.hid (RdI.below y_7.out hb)
  clear y_7
  have rd_14 := Lib.hid (RdB.below rd_8.out hb)
  clear rd_8
  have srd_15 := Lib.hid (Blk.keep srd_9.out hb)
  clear srd_9
  clear hb
  have z_16 : (w_10).cell? ⟨w.heap.size, 0, none⟩ = some (.int .i64 P) := Blk.cell srd_15.out 0
  have z_17 : (w_10).cell? ⟨w.heap.size, 1, none⟩ = some (.slice A n k) := Blk.cell srd_15.out 1
  go_wp2_with fail
  refine (alive_ok _).mono ?_
  rintro e w_18 ⟨rfl, hb⟩
  clear z_16 z_17
  have bel_19 := Lib.hid (Below.trans bel_11.out (Below.mono hb (bel_11.out.size)))
  clear bel_11
  have x_20 := Lib.hid (RdI.below x_12.out hb)
  clear x_12
  have y_21 := Lib.hid (RdI.below y_13.out hb)
  clear y_13
  have rd_22 := Lib.hid (RdB.below rd_14.out hb)
  clear rd_14
  have srd_23 := Lib.hid (Blk.keep srd_15.out hb)
  clear srd_15
  clear hb
  go_wp2
  go_ret
  exact ⟨rfl, bel_19.out⟩

set_option maxRecDepth 100000 in
set_option maxHeartbeats 4000000 in
theorem ei_w2 (P : Int) (A : Option Addr) (n k : Nat) (l : List Bnd) (w : World) (hr : RdB w A n k l) (hn : n ≤ maxLen) (B : Option Addr) (m d : Nat) (x : List Int) (hx : RdI w B m d x) (hm : m ≤ maxLen) (C : Option Addr) (m2 d2 : Nat) (y : List Int) (hy : RdI w C m2 d2 y) (hm2 : m2 ≤ maxLen) (hw : n ≤ 403) (h7 : 70 < m) :
    Calls Try.prog 11 #[.agg #[.int .i64 P, .slice A n k], .slice B m d, .slice C m2 d2] w fun e w' => e = .returned (.bool true) ∧ Below w.heap.size w w' := by
  go_enter Try.func11, Try.ntmps11
  have bel_1 := Lib.hid (show Below w.heap.size w w from Below.refl _ w)
  have x_2 := Lib.hid (hx)
  clear hx
  have y_3 := Lib.hid (hy)
  clear hy
  have rd_4 := Lib.hid (hr)
  clear hr
  have bel_5 := Lib.hid (Below.alloc bel_1.out (bel_1.out.size) (.cells #[.int .i64 P, .slice A n k] 24))
  clear bel_1
  have x_6 := Lib.hid (RdI.alloc x_2.out (.cells #[.int .i64 P, .slice A n k] 24))
  clear x_2
  have y_7 := Lib.hid (RdI.alloc y_3.out (.cells #[.int .i64 P, .slice A n k] 24))
  clear y_3
  have rd_8 := Lib.hid (RdB.alloc rd_4.out (.cells #[.int .i64 P, .slice A n k] 24))
  clear rd_4
  have srd_9 := Lib.hid (Blk.new w 24 #[.int .i64 P, .slice A n k])
  have hc := (show Calls Try.prog 18 #[.agg #[.int .i64 P, .slice A n k]] ((w.alloc (.cells #[.int .i64 P, .slice A n k] 24))) fun e w' => e = .returned (.bool true) ∧ Below ((w.alloc (.cells #[.int .i64 P, .slice A n k] 24))).heap.size ((w.alloc (.cells #[.int .i64 P, .slice A n k] 24))) w' from by have h := wide_any P A n k ((w.alloc (.cells #[.int .i64 P, .slice A n k] 24))); rw [show decide (n ≤ 403) = true from by simpa using hw] at h; exact h)
  have HC := Lib.hid hc; clear hc
  go_wp2_with fail
  refine HC.out.mono ?_
  rintro e w_10 ⟨rfl, hb⟩
  clear HC
  have bel_11 := Lib.hid (Below.trans bel_5.out (Below.mono hb (bel_5.out.size)))
  clear bel_5
  have x_12 := Lib.hid (RdI.below x_6.out hb)
  clear x_6
  have y_13 := Lib.hid (RdI.below y_7.out hb)
  clear y_7
  have rd_14 := Lib.hid (RdB.below rd_8.out hb)
  clear rd_8
  have srd_15 := Lib.hid (Blk.keep srd_9.out hb)
  clear srd_9
  clear hb
  have z_16 : (w_10).cell? ⟨w.heap.size, 0, none⟩ = some (.int .i64 P) := Blk.cell srd_15.out 0
  have z_17 : (w_10).cell? ⟨w.heap.size, 1, none⟩ = some (.slice A n k) := Blk.cell srd_15.out 1
  go_wp2_with fail
  refine (alive_ok _).mono ?_
  rintro e w_18 ⟨rfl, hb⟩
  clear z_16 z_17
  have bel_19 := Lib.hid (Below.trans bel_11.out (Below.mono hb (bel_11.out.size)))
  clear bel_11
  have x_20 := Lib.hid (RdI.below x_12.out hb)
  clear x_12
  have y_21 := Lib.hid (RdI.below y_13.out hb)
  clear y_13
  have rd_22 := Lib.hid (RdB.below rd_14.out hb)
  clear rd_14
  have srd_23 := Lib.hid (Blk.keep srd_15.out hb)
  clear srd_15
  clear hb
  go_wp2
  go_ret
  exact ⟨rfl, bel_19.out⟩

set_option maxRecDepth 100000 in
set_option maxHeartbeats 4000000 in
theorem ei_w3 (P : Int) (A : Option Addr) (n k : Nat) (l : List Bnd) (w : World) (hr : RdB w A n k l) (hn : n ≤ maxLen) (B : Option Addr) (m d : Nat) (x : List Int) (hx : RdI w B m d x) (hm : m ≤ maxLen) (C : Option Addr) (m2 d2 : Nat) (y : List Int) (hy : RdI w C m2 d2 y) (hm2 : m2 ≤ maxLen) (hw : n ≤ 403) (h7 : m ≤ 70) (h8 : 70 < m2) :
    Calls Try.prog 11 #[.agg #[.int .i64 P, .slice A n k], .slice B m d, .slice C m2 d2] w fun e w' => e = .returned (.bool true) ∧ Below w.heap.size w w' := by
  go_enter Try.func11, Try.ntmps11
  have bel_1 := Lib.hid (show Below w.heap.size w w from Below.refl _ w)
  have x_2 := Lib.hid (hx)
  clear hx
  have y_3 := Lib.hid (hy)
  clear hy
  have rd_4 := Lib.hid (hr)
  clear hr
  have bel_5 := Lib.hid (Below.alloc bel_1.out (bel_1.out.size) (.cells #[.int .i64 P, .slice A n k] 24))
  clear bel_1
  have x_6 := Lib.hid (RdI.alloc x_2.out (.cells #[.int .i64 P, .slice A n k] 24))
  clear x_2
  have y_7 := Lib.hid (RdI.alloc y_3.out (.cells #[.int .i64 P, .slice A n k] 24))
  clear y_3
  have rd_8 := Lib.hid (RdB.alloc rd_4.out (.cells #[.int .i64 P, .slice A n k] 24))
  clear rd_4
  have srd_9 := Lib.hid (Blk.new w 24 #[.int .i64 P, .slice A n k])
  have hc := (show Calls Try.prog 18 #[.agg #[.int .i64 P, .slice A n k]] ((w.alloc (.cells #[.int .i64 P, .slice A n k] 24))) fun e w' => e = .returned (.bool true) ∧ Below ((w.alloc (.cells #[.int .i64 P, .slice A n k] 24))).heap.size ((w.alloc (.cells #[.int .i64 P, .slice A n k] 24))) w' from by have h := wide_any P A n k ((w.alloc (.cells #[.int .i64 P, .slice A n k] 24))); rw [show decide (n ≤ 403) = true from by simpa using hw] at h; exact h)
  have HC := Lib.hid hc; clear hc
  go_wp2_with fail
  refine HC.out.mono ?_
  rintro e w_10 ⟨rfl, hb⟩
  clear HC
  have bel_11 := Lib.hid (Below.trans bel_5.out (Below.mono hb (bel_5.out.size)))
  clear bel_5
  have x_12 := Lib.hid (RdI.below x_6.out hb)
  clear x_6
  have y_13 := Lib.hid (RdI.below y_7.out hb)
  clear y_7
  have rd_14 := Lib.hid (RdB.below rd_8.out hb)
  clear rd_8
  have srd_15 := Lib.hid (Blk.keep srd_9.out hb)
  clear srd_9
  clear hb
  have z_16 : (w_10).cell? ⟨w.heap.size, 0, none⟩ = some (.int .i64 P) := Blk.cell srd_15.out 0
  have z_17 : (w_10).cell? ⟨w.heap.size, 1, none⟩ = some (.slice A n k) := Blk.cell srd_15.out 1
  go_wp2_with fail
  refine (alive_ok _).mono ?_
  rintro e w_18 ⟨rfl, hb⟩
  clear z_16 z_17
  have bel_19 := Lib.hid (Below.trans bel_11.out (Below.mono hb (bel_11.out.size)))
  clear bel_11
  have x_20 := Lib.hid (RdI.below x_12.out hb)
  clear x_12
  have y_21 := Lib.hid (RdI.below y_13.out hb)
  clear y_13
  have rd_22 := Lib.hid (RdB.below rd_14.out hb)
  clear rd_14
  have srd_23 := Lib.hid (Blk.keep srd_15.out hb)
  clear srd_15
  clear hb
  go_wp2
  go_ret
  exact ⟨rfl, bel_19.out⟩

set_option maxRecDepth 100000 in
set_option maxHeartbeats 4000000 in
theorem ei_err (P : Int) (A : Option Addr) (n k : Nat) (l : List Bnd) (w : World) (hr : RdB w A n k l) (hn : n ≤ maxLen) (B : Option Addr) (m d : Nat) (x : List Int) (hx : RdI w B m d x) (hm : m ≤ maxLen) (C : Option Addr) (m2 d2 : Nat) (y : List Int) (hy : RdI w C m2 d2 y) (hm2 : m2 ≤ maxLen) (hw : n ≤ 403) (h7 : m ≤ 70) (h8 : m2 ≤ 70) (q : Int) (hq : (q != 0) = true) (E1 : Hid (solveV P l = ([], false, q))) (E2 : Hid (circleV P l = ([], false, q))) :
    Calls Try.prog 11 #[.agg #[.int .i64 P, .slice A n k], .slice B m d, .slice C m2 d2] w fun e w' => e = .returned (.bool true) ∧ Below w.heap.size w w' := by
  go_enter Try.func11, Try.ntmps11
  have bel_1 := Lib.hid (show Below w.heap.size w w from Below.refl _ w)
  have x_2 := Lib.hid (hx)
  clear hx
  have y_3 := Lib.hid (hy)
  clear hy
  have rd_4 := Lib.hid (hr)
  clear hr
  have bel_5 := Lib.hid (Below.alloc bel_1.out (bel_1.out.size) (.cells #[.int .i64 P, .slice A n k] 24))
  clear bel_1
  have x_6 := Lib.hid (RdI.alloc x_2.out (.cells #[.int .i64 P, .slice A n k] 24))
  clear x_2
  have y_7 := Lib.hid (RdI.alloc y_3.out (.cells #[.int .i64 P, .slice A n k] 24))
  clear y_3
  have rd_8 := Lib.hid (RdB.alloc rd_4.out (.cells #[.int .i64 P, .slice A n k] 24))
  clear rd_4
  have srd_9 := Lib.hid (Blk.new w 24 #[.int .i64 P, .slice A n k])
  have hc := (show Calls Try.prog 18 #[.agg #[.int .i64 P, .slice A n k]] ((w.alloc (.cells #[.int .i64 P, .slice A n k] 24))) fun e w' => e = .returned (.bool true) ∧ Below ((w.alloc (.cells #[.int .i64 P, .slice A n k] 24))).heap.size ((w.alloc (.cells #[.int .i64 P, .slice A n k] 24))) w' from by have h := wide_any P A n k ((w.alloc (.cells #[.int .i64 P, .slice A n k] 24))); rw [show decide (n ≤ 403) = true from by simpa using hw] at h; exact h)
  have HC := Lib.hid hc; clear hc
  go_wp2_with fail
  refine HC.out.mono ?_
  rintro e w_10 ⟨rfl, hb⟩
  clear HC
  have bel_11 := Lib.hid (Below.trans bel_5.out (Below.mono hb (bel_5.out.size)))
  clear bel_5
  have x_12 := Lib.hid (RdI.below x_6.out hb)
  clear x_6
  have y_13 := Lib.hid (RdI.below y_7.out hb)
  clear y_7
  have rd_14 := Lib.hid (RdB.below rd_8.out hb)
  clear rd_8
  have srd_15 := Lib.hid (Blk.keep srd_9.out hb)
  clear srd_9
  clear hb
  have z_16 : (w_10).cell? ⟨w.heap.size, 0, none⟩ = some (.int .i64 P) := Blk.cell srd_15.out 0
  have z_17 : (w_10).cell? ⟨w.heap.size, 1, none⟩ = some (.slice A n k) := Blk.cell srd_15.out 1
  have hc := Solve_any P A n k l _ rd_14.out hn
  rw [E1.out] at hc
  unfold RetI at hc; dsimp only at hc
  have HC := Lib.hid hc; clear hc
  go_wp2_with fail
  refine HC.out.mono ?_
  rintro e w_18 ⟨Az, nz, cz, rfl, ho, hb⟩
  clear HC
  clear z_16 z_17
  have bel_19 := Lib.hid (Below.trans bel_11.out (Below.mono hb (bel_11.out.size)))
  clear bel_11
  have x_20 := Lib.hid (RdI.below x_12.out hb)
  clear x_12
  have y_21 := Lib.hid (RdI.below y_13.out hb)
  clear y_13
  have rd_22 := Lib.hid (RdB.below rd_14.out hb)
  clear rd_14
  have srd_23 := Lib.hid (Blk.keep srd_15.out hb)
  clear srd_15
  have z_24 := Lib.hid ((OwnI.rd ho).1)
  obtain rfl : nz = 0 := z_24.out.len.symm
  clear ho hb
  have z_25 : (w_18).cell? ⟨w.heap.size, 0, none⟩ = some (.int .i64 P) := Blk.cell srd_23.out 0
  have z_26 : (w_18).cell? ⟨w.heap.size, 1, none⟩ = some (.slice A n k) := Blk.cell srd_23.out 1
  have hc := Circle_any P A n k l _ rd_22.out hn
  rw [E2.out] at hc
  unfold RetI at hc; dsimp only at hc
  have HC := Lib.hid hc; clear hc
  go_wp2_with fail
  refine HC.out.mono ?_
  rintro e w_27 ⟨Ac, nc, cc, rfl, ho, hb⟩
  clear HC
  clear z_25 z_26
  have bel_28 := Lib.hid (Below.trans bel_19.out (Below.mono hb (bel_19.out.size)))
  clear bel_19
  have x_29 := Lib.hid (RdI.below x_20.out hb)
  clear x_20
  have y_30 := Lib.hid (RdI.below y_21.out hb)
  clear y_21
  have rd_31 := Lib.hid (RdB.below rd_22.out hb)
  clear rd_22
  have srd_32 := Lib.hid (Blk.keep srd_23.out hb)
  clear srd_23
  have z_33 := Lib.hid (RdI.below z_24.out hb)
  clear z_24
  have c_34 := Lib.hid ((OwnI.rd ho).1)
  obtain rfl : nc = 0 := c_34.out.len.symm
  clear ho hb
  have z_35 : (w_27).cell? ⟨w.heap.size, 0, none⟩ = some (.int .i64 P) := Blk.cell srd_32.out 0
  have z_36 : (w_27).cell? ⟨w.heap.size, 1, none⟩ = some (.slice A n k) := Blk.cell srd_32.out 1
  go_wp2_with fail
  refine (alive_ok _).mono ?_
  rintro e w_37 ⟨rfl, hb⟩
  clear z_35 z_36
  have bel_38 := Lib.hid (Below.trans bel_28.out (Below.mono hb (bel_28.out.size)))
  clear bel_28
  have x_39 := Lib.hid (RdI.below x_29.out hb)
  clear x_29
  have y_40 := Lib.hid (RdI.below y_30.out hb)
  clear y_30
  have rd_41 := Lib.hid (RdB.below rd_31.out hb)
  clear rd_31
  have srd_42 := Lib.hid (Blk.keep srd_32.out hb)
  clear srd_32
  have z_43 := Lib.hid (RdI.below z_33.out hb)
  clear z_33
  have c_44 := Lib.hid (RdI.below c_34.out hb)
  clear c_34
  clear hb
  go_wp2
  go_ret
  exact ⟨rfl, bel_38.out⟩

set_option maxRecDepth 100000 in
set_option maxHeartbeats 4000000 in
theorem ei_sol (P : Int) (A : Option Addr) (n k : Nat) (l : List Bnd) (w : World) (hr : RdB w A n k l) (hn : n ≤ maxLen) (B : Option Addr) (m d : Nat) (x : List Int) (hx : RdI w B m d x) (hm : m ≤ maxLen) (C : Option Addr) (m2 d2 : Nat) (y : List Int) (hy : RdI w C m2 d2 y) (hm2 : m2 ≤ maxLen) (hw : n ≤ 403) (h7 : m ≤ 70) (h8 : m2 ≤ 70) (Z : List Int) (hZ : Z.length ≤ 60) (E1 : Hid (solveV P l = (Z, true, 0))) (E2 : Hid (circleV P l = ([], false, 0))) (E3 : Hid (keepsV P l Z = (true, 0))) (E4 : Hid (checkCircleV P l y = (false, 0))) :
    Calls Try.prog 11 #[.agg #[.int .i64 P, .slice A n k], .slice B m d, .slice C m2 d2] w fun e w' => e = .returned (.bool true) ∧ Below w.heap.size w w' := by
  go_enter Try.func11, Try.ntmps11
  have bel_1 := Lib.hid (show Below w.heap.size w w from Below.refl _ w)
  have x_2 := Lib.hid (hx)
  clear hx
  have y_3 := Lib.hid (hy)
  clear hy
  have rd_4 := Lib.hid (hr)
  clear hr
  have bel_5 := Lib.hid (Below.alloc bel_1.out (bel_1.out.size) (.cells #[.int .i64 P, .slice A n k] 24))
  clear bel_1
  have x_6 := Lib.hid (RdI.alloc x_2.out (.cells #[.int .i64 P, .slice A n k] 24))
  clear x_2
  have y_7 := Lib.hid (RdI.alloc y_3.out (.cells #[.int .i64 P, .slice A n k] 24))
  clear y_3
  have rd_8 := Lib.hid (RdB.alloc rd_4.out (.cells #[.int .i64 P, .slice A n k] 24))
  clear rd_4
  have srd_9 := Lib.hid (Blk.new w 24 #[.int .i64 P, .slice A n k])
  have hc := (show Calls Try.prog 18 #[.agg #[.int .i64 P, .slice A n k]] ((w.alloc (.cells #[.int .i64 P, .slice A n k] 24))) fun e w' => e = .returned (.bool true) ∧ Below ((w.alloc (.cells #[.int .i64 P, .slice A n k] 24))).heap.size ((w.alloc (.cells #[.int .i64 P, .slice A n k] 24))) w' from by have h := wide_any P A n k ((w.alloc (.cells #[.int .i64 P, .slice A n k] 24))); rw [show decide (n ≤ 403) = true from by simpa using hw] at h; exact h)
  have HC := Lib.hid hc; clear hc
  go_wp2_with fail
  refine HC.out.mono ?_
  rintro e w_10 ⟨rfl, hb⟩
  clear HC
  have bel_11 := Lib.hid (Below.trans bel_5.out (Below.mono hb (bel_5.out.size)))
  clear bel_5
  have x_12 := Lib.hid (RdI.below x_6.out hb)
  clear x_6
  have y_13 := Lib.hid (RdI.below y_7.out hb)
  clear y_7
  have rd_14 := Lib.hid (RdB.below rd_8.out hb)
  clear rd_8
  have srd_15 := Lib.hid (Blk.keep srd_9.out hb)
  clear srd_9
  clear hb
  have z_16 : (w_10).cell? ⟨w.heap.size, 0, none⟩ = some (.int .i64 P) := Blk.cell srd_15.out 0
  have z_17 : (w_10).cell? ⟨w.heap.size, 1, none⟩ = some (.slice A n k) := Blk.cell srd_15.out 1
  have hc := Solve_any P A n k l _ rd_14.out hn
  rw [E1.out] at hc
  unfold RetI at hc; dsimp only at hc
  have HC := Lib.hid hc; clear hc
  go_wp2_with fail
  refine HC.out.mono ?_
  rintro e w_18 ⟨Az, nz, cz, rfl, ho, hb⟩
  clear HC
  clear z_16 z_17
  have bel_19 := Lib.hid (Below.trans bel_11.out (Below.mono hb (bel_11.out.size)))
  clear bel_11
  have x_20 := Lib.hid (RdI.below x_12.out hb)
  clear x_12
  have y_21 := Lib.hid (RdI.below y_13.out hb)
  clear y_13
  have rd_22 := Lib.hid (RdB.below rd_14.out hb)
  clear rd_14
  have srd_23 := Lib.hid (Blk.keep srd_15.out hb)
  clear srd_15
  have z_24 := Lib.hid ((OwnI.rd ho).1)
  obtain rfl : nz = Z.length := z_24.out.len.symm
  clear ho hb
  have z_25 : (w_18).cell? ⟨w.heap.size, 0, none⟩ = some (.int .i64 P) := Blk.cell srd_23.out 0
  have z_26 : (w_18).cell? ⟨w.heap.size, 1, none⟩ = some (.slice A n k) := Blk.cell srd_23.out 1
  have hc := Circle_any P A n k l _ rd_22.out hn
  rw [E2.out] at hc
  unfold RetI at hc; dsimp only at hc
  have HC := Lib.hid hc; clear hc
  go_wp2_with fail
  refine HC.out.mono ?_
  rintro e w_27 ⟨Ac, nc, cc, rfl, ho, hb⟩
  clear HC
  clear z_25 z_26
  have bel_28 := Lib.hid (Below.trans bel_19.out (Below.mono hb (bel_19.out.size)))
  clear bel_19
  have x_29 := Lib.hid (RdI.below x_20.out hb)
  clear x_20
  have y_30 := Lib.hid (RdI.below y_21.out hb)
  clear y_21
  have rd_31 := Lib.hid (RdB.below rd_22.out hb)
  clear rd_22
  have srd_32 := Lib.hid (Blk.keep srd_23.out hb)
  clear srd_23
  have z_33 := Lib.hid (RdI.below z_24.out hb)
  clear z_24
  have c_34 := Lib.hid ((OwnI.rd ho).1)
  obtain rfl : nc = 0 := c_34.out.len.symm
  clear ho hb
  have z_35 : (w_27).cell? ⟨w.heap.size, 0, none⟩ = some (.int .i64 P) := Blk.cell srd_32.out 0
  have z_36 : (w_27).cell? ⟨w.heap.size, 1, none⟩ = some (.slice A n k) := Blk.cell srd_32.out 1
  have hc := Keeps_any P A Az n k Z.length cz l Z _ rd_31.out hn z_33.out (by unfold maxLen; omega)
  rw [E3.out] at hc
  dsimp only at hc
  have HC := Lib.hid hc; clear hc
  go_wp2_with fail
  refine HC.out.mono ?_
  rintro e w_37 ⟨rfl, hb⟩
  clear HC
  clear z_35 z_36
  have bel_38 := Lib.hid (Below.trans bel_28.out (Below.mono hb (bel_28.out.size)))
  clear bel_28
  have x_39 := Lib.hid (RdI.below x_29.out hb)
  clear x_29
  have y_40 := Lib.hid (RdI.below y_30.out hb)
  clear y_30
  have rd_41 := Lib.hid (RdB.below rd_31.out hb)
  clear rd_31
  have srd_42 := Lib.hid (Blk.keep srd_32.out hb)
  clear srd_32
  have z_43 := Lib.hid (RdI.below z_33.out hb)
  clear z_33
  have c_44 := Lib.hid (RdI.below c_34.out hb)
  clear c_34
  clear hb
  have z_45 : (w_37).cell? ⟨w.heap.size, 0, none⟩ = some (.int .i64 P) := Blk.cell srd_42.out 0
  have z_46 : (w_37).cell? ⟨w.heap.size, 1, none⟩ = some (.slice A n k) := Blk.cell srd_42.out 1
  have hc := CheckCircle_any P A C n k m2 d2 l y _ rd_41.out hn y_40.out hm2
  rw [E4.out] at hc
  dsimp only at hc
  have HC := Lib.hid hc; clear hc
  go_wp2_with fail
  refine HC.out.mono ?_
  rintro e w_47 ⟨rfl, hb⟩
  clear HC
  clear z_45 z_46
  have bel_48 := Lib.hid (Below.trans bel_38.out (Below.mono hb (bel_38.out.size)))
  clear bel_38
  have x_49 := Lib.hid (RdI.below x_39.out hb)
  clear x_39
  have y_50 := Lib.hid (RdI.below y_40.out hb)
  clear y_40
  have rd_51 := Lib.hid (RdB.below rd_41.out hb)
  clear rd_41
  have srd_52 := Lib.hid (Blk.keep srd_42.out hb)
  clear srd_42
  have z_53 := Lib.hid (RdI.below z_43.out hb)
  clear z_43
  have c_54 := Lib.hid (RdI.below c_44.out hb)
  clear c_44
  clear hb
  have z_55 : (w_47).cell? ⟨w.heap.size, 0, none⟩ = some (.int .i64 P) := Blk.cell srd_52.out 0
  have z_56 : (w_47).cell? ⟨w.heap.size, 1, none⟩ = some (.slice A n k) := Blk.cell srd_52.out 1
  go_wp2_with fail
  refine (alive_ok _).mono ?_
  rintro e w_57 ⟨rfl, hb⟩
  clear z_55 z_56
  have bel_58 := Lib.hid (Below.trans bel_48.out (Below.mono hb (bel_48.out.size)))
  clear bel_48
  have x_59 := Lib.hid (RdI.below x_49.out hb)
  clear x_49
  have y_60 := Lib.hid (RdI.below y_50.out hb)
  clear y_50
  have rd_61 := Lib.hid (RdB.below rd_51.out hb)
  clear rd_51
  have srd_62 := Lib.hid (Blk.keep srd_52.out hb)
  clear srd_52
  have z_63 := Lib.hid (RdI.below z_53.out hb)
  clear z_53
  have c_64 := Lib.hid (RdI.below c_54.out hb)
  clear c_54
  clear hb
  go_wp2
  go_ret
  exact ⟨rfl, bel_58.out⟩

set_option maxRecDepth 100000 in
set_option maxHeartbeats 4000000 in
theorem ei_circ0 (P : Int) (A : Option Addr) (n k : Nat) (l : List Bnd) (w : World) (hr : RdB w A n k l) (hn : n ≤ maxLen) (B : Option Addr) (m d : Nat) (x : List Int) (hx : RdI w B m d x) (hm : m ≤ maxLen) (C : Option Addr) (m2 d2 : Nat) (y : List Int) (hy : RdI w C m2 d2 y) (hm2 : m2 ≤ maxLen) (hw : n ≤ 403) (h7 : m ≤ 70) (h8 : m2 ≤ 70) (Z : List Int) (hZ : Z.length ≤ 60) (E1 : Hid (solveV P l = ([], false, 0))) (E2 : Hid (circleV P l = (Z, true, 0))) (E3 : Hid (checkCircleV P l Z = (true, 0))) (E4 : Hid (keepsV P l x = (false, 0))) :
    Calls Try.prog 11 #[.agg #[.int .i64 P, .slice A n k], .slice B m d, .slice C m2 d2] w fun e w' => e = .returned (.bool true) ∧ Below w.heap.size w w' := by
  go_enter Try.func11, Try.ntmps11
  have bel_1 := Lib.hid (show Below w.heap.size w w from Below.refl _ w)
  have x_2 := Lib.hid (hx)
  clear hx
  have y_3 := Lib.hid (hy)
  clear hy
  have rd_4 := Lib.hid (hr)
  clear hr
  have bel_5 := Lib.hid (Below.alloc bel_1.out (bel_1.out.size) (.cells #[.int .i64 P, .slice A n k] 24))
  clear bel_1
  have x_6 := Lib.hid (RdI.alloc x_2.out (.cells #[.int .i64 P, .slice A n k] 24))
  clear x_2
  have y_7 := Lib.hid (RdI.alloc y_3.out (.cells #[.int .i64 P, .slice A n k] 24))
  clear y_3
  have rd_8 := Lib.hid (RdB.alloc rd_4.out (.cells #[.int .i64 P, .slice A n k] 24))
  clear rd_4
  have srd_9 := Lib.hid (Blk.new w 24 #[.int .i64 P, .slice A n k])
  have hc := (show Calls Try.prog 18 #[.agg #[.int .i64 P, .slice A n k]] ((w.alloc (.cells #[.int .i64 P, .slice A n k] 24))) fun e w' => e = .returned (.bool true) ∧ Below ((w.alloc (.cells #[.int .i64 P, .slice A n k] 24))).heap.size ((w.alloc (.cells #[.int .i64 P, .slice A n k] 24))) w' from by have h := wide_any P A n k ((w.alloc (.cells #[.int .i64 P, .slice A n k] 24))); rw [show decide (n ≤ 403) = true from by simpa using hw] at h; exact h)
  have HC := Lib.hid hc; clear hc
  go_wp2_with fail
  refine HC.out.mono ?_
  rintro e w_10 ⟨rfl, hb⟩
  clear HC
  have bel_11 := Lib.hid (Below.trans bel_5.out (Below.mono hb (bel_5.out.size)))
  clear bel_5
  have x_12 := Lib.hid (RdI.below x_6.out hb)
  clear x_6
  have y_13 := Lib.hid (RdI.below y_7.out hb)
  clear y_7
  have rd_14 := Lib.hid (RdB.below rd_8.out hb)
  clear rd_8
  have srd_15 := Lib.hid (Blk.keep srd_9.out hb)
  clear srd_9
  clear hb
  have z_16 : (w_10).cell? ⟨w.heap.size, 0, none⟩ = some (.int .i64 P) := Blk.cell srd_15.out 0
  have z_17 : (w_10).cell? ⟨w.heap.size, 1, none⟩ = some (.slice A n k) := Blk.cell srd_15.out 1
  have hc := Solve_any P A n k l _ rd_14.out hn
  rw [E1.out] at hc
  unfold RetI at hc; dsimp only at hc
  have HC := Lib.hid hc; clear hc
  go_wp2_with fail
  refine HC.out.mono ?_
  rintro e w_18 ⟨Az, nz, cz, rfl, ho, hb⟩
  clear HC
  clear z_16 z_17
  have bel_19 := Lib.hid (Below.trans bel_11.out (Below.mono hb (bel_11.out.size)))
  clear bel_11
  have x_20 := Lib.hid (RdI.below x_12.out hb)
  clear x_12
  have y_21 := Lib.hid (RdI.below y_13.out hb)
  clear y_13
  have rd_22 := Lib.hid (RdB.below rd_14.out hb)
  clear rd_14
  have srd_23 := Lib.hid (Blk.keep srd_15.out hb)
  clear srd_15
  have z_24 := Lib.hid ((OwnI.rd ho).1)
  obtain rfl : nz = 0 := z_24.out.len.symm
  clear ho hb
  have z_25 : (w_18).cell? ⟨w.heap.size, 0, none⟩ = some (.int .i64 P) := Blk.cell srd_23.out 0
  have z_26 : (w_18).cell? ⟨w.heap.size, 1, none⟩ = some (.slice A n k) := Blk.cell srd_23.out 1
  have hc := Circle_any P A n k l _ rd_22.out hn
  rw [E2.out] at hc
  unfold RetI at hc; dsimp only at hc
  have HC := Lib.hid hc; clear hc
  go_wp2_with fail
  refine HC.out.mono ?_
  rintro e w_27 ⟨Ac, nc, cc, rfl, ho, hb⟩
  clear HC
  clear z_25 z_26
  have bel_28 := Lib.hid (Below.trans bel_19.out (Below.mono hb (bel_19.out.size)))
  clear bel_19
  have x_29 := Lib.hid (RdI.below x_20.out hb)
  clear x_20
  have y_30 := Lib.hid (RdI.below y_21.out hb)
  clear y_21
  have rd_31 := Lib.hid (RdB.below rd_22.out hb)
  clear rd_22
  have srd_32 := Lib.hid (Blk.keep srd_23.out hb)
  clear srd_23
  have z_33 := Lib.hid (RdI.below z_24.out hb)
  clear z_24
  have c_34 := Lib.hid ((OwnI.rd ho).1)
  obtain rfl : nc = Z.length := c_34.out.len.symm
  clear ho hb
  have z_35 : (w_27).cell? ⟨w.heap.size, 0, none⟩ = some (.int .i64 P) := Blk.cell srd_32.out 0
  have z_36 : (w_27).cell? ⟨w.heap.size, 1, none⟩ = some (.slice A n k) := Blk.cell srd_32.out 1
  have hc := CheckCircle_any P A Ac n k Z.length cc l Z _ rd_31.out hn c_34.out (by unfold maxLen; omega)
  rw [E3.out] at hc
  dsimp only at hc
  have HC := Lib.hid hc; clear hc
  go_wp2_with fail
  refine HC.out.mono ?_
  rintro e w_37 ⟨rfl, hb⟩
  clear HC
  clear z_35 z_36
  have bel_38 := Lib.hid (Below.trans bel_28.out (Below.mono hb (bel_28.out.size)))
  clear bel_28
  have x_39 := Lib.hid (RdI.below x_29.out hb)
  clear x_29
  have y_40 := Lib.hid (RdI.below y_30.out hb)
  clear y_30
  have rd_41 := Lib.hid (RdB.below rd_31.out hb)
  clear rd_31
  have srd_42 := Lib.hid (Blk.keep srd_32.out hb)
  clear srd_32
  have z_43 := Lib.hid (RdI.below z_33.out hb)
  clear z_33
  have c_44 := Lib.hid (RdI.below c_34.out hb)
  clear c_34
  clear hb
  have z_45 : (w_37).cell? ⟨w.heap.size, 0, none⟩ = some (.int .i64 P) := Blk.cell srd_42.out 0
  have z_46 : (w_37).cell? ⟨w.heap.size, 1, none⟩ = some (.slice A n k) := Blk.cell srd_42.out 1
  have hc := Keeps_any P A B n k m d l x _ rd_41.out hn x_39.out hm
  rw [E4.out] at hc
  dsimp only at hc
  have HC := Lib.hid hc; clear hc
  go_wp2_with fail
  refine HC.out.mono ?_
  rintro e w_47 ⟨rfl, hb⟩
  clear HC
  clear z_45 z_46
  have bel_48 := Lib.hid (Below.trans bel_38.out (Below.mono hb (bel_38.out.size)))
  clear bel_38
  have x_49 := Lib.hid (RdI.below x_39.out hb)
  clear x_39
  have y_50 := Lib.hid (RdI.below y_40.out hb)
  clear y_40
  have rd_51 := Lib.hid (RdB.below rd_41.out hb)
  clear rd_41
  have srd_52 := Lib.hid (Blk.keep srd_42.out hb)
  clear srd_42
  have z_53 := Lib.hid (RdI.below z_43.out hb)
  clear z_43
  have c_54 := Lib.hid (RdI.below c_44.out hb)
  clear c_44
  clear hb
  have z_55 : (w_47).cell? ⟨w.heap.size, 0, none⟩ = some (.int .i64 P) := Blk.cell srd_52.out 0
  have z_56 : (w_47).cell? ⟨w.heap.size, 1, none⟩ = some (.slice A n k) := Blk.cell srd_52.out 1
  go_wp2_with fail
  refine (alive_ok _).mono ?_
  rintro e w_57 ⟨rfl, hb⟩
  clear z_55 z_56
  have bel_58 := Lib.hid (Below.trans bel_48.out (Below.mono hb (bel_48.out.size)))
  clear bel_48
  have x_59 := Lib.hid (RdI.below x_49.out hb)
  clear x_49
  have y_60 := Lib.hid (RdI.below y_50.out hb)
  clear y_50
  have rd_61 := Lib.hid (RdB.below rd_51.out hb)
  clear rd_51
  have srd_62 := Lib.hid (Blk.keep srd_52.out hb)
  clear srd_52
  have z_63 := Lib.hid (RdI.below z_53.out hb)
  clear z_53
  have c_64 := Lib.hid (RdI.below c_54.out hb)
  clear c_54
  clear hb
  go_wp2
  go_ret
  exact ⟨rfl, bel_58.out⟩

set_option maxRecDepth 100000 in
set_option maxHeartbeats 4000000 in
theorem ei_circ1 (P : Int) (A : Option Addr) (n k : Nat) (l : List Bnd) (w : World) (hr : RdB w A n k l) (hn : n ≤ maxLen) (B : Option Addr) (m d : Nat) (x : List Int) (hx : RdI w B m d x) (hm : m ≤ maxLen) (C : Option Addr) (m2 d2 : Nat) (y : List Int) (hy : RdI w C m2 d2 y) (hm2 : m2 ≤ maxLen) (hw : n ≤ 403) (h7 : m ≤ 70) (h8 : m2 ≤ 70) (Z : List Int) (hZ : Z.length ≤ 60) (E1 : Hid (solveV P l = ([], false, 0))) (E2 : Hid (circleV P l = (Z, true, 0))) (E3 : Hid (checkCircleV P l Z = (true, 0))) (E4 : Hid (keepsV P l x = (false, 1))) :
    Calls Try.prog 11 #[.agg #[.int .i64 P, .slice A n k], .slice B m d, .slice C m2 d2] w fun e w' => e = .returned (.bool true) ∧ Below w.heap.size w w' := by
  go_enter Try.func11, Try.ntmps11
  have bel_1 := Lib.hid (show Below w.heap.size w w from Below.refl _ w)
  have x_2 := Lib.hid (hx)
  clear hx
  have y_3 := Lib.hid (hy)
  clear hy
  have rd_4 := Lib.hid (hr)
  clear hr
  have bel_5 := Lib.hid (Below.alloc bel_1.out (bel_1.out.size) (.cells #[.int .i64 P, .slice A n k] 24))
  clear bel_1
  have x_6 := Lib.hid (RdI.alloc x_2.out (.cells #[.int .i64 P, .slice A n k] 24))
  clear x_2
  have y_7 := Lib.hid (RdI.alloc y_3.out (.cells #[.int .i64 P, .slice A n k] 24))
  clear y_3
  have rd_8 := Lib.hid (RdB.alloc rd_4.out (.cells #[.int .i64 P, .slice A n k] 24))
  clear rd_4
  have srd_9 := Lib.hid (Blk.new w 24 #[.int .i64 P, .slice A n k])
  have hc := (show Calls Try.prog 18 #[.agg #[.int .i64 P, .slice A n k]] ((w.alloc (.cells #[.int .i64 P, .slice A n k] 24))) fun e w' => e = .returned (.bool true) ∧ Below ((w.alloc (.cells #[.int .i64 P, .slice A n k] 24))).heap.size ((w.alloc (.cells #[.int .i64 P, .slice A n k] 24))) w' from by have h := wide_any P A n k ((w.alloc (.cells #[.int .i64 P, .slice A n k] 24))); rw [show decide (n ≤ 403) = true from by simpa using hw] at h; exact h)
  have HC := Lib.hid hc; clear hc
  go_wp2_with fail
  refine HC.out.mono ?_
  rintro e w_10 ⟨rfl, hb⟩
  clear HC
  have bel_11 := Lib.hid (Below.trans bel_5.out (Below.mono hb (bel_5.out.size)))
  clear bel_5
  have x_12 := Lib.hid (RdI.below x_6.out hb)
  clear x_6
  have y_13 := Lib.hid (RdI.below y_7.out hb)
  clear y_7
  have rd_14 := Lib.hid (RdB.below rd_8.out hb)
  clear rd_8
  have srd_15 := Lib.hid (Blk.keep srd_9.out hb)
  clear srd_9
  clear hb
  have z_16 : (w_10).cell? ⟨w.heap.size, 0, none⟩ = some (.int .i64 P) := Blk.cell srd_15.out 0
  have z_17 : (w_10).cell? ⟨w.heap.size, 1, none⟩ = some (.slice A n k) := Blk.cell srd_15.out 1
  have hc := Solve_any P A n k l _ rd_14.out hn
  rw [E1.out] at hc
  unfold RetI at hc; dsimp only at hc
  have HC := Lib.hid hc; clear hc
  go_wp2_with fail
  refine HC.out.mono ?_
  rintro e w_18 ⟨Az, nz, cz, rfl, ho, hb⟩
  clear HC
  clear z_16 z_17
  have bel_19 := Lib.hid (Below.trans bel_11.out (Below.mono hb (bel_11.out.size)))
  clear bel_11
  have x_20 := Lib.hid (RdI.below x_12.out hb)
  clear x_12
  have y_21 := Lib.hid (RdI.below y_13.out hb)
  clear y_13
  have rd_22 := Lib.hid (RdB.below rd_14.out hb)
  clear rd_14
  have srd_23 := Lib.hid (Blk.keep srd_15.out hb)
  clear srd_15
  have z_24 := Lib.hid ((OwnI.rd ho).1)
  obtain rfl : nz = 0 := z_24.out.len.symm
  clear ho hb
  have z_25 : (w_18).cell? ⟨w.heap.size, 0, none⟩ = some (.int .i64 P) := Blk.cell srd_23.out 0
  have z_26 : (w_18).cell? ⟨w.heap.size, 1, none⟩ = some (.slice A n k) := Blk.cell srd_23.out 1
  have hc := Circle_any P A n k l _ rd_22.out hn
  rw [E2.out] at hc
  unfold RetI at hc; dsimp only at hc
  have HC := Lib.hid hc; clear hc
  go_wp2_with fail
  refine HC.out.mono ?_
  rintro e w_27 ⟨Ac, nc, cc, rfl, ho, hb⟩
  clear HC
  clear z_25 z_26
  have bel_28 := Lib.hid (Below.trans bel_19.out (Below.mono hb (bel_19.out.size)))
  clear bel_19
  have x_29 := Lib.hid (RdI.below x_20.out hb)
  clear x_20
  have y_30 := Lib.hid (RdI.below y_21.out hb)
  clear y_21
  have rd_31 := Lib.hid (RdB.below rd_22.out hb)
  clear rd_22
  have srd_32 := Lib.hid (Blk.keep srd_23.out hb)
  clear srd_23
  have z_33 := Lib.hid (RdI.below z_24.out hb)
  clear z_24
  have c_34 := Lib.hid ((OwnI.rd ho).1)
  obtain rfl : nc = Z.length := c_34.out.len.symm
  clear ho hb
  have z_35 : (w_27).cell? ⟨w.heap.size, 0, none⟩ = some (.int .i64 P) := Blk.cell srd_32.out 0
  have z_36 : (w_27).cell? ⟨w.heap.size, 1, none⟩ = some (.slice A n k) := Blk.cell srd_32.out 1
  have hc := CheckCircle_any P A Ac n k Z.length cc l Z _ rd_31.out hn c_34.out (by unfold maxLen; omega)
  rw [E3.out] at hc
  dsimp only at hc
  have HC := Lib.hid hc; clear hc
  go_wp2_with fail
  refine HC.out.mono ?_
  rintro e w_37 ⟨rfl, hb⟩
  clear HC
  clear z_35 z_36
  have bel_38 := Lib.hid (Below.trans bel_28.out (Below.mono hb (bel_28.out.size)))
  clear bel_28
  have x_39 := Lib.hid (RdI.below x_29.out hb)
  clear x_29
  have y_40 := Lib.hid (RdI.below y_30.out hb)
  clear y_30
  have rd_41 := Lib.hid (RdB.below rd_31.out hb)
  clear rd_31
  have srd_42 := Lib.hid (Blk.keep srd_32.out hb)
  clear srd_32
  have z_43 := Lib.hid (RdI.below z_33.out hb)
  clear z_33
  have c_44 := Lib.hid (RdI.below c_34.out hb)
  clear c_34
  clear hb
  have z_45 : (w_37).cell? ⟨w.heap.size, 0, none⟩ = some (.int .i64 P) := Blk.cell srd_42.out 0
  have z_46 : (w_37).cell? ⟨w.heap.size, 1, none⟩ = some (.slice A n k) := Blk.cell srd_42.out 1
  have hc := Keeps_any P A B n k m d l x _ rd_41.out hn x_39.out hm
  rw [E4.out] at hc
  dsimp only at hc
  have HC := Lib.hid hc; clear hc
  go_wp2_with fail
  refine HC.out.mono ?_
  rintro e w_47 ⟨rfl, hb⟩
  clear HC
  clear z_45 z_46
  have bel_48 := Lib.hid (Below.trans bel_38.out (Below.mono hb (bel_38.out.size)))
  clear bel_38
  have x_49 := Lib.hid (RdI.below x_39.out hb)
  clear x_39
  have y_50 := Lib.hid (RdI.below y_40.out hb)
  clear y_40
  have rd_51 := Lib.hid (RdB.below rd_41.out hb)
  clear rd_41
  have srd_52 := Lib.hid (Blk.keep srd_42.out hb)
  clear srd_42
  have z_53 := Lib.hid (RdI.below z_43.out hb)
  clear z_43
  have c_54 := Lib.hid (RdI.below c_44.out hb)
  clear c_44
  clear hb
  have z_55 : (w_47).cell? ⟨w.heap.size, 0, none⟩ = some (.int .i64 P) := Blk.cell srd_52.out 0
  have z_56 : (w_47).cell? ⟨w.heap.size, 1, none⟩ = some (.slice A n k) := Blk.cell srd_52.out 1
  go_wp2_with fail
  refine (alive_ok _).mono ?_
  rintro e w_57 ⟨rfl, hb⟩
  clear z_55 z_56
  have bel_58 := Lib.hid (Below.trans bel_48.out (Below.mono hb (bel_48.out.size)))
  clear bel_48
  have x_59 := Lib.hid (RdI.below x_49.out hb)
  clear x_49
  have y_60 := Lib.hid (RdI.below y_50.out hb)
  clear y_50
  have rd_61 := Lib.hid (RdB.below rd_51.out hb)
  clear rd_51
  have srd_62 := Lib.hid (Blk.keep srd_52.out hb)
  clear srd_52
  have z_63 := Lib.hid (RdI.below z_53.out hb)
  clear z_53
  have c_64 := Lib.hid (RdI.below c_54.out hb)
  clear c_54
  clear hb
  go_wp2
  go_ret
  exact ⟨rfl, bel_58.out⟩
end Go.Proofs.Ythlnialipjihdaa
