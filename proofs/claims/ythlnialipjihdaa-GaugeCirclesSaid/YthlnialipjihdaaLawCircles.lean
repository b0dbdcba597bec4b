/- For every system and list of indices GaugeCircles returns true: CheckCircle returns what the reference returns, and Circle a circle that it accepts, with the fewest bounds. No condition. -/
import Derived.Test.YthlnialipjihdaaRows
import Derived.Test.YthlnialipjihdaaRFewest
import Derived.Test.YthlnialipjihdaaRCheck
import Derived.Test.YthlnialipjihdaaRPathM
import Derived.Test.YthlnialipjihdaaShz
set_option linter.unusedSimpArgs false
set_option linter.unusedVariables false
namespace Go.Proofs.Ythlnialipjihdaa
open Go.ChangeShapes Go.WideShapes Go.ChangeAt Go.RowKit

set_option maxRecDepth 100000 in
set_option maxHeartbeats 4000000 in
theorem ci_w1 (P : Int) (A : Option Addr) (n k : Nat) (l : List Bnd) (w : World) (hr : RdB w A n k l) (hn : n ≤ maxLen) (B : Option Addr) (m d : Nat) (x : List Int) (hx : RdI w B m d x) (hm : m ≤ maxLen) (hw : ¬ n ≤ 403) :
    Calls Try.prog 5 #[.agg #[.int .i64 P, .slice A n k], .slice B m d] w fun e w' => e = .returned (.bool true) ∧ Below w.heap.size w w' := by
  go_enter Try.func5, Try.ntmps5
  have bel_1 := Lib.hid (show Below w.heap.size w w from Below.refl _ w)
  have x_2 := Lib.hid (hx)
  clear hx
  have rd_3 := Lib.hid (hr)
  clear hr
  have bel_4 := Lib.hid (Below.alloc bel_1.out (bel_1.out.size) (.cells #[.int .i64 P, .slice A n k] 24))
  clear bel_1
  have x_5 := Lib.hid (RdI.alloc x_2.out (.cells #[.int .i64 P, .slice A n k] 24))
  clear x_2
  have rd_6 := Lib.hid (RdB.alloc rd_3.out (.cells #[.int .i64 P, .slice A n k] 24))
  clear rd_3
  have srd_7 := Lib.hid (Blk.new w 24 #[.int .i64 P, .slice A n k])
  have hc := (show Calls Try.prog 18 #[.agg #[.int .i64 P, .slice A n k]] ((w.alloc (.cells #[.int .i64 P, .slice A n k] 24))) fun e w' => e = .returned (.bool false) ∧ Below ((w.alloc (.cells #[.int .i64 P, .slice A n k] 24))).heap.size ((w.alloc (.cells #[.int .i64 P, .slice A n k] 24))) w' from by have h := wide_any P A n k ((w.alloc (.cells #[.int .i64 P, .slice A n k] 24))); rw [show decide (n ≤ 403) = false from by simpa using hw] at h; exact h)
  have HC := Lib.hid hc; clear hc
  go_wp2_with fail
  refine HC.out.mono ?_
  rintro e w_8 ⟨rfl, hb⟩
  clear HC
  have bel_9 := Lib.hid (Below.trans bel_4.out (Below.mono hb (bel_4.out.size)))
  clear bel_4
  have x_10 := Lib.hid (RdI.below x_5.out hb)
  clear x_5
  have rd_11 := Lib.hid (RdB.below rd_6.out hb)
  clear rd_6
  have srd_12 := Lib.hid (Blk.keep srd_7.out hb)
  clear srd_7
  clear hb
  have z_13 : (w_8).cell? ⟨w.heap.size, 0, none⟩ = some (.int .i64 P) := Blk.cell srd_12.out 0
  have z_14 : (w_8).cell? ⟨w.heap.size, 1, none⟩ = some (.slice A n k) := Blk.cell srd_12.out 1
  go_wp2_with fail
  refine (alive_ok _).mono ?_
  rintro e w_15 ⟨rfl, hb⟩
  clear z_13 z_14
  have bel_16 := Lib.hid (Below.trans bel_9.out (Below.mono hb (bel_9.out.size)))
  clear bel_9
  have x_17 := Lib.hid (RdI.below x_10.out hb)
  clear x_10
  have rd_18 := Lib.hid (RdB.below rd_11.out hb)
  clear rd_11
  have srd_19 := Lib.hid (Blk.keep srd_12.out hb)
  clear srd_12
  clear hb
  go_wp2
  go_ret
  exact ⟨rfl, bel_16.out⟩

set_option maxRecDepth 100000 in
set_option maxHeartbeats 4000000 in
theorem ci_w2 (P : Int) (A : Option Addr) (n k : Nat) (l : List Bnd) (w : World) (hr : RdB w A n k l) (hn : n ≤ maxLen) (B : Option Addr) (m d : Nat) (x : List Int) (hx : RdI w B m d x) (hm : m ≤ maxLen) (hw : n ≤ 403) (h7 : 70 < m) :
    Calls Try.prog 5 #[.agg #[.int .i64 P, .slice A n k], .slice B m d] w fun e w' => e = .returned (.bool true) ∧ Below w.heap.size w w' := by
  go_enter Try.func5, Try.ntmps5
  have bel_1 := Lib.hid (show Below w.heap.size w w from Below.refl _ w)
  have x_2 := Lib.hid (hx)
  clear hx
  have rd_3 := Lib.hid (hr)
  clear hr
  have bel_4 := Lib.hid (Below.alloc bel_1.out (bel_1.out.size) (.cells #[.int .i64 P, .slice A n k] 24))
  clear bel_1
  have x_5 := Lib.hid (RdI.alloc x_2.out (.cells #[.int .i64 P, .slice A n k] 24))
  clear x_2
  have rd_6 := Lib.hid (RdB.alloc rd_3.out (.cells #[.int .i64 P, .slice A n k] 24))
  clear rd_3
  have srd_7 := Lib.hid (Blk.new w 24 #[.int .i64 P, .slice A n k])
  have hc := (show Calls Try.prog 18 #[.agg #[.int .i64 P, .slice A n k]] ((w.alloc (.cells #[.int .i64 P, .slice A n k] 24))) fun e w' => e = .returned (.bool true) ∧ Below ((w.alloc (.cells #[.int .i64 P, .slice A n k] 24))).heap.size ((w.alloc (.cells #[.int .i64 P, .slice A n k] 24))) w' from by have h := wide_any P A n k ((w.alloc (.cells #[.int .i64 P, .slice A n k] 24))); rw [show decide (n ≤ 403) = true from by simpa using hw] at h; exact h)
  have HC := Lib.hid hc; clear hc
  go_wp2_with fail
  refine HC.out.mono ?_
  rintro e w_8 ⟨rfl, hb⟩
  clear HC
  have bel_9 := Lib.hid (Below.trans bel_4.out (Below.mono hb (bel_4.out.size)))
  clear bel_4
  have x_10 := Lib.hid (RdI.below x_5.out hb)
  clear x_5
  have rd_11 := Lib.hid (RdB.below rd_6.out hb)
  clear rd_6
  have srd_12 := Lib.hid (Blk.keep srd_7.out hb)
  clear srd_7
  clear hb
  have z_13 : (w_8).cell? ⟨w.heap.size, 0, none⟩ = some (.int .i64 P) := Blk.cell srd_12.out 0
  have z_14 : (w_8).cell? ⟨w.heap.size, 1, none⟩ = some (.slice A n k) := Blk.cell srd_12.out 1
  go_wp2_with fail
  refine (alive_ok _).mono ?_
  rintro e w_15 ⟨rfl, hb⟩
  clear z_13 z_14
  have bel_16 := Lib.hid (Below.trans bel_9.out (Below.mono hb (bel_9.out.size)))
  clear bel_9
  have x_17 := Lib.hid (RdI.below x_10.out hb)
  clear x_10
  have rd_18 := Lib.hid (RdB.below rd_11.out hb)
  clear rd_11
  have srd_19 := Lib.hid (Blk.keep srd_12.out hb)
  clear srd_12
  clear hb
  go_wp2
  go_ret
  exact ⟨rfl, bel_16.out⟩

set_option maxRecDepth 100000 in
set_option maxHeartbeats 4000000 in
theorem ci_err (P : Int) (A : Option Addr) (n k : Nat) (l : List Bnd) (w : World) (hr : RdB w A n k l) (hn : n ≤ maxLen) (B : Option Addr) (m d : Nat) (x : List Int) (hx : RdI w B m d x) (hm : m ≤ maxLen) (hw : n ≤ 403) (h7 : m ≤ 70) (t : Bool) (q : Int) (hq : (q != 0) = true) (E1 : Hid (checkCircleV P l x = (t, q))) (E2 : Hid (circleV P l = ([], false, q))) :
    Calls Try.prog 5 #[.agg #[.int .i64 P, .slice A n k], .slice B m d] w fun e w' => e = .returned (.bool true) ∧ Below w.heap.size w w' := by
  go_enter Try.func5, Try.ntmps5
  have bel_1 := Lib.hid (show Below w.heap.size w w from Below.refl _ w)
  have x_2 := Lib.hid (hx)
  clear hx
  have rd_3 := Lib.hid (hr)
  clear hr
  have bel_4 := Lib.hid (Below.alloc bel_1.out (bel_1.out.size) (.cells #[.int .i64 P, .slice A n k] 24))
  clear bel_1
  have x_5 := Lib.hid (RdI.alloc x_2.out (.cells #[.int .i64 P, .slice A n k] 24))
  clear x_2
  have rd_6 := Lib.hid (RdB.alloc rd_3.out (.cells #[.int .i64 P, .slice A n k] 24))
  clear rd_3
  have srd_7 := Lib.hid (Blk.new w 24 #[.int .i64 P, .slice A n k])
  have hc := (show Calls Try.prog 18 #[.agg #[.int .i64 P, .slice A n k]] ((w.alloc (.cells #[.int .i64 P, .slice A n k] 24))) fun e w' => e = .returned (.bool true) ∧ Below ((w.alloc (.cells #[.int .i64 P, .slice A n k] 24))).heap.size ((w.alloc (.cells #[.int .i64 P, .slice A n k] 24))) w' from by have h := wide_any P A n k ((w.alloc (.cells #[.int .i64 P, .slice A n k] 24))); rw [show decide (n ≤ 403) = true from by simpa using hw] at h; exact h)
  have HC := Lib.hid hc; clear hc
  go_wp2_with fail
  refine HC.out.mono ?_
  rintro e w_8 ⟨rfl, hb⟩
  clear HC
  have bel_9 := Lib.hid (Below.trans bel_4.out (Below.mono hb (bel_4.out.size)))
  clear bel_4
  have x_10 := Lib.hid (RdI.below x_5.out hb)
  clear x_5
  have rd_11 := Lib.hid (RdB.below rd_6.out hb)
  clear rd_6
  have srd_12 := Lib.hid (Blk.keep srd_7.out hb)
  clear srd_7
  clear hb
  have z_13 : (w_8).cell? ⟨w.heap.size, 0, none⟩ = some (.int .i64 P) := Blk.cell srd_12.out 0
  have z_14 : (w_8).cell? ⟨w.heap.size, 1, none⟩ = some (.slice A n k) := Blk.cell srd_12.out 1
  have hc := CheckCircle_any P A B n k m d l x _ rd_11.out hn x_10.out hm
  rw [E1.out] at hc
  try dsimp only at hc
  have HC := Lib.hid hc; clear hc
  go_wp2_with fail
  refine HC.out.mono ?_
  rintro e w_15 ⟨rfl, hb⟩
  clear HC
  clear z_13 z_14
  have bel_16 := Lib.hid (Below.trans bel_9.out (Below.mono hb (bel_9.out.size)))
  clear bel_9
  have x_17 := Lib.hid (RdI.below x_10.out hb)
  clear x_10
  have rd_18 := Lib.hid (RdB.below rd_11.out hb)
  clear rd_11
  have srd_19 := Lib.hid (Blk.keep srd_12.out hb)
  clear srd_12
  clear hb
  have z_20 : (w_15).cell? ⟨w.heap.size, 0, none⟩ = some (.int .i64 P) := Blk.cell srd_19.out 0
  have z_21 : (w_15).cell? ⟨w.heap.size, 1, none⟩ = some (.slice A n k) := Blk.cell srd_19.out 1
  have hc := rCheckCircle_any P A n k l _ rd_18.out hn B m d x x_17.out (by omega)
  rw [E1.out] at hc
  try dsimp only at hc
  have HC := Lib.hid hc; clear hc
  go_wp2_with fail
  refine HC.out.mono ?_
  rintro e w_22 ⟨rfl, hb⟩
  clear HC
  clear z_20 z_21
  have bel_23 := Lib.hid (Below.trans bel_16.out (Below.mono hb (bel_16.out.size)))
  clear bel_16
  have x_24 := Lib.hid (RdI.below x_17.out hb)
  clear x_17
  have rd_25 := Lib.hid (RdB.below rd_18.out hb)
  clear rd_18
  have srd_26 := Lib.hid (Blk.keep srd_19.out hb)
  clear srd_19
  clear hb
  have z_27 : (w_22).cell? ⟨w.heap.size, 0, none⟩ = some (.int .i64 P) := Blk.cell srd_26.out 0
  have z_28 : (w_22).cell? ⟨w.heap.size, 1, none⟩ = some (.slice A n k) := Blk.cell srd_26.out 1
  have hc := Circle_any P A n k l _ rd_25.out hn
  rw [E2.out] at hc
  unfold RetI at hc; dsimp only at hc
  have HC := Lib.hid hc; clear hc
  go_wp2_with fail
  refine HC.out.mono ?_
  rintro e w_29 ⟨Az, nz, cz, rfl, ho, hb⟩
  clear HC
  clear z_27 z_28
  have ow_30 := Lib.hid (owns_base ho (bel_23.out.size))
  have bel_31 := Lib.hid (Below.trans bel_23.out (Below.mono hb (bel_23.out.size)))
  clear bel_23
  have x_32 := Lib.hid (RdI.below x_24.out hb)
  clear x_24
  have rd_33 := Lib.hid (RdB.below rd_25.out hb)
  clear rd_25
  have srd_34 := Lib.hid (Blk.keep srd_26.out hb)
  clear srd_26
  have z_35 := Lib.hid ((OwnI.rd ho).1)
  obtain rfl : nz = 0 := z_35.out.len.symm
  clear ho hb
  have z_36 : (w_29).cell? ⟨w.heap.size, 0, none⟩ = some (.int .i64 P) := Blk.cell srd_34.out 0
  have z_37 : (w_29).cell? ⟨w.heap.size, 1, none⟩ = some (.slice A n k) := Blk.cell srd_34.out 1
  go_wp2_with fail
  refine (alive_ok _).mono ?_
  rintro e w_38 ⟨rfl, hb⟩
  clear z_36 z_37
  have bel_39 := Lib.hid (Below.trans bel_31.out (Below.mono hb (bel_31.out.size)))
  clear bel_31
  have x_40 := Lib.hid (RdI.below x_32.out hb)
  clear x_32
  have rd_41 := Lib.hid (RdB.below rd_33.out hb)
  clear rd_33
  have srd_42 := Lib.hid (Blk.keep srd_34.out hb)
  clear srd_34
  have ownz_43 := Lib.hid (owns_below ow_30.out hb)
  clear ow_30
  have z_44 := Lib.hid (RdI.below z_35.out hb)
  clear z_35
  clear hb
  go_wp2
  go_ret
  exact ⟨rfl, bel_39.out⟩

set_option maxRecDepth 100000 in
set_option maxHeartbeats 4000000 in
theorem ci_none (p : Nat) (A : Option Addr) (n k : Nat) (l : List Bnd) (w : World) (hr : RdB w A n k l) (hn : n ≤ maxLen) (B : Option Addr) (m d : Nat) (x : List Int) (hx : RdI w B m d x) (hm : m ≤ maxLen) (hw : n ≤ 403) (h7 : m ≤ 70) (hn4 : n ≤ 402) (hp1 : 1 ≤ p) (hp : p ≤ 60) (HE : Hid (∀ c ∈ l, 0 ≤ c.f ∧ c.f < p ∧ 0 ≤ c.t ∧ c.t < p ∧ -1000000 ≤ c.m ∧ c.m ≤ 1000000)) (t : Bool) (E1 : Hid (checkCircleV p l x = (t, 0))) (E2 : Hid (circleV p l = ([], false, 0))) (E3 : Hid (fewA l p p = 0)) :
    Calls Try.prog 5 #[.agg #[.int .i64 (p : Int), .slice A n k], .slice B m d] w fun e w' => e = .returned (.bool true) ∧ Below w.heap.size w w' := by
  go_enter Try.func5, Try.ntmps5
  have bel_1 := Lib.hid (show Below w.heap.size w w from Below.refl _ w)
  have x_2 := Lib.hid (hx)
  clear hx
  have rd_3 := Lib.hid (hr)
  clear hr
  have bel_4 := Lib.hid (Below.alloc bel_1.out (bel_1.out.size) (.cells #[.int .i64 (p : Int), .slice A n k] 24))
  clear bel_1
  have x_5 := Lib.hid (RdI.alloc x_2.out (.cells #[.int .i64 (p : Int), .slice A n k] 24))
  clear x_2
  have rd_6 := Lib.hid (RdB.alloc rd_3.out (.cells #[.int .i64 (p : Int), .slice A n k] 24))
  clear rd_3
  have srd_7 := Lib.hid (Blk.new w 24 #[.int .i64 (p : Int), .slice A n k])
  have hc := (show Calls Try.prog 18 #[.agg #[.int .i64 (p : Int), .slice A n k]] ((w.alloc (.cells #[.int .i64 (p : Int), .slice A n k] 24))) fun e w' => e = .returned (.bool true) ∧ Below ((w.alloc (.cells #[.int .i64 (p : Int), .slice A n k] 24))).heap.size ((w.alloc (.cells #[.int .i64 (p : Int), .slice A n k] 24))) w' from by have h := wide_any (p : Int) A n k ((w.alloc (.cells #[.int .i64 (p : Int), .slice A n k] 24))); rw [show decide (n ≤ 403) = true from by simpa using hw] at h; exact h)
  have HC := Lib.hid hc; clear hc
  go_wp2_with fail
  refine HC.out.mono ?_
  rintro e w_8 ⟨rfl, hb⟩
  clear HC
  have bel_9 := Lib.hid (Below.trans bel_4.out (Below.mono hb (bel_4.out.size)))
  clear bel_4
  have x_10 := Lib.hid (RdI.below x_5.out hb)
  clear x_5
  have rd_11 := Lib.hid (RdB.below rd_6.out hb)
  clear rd_6
  have srd_12 := Lib.hid (Blk.keep srd_7.out hb)
  clear srd_7
  clear hb
  have z_13 : (w_8).cell? ⟨w.heap.size, 0, none⟩ = some (.int .i64 (p : Int)) := Blk.cell srd_12.out 0
  have z_14 : (w_8).cell? ⟨w.heap.size, 1, none⟩ = some (.slice A n k) := Blk.cell srd_12.out 1
  have hc := CheckCircle_any (p : Int) A B n k m d l x _ rd_11.out hn x_10.out hm
  rw [E1.out] at hc
  try dsimp only at hc
  have HC := Lib.hid hc; clear hc
  go_wp2_with fail
  refine HC.out.mono ?_
  rintro e w_15 ⟨rfl, hb⟩
  clear HC
  clear z_13 z_14
  have bel_16 := Lib.hid (Below.trans bel_9.out (Below.mono hb (bel_9.out.size)))
  clear bel_9
  have x_17 := Lib.hid (RdI.below x_10.out hb)
  clear x_10
  have rd_18 := Lib.hid (RdB.below rd_11.out hb)
  clear rd_11
  have srd_19 := Lib.hid (Blk.keep srd_12.out hb)
  clear srd_12
  clear hb
  have z_20 : (w_15).cell? ⟨w.heap.size, 0, none⟩ = some (.int .i64 (p : Int)) := Blk.cell srd_19.out 0
  have z_21 : (w_15).cell? ⟨w.heap.size, 1, none⟩ = some (.slice A n k) := Blk.cell srd_19.out 1
  have hc := rCheckCircle_any (p : Int) A n k l _ rd_18.out hn B m d x x_17.out (by omega)
  rw [E1.out] at hc
  try dsimp only at hc
  have HC := Lib.hid hc; clear hc
  go_wp2_with fail
  refine HC.out.mono ?_
  rintro e w_22 ⟨rfl, hb⟩
  clear HC
  clear z_20 z_21
  have bel_23 := Lib.hid (Below.trans bel_16.out (Below.mono hb (bel_16.out.size)))
  clear bel_16
  have x_24 := Lib.hid (RdI.below x_17.out hb)
  clear x_17
  have rd_25 := Lib.hid (RdB.below rd_18.out hb)
  clear rd_18
  have srd_26 := Lib.hid (Blk.keep srd_19.out hb)
  clear srd_19
  clear hb
  have z_27 : (w_22).cell? ⟨w.heap.size, 0, none⟩ = some (.int .i64 (p : Int)) := Blk.cell srd_26.out 0
  have z_28 : (w_22).cell? ⟨w.heap.size, 1, none⟩ = some (.slice A n k) := Blk.cell srd_26.out 1
  have hc := Circle_any (p : Int) A n k l _ rd_25.out hn
  rw [E2.out] at hc
  unfold RetI at hc; dsimp only at hc
  have HC := Lib.hid hc; clear hc
  go_wp2_with fail
  refine HC.out.mono ?_
  rintro e w_29 ⟨Az, nz, cz, rfl, ho, hb⟩
  clear HC
  clear z_27 z_28
  have ow_30 := Lib.hid (owns_base ho (bel_23.out.size))
  have bel_31 := Lib.hid (Below.trans bel_23.out (Below.mono hb (bel_23.out.size)))
  clear bel_23
  have x_32 := Lib.hid (RdI.below x_24.out hb)
  clear x_24
  have rd_33 := Lib.hid (RdB.below rd_25.out hb)
  clear rd_25
  have srd_34 := Lib.hid (Blk.keep srd_26.out hb)
  clear srd_26
  have z_35 := Lib.hid ((OwnI.rd ho).1)
  obtain rfl : nz = 0 := z_35.out.len.symm
  clear ho hb
  have z_36 : (w_29).cell? ⟨w.heap.size, 0, none⟩ = some (.int .i64 (p : Int)) := Blk.cell srd_34.out 0
  have z_37 : (w_29).cell? ⟨w.heap.size, 1, none⟩ = some (.slice A n k) := Blk.cell srd_34.out 1
  have hc := rFewest_any p A n k l _ rd_33.out hn4 HE.out hp1 hp
  rw [E3.out] at hc
  try dsimp only at hc
  have HC := Lib.hid hc; clear hc
  go_wp2_with fail
  refine HC.out.mono ?_
  rintro e w_38 ⟨rfl, hb⟩
  clear HC
  clear z_36 z_37
  have bel_39 := Lib.hid (Below.trans bel_31.out (Below.mono hb (bel_31.out.size)))
  clear bel_31
  have x_40 := Lib.hid (RdI.below x_32.out hb)
  clear x_32
  have rd_41 := Lib.hid (RdB.below rd_33.out hb)
  clear rd_33
  have srd_42 := Lib.hid (Blk.keep srd_34.out hb)
  clear srd_34
  have ownz_43 := Lib.hid (owns_below ow_30.out hb)
  clear ow_30
  have z_44 := Lib.hid (RdI.below z_35.out hb)
  clear z_35
  clear hb
  have z_45 : (w_38).cell? ⟨w.heap.size, 0, none⟩ = some (.int .i64 (p : Int)) := Blk.cell srd_42.out 0
  have z_46 : (w_38).cell? ⟨w.heap.size, 1, none⟩ = some (.slice A n k) := Blk.cell srd_42.out 1
  go_wp2_with fail
  refine (alive_ok _).mono ?_
  rintro e w_47 ⟨rfl, hb⟩
  clear z_45 z_46
  have bel_48 := Lib.hid (Below.trans bel_39.out (Below.mono hb (bel_39.out.size)))
  clear bel_39
  have x_49 := Lib.hid (RdI.below x_40.out hb)
  clear x_40
  have rd_50 := Lib.hid (RdB.below rd_41.out hb)
  clear rd_41
  have srd_51 := Lib.hid (Blk.keep srd_42.out hb)
  clear srd_42
  have ownz_52 := Lib.hid (owns_below ownz_43.out hb)
  clear ownz_43
  have z_53 := Lib.hid (RdI.below z_44.out hb)
  clear z_44
  clear hb
  go_wp2
  go_ret
  exact ⟨rfl, bel_48.out⟩

set_option maxRecDepth 100000 in
set_option maxHeartbeats 4000000 in
theorem ci_some (p : Nat) (A : Option Addr) (n k : Nat) (l : List Bnd) (w : World) (hr : RdB w A n k l) (hn : n ≤ maxLen) (B : Option Addr) (m d : Nat) (x : List Int) (hx : RdI w B m d x) (hm : m ≤ maxLen) (hw : n ≤ 403) (h7 : m ≤ 70) (hn4 : n ≤ 402) (hp1 : 1 ≤ p) (hp : p ≤ 60) (HE : Hid (∀ c ∈ l, 0 ≤ c.f ∧ c.f < p ∧ 0 ≤ c.t ∧ c.t < p ∧ -1000000 ≤ c.m ∧ c.m ≤ 1000000)) (t : Bool) (Z : List Int) (hZ : Z.length ≤ 60) (hZ1 : 1 ≤ Z.length) (g1 : ((Z.length : Int) == 0) = false) (g2 : decide ((Z.length : Int) = 0) = false) (g3 : ¬ (Z.length : Int) = 0) (E1 : Hid (checkCircleV p l x = (t, 0))) (E2 : Hid (circleV p l = (Z, true, 0))) (E3 : Hid (fewA l p p = Z.length)) (E4 : Hid (checkCircleV p l Z = (true, 0))) :
    Calls Try.prog 5 #[.agg #[.int .i64 (p : Int), .slice A n k], .slice B m d] w fun e w' => e = .returned (.bool true) ∧ Below w.heap.size w w' := by
  go_enter Try.func5, Try.ntmps5
  have bel_1 := Lib.hid (show Below w.heap.size w w from Below.refl _ w)
  have x_2 := Lib.hid (hx)
  clear hx
  have rd_3 := Lib.hid (hr)
  clear hr
  have bel_4 := Lib.hid (Below.alloc bel_1.out (bel_1.out.size) (.cells #[.int .i64 (p : Int), .slice A n k] 24))
  clear bel_1
  have x_5 := Lib.hid (RdI.alloc x_2.out (.cells #[.int .i64 (p : Int), .slice A n k] 24))
  clear x_2
  have rd_6 := Lib.hid (RdB.alloc rd_3.out (.cells #[.int .i64 (p : Int), .slice A n k] 24))
  clear rd_3
  have srd_7 := Lib.hid (Blk.new w 24 #[.int .i64 (p : Int), .slice A n k])
  have hc := (show Calls Try.prog 18 #[.agg #[.int .i64 (p : Int), .slice A n k]] ((w.alloc (.cells #[.int .i64 (p : Int), .slice A n k] 24))) fun e w' => e = .returned (.bool true) ∧ Below ((w.alloc (.cells #[.int .i64 (p : Int), .slice A n k] 24))).heap.size ((w.alloc (.cells #[.int .i64 (p : Int), .slice A n k] 24))) w' from by have h := wide_any (p : Int) A n k ((w.alloc (.cells #[.int .i64 (p : Int), .slice A n k] 24))); rw [show decide (n ≤ 403) = true from by simpa using hw] at h; exact h)
  have HC := Lib.hid hc; clear hc
  go_wp2_with fail
  refine HC.out.mono ?_
  rintro e w_8 ⟨rfl, hb⟩
  clear HC
  have bel_9 := Lib.hid (Below.trans bel_4.out (Below.mono hb (bel_4.out.size)))
  clear bel_4
  have x_10 := Lib.hid (RdI.below x_5.out hb)
  clear x_5
  have rd_11 := Lib.hid (RdB.below rd_6.out hb)
  clear rd_6
  have srd_12 := Lib.hid (Blk.keep srd_7.out hb)
  clear srd_7
  clear hb
  have z_13 : (w_8).cell? ⟨w.heap.size, 0, none⟩ = some (.int .i64 (p : Int)) := Blk.cell srd_12.out 0
  have z_14 : (w_8).cell? ⟨w.heap.size, 1, none⟩ = some (.slice A n k) := Blk.cell srd_12.out 1
  have hc := CheckCircle_any (p : Int) A B n k m d l x _ rd_11.out hn x_10.out hm
  rw [E1.out] at hc
  try dsimp only at hc
  have HC := Lib.hid hc; clear hc
  go_wp2_with fail
  refine HC.out.mono ?_
  rintro e w_15 ⟨rfl, hb⟩
  clear HC
  clear z_13 z_14
  have bel_16 := Lib.hid (Below.trans bel_9.out (Below.mono hb (bel_9.out.size)))
  clear bel_9
  have x_17 := Lib.hid (RdI.below x_10.out hb)
  clear x_10
  have rd_18 := Lib.hid (RdB.below rd_11.out hb)
  clear rd_11
  have srd_19 := Lib.hid (Blk.keep srd_12.out hb)
  clear srd_12
  clear hb
  have z_20 : (w_15).cell? ⟨w.heap.size, 0, none⟩ = some (.int .i64 (p : Int)) := Blk.cell srd_19.out 0
  have z_21 : (w_15).cell? ⟨w.heap.size, 1, none⟩ = some (.slice A n k) := Blk.cell srd_19.out 1
  have hc := rCheckCircle_any (p : Int) A n k l _ rd_18.out hn B m d x x_17.out (by omega)
  rw [E1.out] at hc
  try dsimp only at hc
  have HC := Lib.hid hc; clear hc
  go_wp2_with fail
  refine HC.out.mono ?_
  rintro e w_22 ⟨rfl, hb⟩
  clear HC
  clear z_20 z_21
  have bel_23 := Lib.hid (Below.trans bel_16.out (Below.mono hb (bel_16.out.size)))
  clear bel_16
  have x_24 := Lib.hid (RdI.below x_17.out hb)
  clear x_17
  have rd_25 := Lib.hid (RdB.below rd_18.out hb)
  clear rd_18
  have srd_26 := Lib.hid (Blk.keep srd_19.out hb)
  clear srd_19
  clear hb
  have z_27 : (w_22).cell? ⟨w.heap.size, 0, none⟩ = some (.int .i64 (p : Int)) := Blk.cell srd_26.out 0
  have z_28 : (w_22).cell? ⟨w.heap.size, 1, none⟩ = some (.slice A n k) := Blk.cell srd_26.out 1
  have hc := Circle_any (p : Int) A n k l _ rd_25.out hn
  rw [E2.out] at hc
  unfold RetI at hc; dsimp only at hc
  have HC := Lib.hid hc; clear hc
  go_wp2_with fail
  refine HC.out.mono ?_
  rintro e w_29 ⟨Az, nz, cz, rfl, ho, hb⟩
  clear HC
  clear z_27 z_28
  have ow_30 := Lib.hid (owns_base ho (bel_23.out.size))
  have bel_31 := Lib.hid (Below.trans bel_23.out (Below.mono hb (bel_23.out.size)))
  clear bel_23
  have x_32 := Lib.hid (RdI.below x_24.out hb)
  clear x_24
  have rd_33 := Lib.hid (RdB.below rd_25.out hb)
  clear rd_25
  have srd_34 := Lib.hid (Blk.keep srd_26.out hb)
  clear srd_26
  have z_35 := Lib.hid ((OwnI.rd ho).1)
  obtain rfl : nz = Z.length := z_35.out.len.symm
  clear ho hb
  have z_36 : (w_29).cell? ⟨w.heap.size, 0, none⟩ = some (.int .i64 (p : Int)) := Blk.cell srd_34.out 0
  have z_37 : (w_29).cell? ⟨w.heap.size, 1, none⟩ = some (.slice A n k) := Blk.cell srd_34.out 1
  have hc := rFewest_any p A n k l _ rd_33.out hn4 HE.out hp1 hp
  rw [E3.out] at hc
  try dsimp only at hc
  have HC := Lib.hid hc; clear hc
  go_wp2_with fail
  refine HC.out.mono ?_
  rintro e w_38 ⟨rfl, hb⟩
  clear HC
  clear z_36 z_37
  have bel_39 := Lib.hid (Below.trans bel_31.out (Below.mono hb (bel_31.out.size)))
  clear bel_31
  have x_40 := Lib.hid (RdI.below x_32.out hb)
  clear x_32
  have rd_41 := Lib.hid (RdB.below rd_33.out hb)
  clear rd_33
  have srd_42 := Lib.hid (Blk.keep srd_34.out hb)
  clear srd_34
  have ownz_43 := Lib.hid (owns_below ow_30.out hb)
  clear ow_30
  have z_44 := Lib.hid (RdI.below z_35.out hb)
  clear z_35
  clear hb
  have z_45 : (w_38).cell? ⟨w.heap.size, 0, none⟩ = some (.int .i64 (p : Int)) := Blk.cell srd_42.out 0
  have z_46 : (w_38).cell? ⟨w.heap.size, 1, none⟩ = some (.slice A n k) := Blk.cell srd_42.out 1
  have hc := rCheckCircle_any (p : Int) A n k l _ rd_41.out hn Az Z.length cz Z z_44.out (by omega)
  rw [E4.out] at hc
  try dsimp only at hc
  have HC := Lib.hid hc; clear hc
  go_wp2_with fail
  refine HC.out.mono ?_
  rintro e w_47 ⟨rfl, hb⟩
  clear HC
  clear z_45 z_46
  have bel_48 := Lib.hid (Below.trans bel_39.out (Below.mono hb (bel_39.out.size)))
  clear bel_39
  have x_49 := Lib.hid (RdI.below x_40.out hb)
  clear x_40
  have rd_50 := Lib.hid (RdB.below rd_41.out hb)
  clear rd_41
  have srd_51 := Lib.hid (Blk.keep srd_42.out hb)
  clear srd_42
  have ownz_52 := Lib.hid (owns_below ownz_43.out hb)
  clear ownz_43
  have z_53 := Lib.hid (RdI.below z_44.out hb)
  clear z_44
  clear hb
  have z_54 : (w_47).cell? ⟨w.heap.size, 0, none⟩ = some (.int .i64 (p : Int)) := Blk.cell srd_51.out 0
  have z_55 : (w_47).cell? ⟨w.heap.size, 1, none⟩ = some (.slice A n k) := Blk.cell srd_51.out 1
  go_wp2_with fail
  refine (alive_ok _).mono ?_
  rintro e w_56 ⟨rfl, hb⟩
  clear z_54 z_55
  have bel_57 := Lib.hid (Below.trans bel_48.out (Below.mono hb (bel_48.out.size)))
  clear bel_48
  have x_58 := Lib.hid (RdI.below x_49.out hb)
  clear x_49
  have rd_59 := Lib.hid (RdB.below rd_50.out hb)
  clear rd_50
  have srd_60 := Lib.hid (Blk.keep srd_51.out hb)
  clear srd_51
  have ownz_61 := Lib.hid (owns_below ownz_52.out hb)
  clear ownz_52
  have z_62 := Lib.hid (RdI.below z_53.out hb)
  clear z_53
  clear hb
  go_wp2
  go_ret
  exact ⟨rfl, bel_57.out⟩

theorem checkCircle_code {p : Int} {l : List Bnd} (x : List Int) (hg : gcode p l [] = 0) : (checkCircleV p l x).2 = 0 := by
  unfold checkCircleV
  rw [if_pos hg]
  split
  · rfl
  · split <;> rfl

theorem ci_walk (w : World) (P : Int) (A : Option Addr) (n k : Nat) (l : List Bnd) (_ : (Lit.int .i64 P).wf = true) (hr : RdB w A n k l) (hn : n ≤ maxLen) (B : Option Addr) (m d : Nat) (x : List Int) (hx : RdI w B m d x) (hm : m ≤ maxLen) (_ : ∀ v ∈ x, (Lit.int .i64 v).wf = true) :
    Calls Try.prog 5 #[.agg #[.int .i64 P, .slice A n k], .slice B m d] w fun e w' => e = .returned (.bool true) ∧ Below w.heap.size w w' := by
  by_cases hw : n ≤ 403
  · by_cases h7 : m ≤ 70
    · by_cases hg : gcode P l [] = 0
      · obtain ⟨hk, -⟩ := gcode_ok hg
        obtain ⟨hp1, hp2, hlen, -⟩ := chk_ok hk
        have he := edges60 hk
        obtain ⟨f1, f2⟩ := few_circle hk
        obtain ⟨p, rfl⟩ := Int.eq_ofNat_of_zero_le (show 0 ≤ P by omega)
        have E1 := Lib.hid (show checkCircleV p l x = ((checkCircleV p l x).1, 0) from Prod.ext rfl (checkCircle_code x hg))
        have HE := Lib.hid (show ∀ c ∈ l, 0 ≤ c.f ∧ c.f < p ∧ 0 ≤ c.t ∧ c.t < p ∧ -1000000 ≤ c.m ∧ c.m ≤ 1000000 from fun c hc => by have := he c hc; omega)
        rw [Int.toNat_natCast] at f1 f2
        have hn4 : n ≤ 402 := by have := hr.len; omega
        cases ho : circleO l p with
        | none => exact ci_none p A n k l w hr hn B m d x hx hm hw h7 hn4 (by omega) (by omega) HE _ E1 (Lib.hid (by unfold circleV circleL; rw [if_pos hg, Int.toNat_natCast, ho]; rfl)) (Lib.hid (f1 ho))
        | some r =>
          obtain ⟨f3, f4⟩ := f2 r ho
          have hc := circle_ok hk (by rw [Int.toNat_natCast]; exact ho)
          have hlz : (r.map Int.ofNat).length = r.length := List.length_map ..
          have hr60 : r.length ≤ 60 := by rw [← f3]; rcases fewA_spec l p p with ⟨h, -⟩ | ⟨-, h, -⟩ <;> omega
          refine ci_some p A n k l w hr hn B m d x hx hm hw h7 hn4 (by omega) (by omega) HE _ (r.map Int.ofNat) (by omega) (by omega) ?_ ?_ (by omega) E1 (Lib.hid ?_) (Lib.hid (f3.trans hlz.symm)) (Lib.hid hc)
          · exact beq_eq_false_iff_ne.2 (by omega)
          · exact decide_eq_false (by omega)
          · unfold circleV circleL; rw [if_pos hg, Int.toNat_natCast, ho]; rfl
      · exact ci_err P A n k l w hr hn B m d x hx hm hw h7 false (gcode P l []) (by simpa using hg) (Lib.hid (by unfold checkCircleV; rw [if_neg hg])) (Lib.hid (by unfold circleV; rw [if_neg hg]))
    · exact ci_w2 P A n k l w hr hn B m d x hx hm hw (by omega)
  · exact ci_w1 P A n k l w hr hn B m d x hx hm hw

set_option maxRecDepth 100000 in
theorem gaugeCircles_lifted (os : Os) (started : os.Started) (H : Type) (enc : TypeId × Value → H) :
    ReturnsInHanded {} Try.checked os 5 .any (Rows.gaugeCirclesSpec.pre6 enc Try.prog Try.f5 Rows.gaugeCirclesRow.domain false) (Rows.gaugeCirclesSpec.post enc Try.prog Try.f5 false true false false) := by
  refine returnsInHanded_of_change (C := Try.checked) Law.own started (by kernel_rfl) Try.func5
    (ChangeSpec.witness6 (enc := enc) (C := Try.checked) false ⟨#[], #[.agg #[.int .i64 0, .slice none 0 0], .slice none 0 0], []⟩ 8 (by kernel_rfl) (by kernel_rfl) (by kernel_rfl) (by kernel_rfl)) ?_
  intro W base args ds gs before hval0 hW hcnd _
  have hval : ∀ (j : Nat) t v, Try.f5.params[j]? = some t → args[j]? = some v → Value.okWide Try.prog W .any base t v := hval0
  have hW' := hW
  obtain ⟨p, q, hA0, hV, rfl, hfz, hnd⟩ := hW
  have hA : DataW.TrodAll enc Try.prog W 0 (fun _ => true) true Try.f5.params.toList args.toList ds p := hA0
  rw [Try.params5] at hA hval
  obtain ⟨v0, vs0, d0, ds0, p0, q0, hargs, rfl, rfl, h0, r0⟩ := trodAll_cons hA
  obtain ⟨v1, vs1, d1, ds1, p1, q1, rfl, rfl, rfl, h1, r1⟩ := trodAll_cons r0
  obtain ⟨rfl, rfl, rfl⟩ := trodAll_nil r1
  obtain rfl : args = #[v0, v1] := by cases args; simp_all
  obtain ⟨rfl, rfl⟩ := trodVars_none hV
  have k0 := h0
  have lt0 : ∀ x ∈ p0, x.block < W.heap.size := by obtain ⟨m, hm⟩ := k0; exact DataW.trod_lt m _ _ _ hm
  obtain ⟨P0, A0, n0, c0, l0, rfl, w0, rd0, mx0⟩ := open_sys (hval 0 24 v0 rfl rfl) h0
  have k1 := h1
  have lt1 : ∀ x ∈ p1, x.block < W.heap.size := by obtain ⟨m, hm⟩ := k1; exact DataW.trod_lt m _ _ _ hm
  obtain ⟨A1, n1, c1, l1, rfl, rd1, mx1, w1⟩ := open_nums (hval 1 33 v1 rfl rfl) h1
  clear hA0 hval0
  refine (ci_walk W P0 A0 n0 c0 l0 w0 rd0 mx0 A1 n1 c1 l1 rd1 mx1 w1).mono fun e W' ⟨he, bel⟩ => ?_
  subst he
  exact ⟨_, rfl, _, _, _, [], _, [], hW', trodAll_mk1 (shut_bool Try.underlying4 _), (trodAll_cons_mk (Below.trod Law.laidOut (by kernel_rfl) (of_decide_eq_true (by kernel_rfl)) k0 bel lt0) (trodAll_cons_mk (Below.trod Law.laidOut (by kernel_rfl) (of_decide_eq_true (by kernel_rfl)) k1 bel lt1) trodAll_mk0)), rfl, bel.frame _, fun h => by cases h⟩

theorem gaugeCircles_over : Rows.gaugeCirclesRow.holds Try.pinned (OpenSpec.ofChange Rows.gaugeCirclesSpec) :=
  OpenClaim.holds_of_wide 5 Try.f5 rfl rfl rfl rfl rfl rfl rfl ⟨rfl, rfl, rfl, rfl, rfl⟩ rfl rfl rfl rfl rfl (by kernel_rfl) Try.func5 (by kernel_rfl)
    (of_decide_eq_true (by kernel_rfl)) (by unfold Func.isWrapper; first | (rw [if_pos (by decide +kernel)]; kernel_rfl) | (rw [if_neg (by decide +kernel)]; exact ⟨rfl, rfl⟩))
    (fun os started H enc _ => gaugeCircles_lifted os started H enc)

theorem gaugeCircles_proved : Rows.GaugeCirclesSaid := gaugeCircles_over
end Go.Proofs.Ythlnialipjihdaa
