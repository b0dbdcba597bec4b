/- For every system, two points, numbers, list of numbers and list of indices GaugeSharp returns true: just the differences from the least to the greatest one are attained, and no solution goes beyond an accepted path. No condition. -/
import Derived.Test.YthlnialipjihdaaRows
import Derived.Test.YthlnialipjihdaaSharpA
import Derived.Test.YthlnialipjihdaaSharpB
import Derived.Test.YthlnialipjihdaaSharpC
import Derived.Test.YthlnialipjihdaaShz
set_option linter.unusedSimpArgs false
set_option linter.unusedVariables false
namespace Go.Proofs.Ythlnialipjihdaa
open Go.ChangeShapes Go.WideShapes Go.ChangeAt Go.RowKit

theorem walk_bd {l : List Bnd} (hok : OkB l) : ∀ {r : List Nat} {a b s : Int}, IsWalk l r a b s → s ≤ r.length * 100000000
  | [], a, b, s, h => by obtain ⟨-, rfl⟩ := h; simp
  | i :: r, a, b, s, h => by
    obtain ⟨c, hc, -, h⟩ := h
    have h1 := walk_bd hok h
    have h2 := hok c (List.mem_of_getElem? hc)
    rw [List.length_cons]
    push_cast
    omega

theorem tie_low {p : Int} {l : List Bnd} {a b : Nat} {N : Int} {z x : List Int} (hk : chk p l = 0) (hz : settle l p.toNat zeros = some z) (ha : a < p.toNat) (hb : b < p.toNat) (hN : -100000000 ≤ N ∧ N ≤ 100000000) (hx : settle (l ++ tieB a b N) p.toNat zeros = some x) :
    N ≤ dist l p.toNat a b ∧ -N ≤ dist l p.toNat b a ∧ ∀ v, -400000000 ≤ at_ x v := by
  obtain ⟨hp1, hp2, hlen, -⟩ := chk_ok hk
  obtain ⟨h1, h2⟩ := attain_only hk (by rw [hz]; rfl) ha hb hN (by rw [hx]; rfl)
  obtain ⟨Y, y0, y1, y2⟩ := attain_vec hk hz (by omega) (by omega) hN h1 h2
  obtain ⟨k, -, rfl, -⟩ := settle_some hx
  refine ⟨h1, h2, fun v => ?_⟩
  have := rounds_ge (l := l ++ tieB a b N) (x := zeros) (y := Y) (fun c hc _ => y1 c hc) (fun v => by rw [at_zeros]; exact (y2 v).2) (fun v => by rw [at_zeros]; unfold Inf; omega) k v
  have := (y2 v).1
  omega

set_option maxRecDepth 100000 in
set_option maxHeartbeats 4000000 in
theorem shw_1 (P : Int) (A : Option Addr) (n k : Nat) (l : List Bnd) (w : World) (hr : RdB w A n k l) (hn : n ≤ maxLen) (a b N M : Int) (Bx : Option Addr) (m d : Nat) (x : List Int) (hx : RdI w Bx m d x) (hm : m ≤ maxLen) (C : Option Addr) (m2 d2 : Nat) (y : List Int) (hy : RdI w C m2 d2 y) (hm2 : m2 ≤ maxLen) (hw : ¬ n ≤ 403) :
    Calls Try.prog 12 #[.agg #[.int .i64 P, .slice A n k], .int .i64 a, .int .i64 b, .int .i64 N, .int .i64 M, .slice Bx m d, .slice C m2 d2] w fun e w' => e = .returned (.bool true) ∧ Below w.heap.size w w' := by
  go_enter Try.func12, Try.ntmps12
  have bel_1 := Lib.hid (show Below w.heap.size w w from Below.refl _ w)
  have x_2 := Lib.hid (hx)
  clear hx
  have y_3 := Lib.hid (hy)
  clear hy
  have rd_4 := Lib.hid (hr)
  clear hr
  have bel_5 := Lib.hid (Below.alloc bel_1.out (bel_1.out.size) (.cells #[.int .i64 P, .slice A n k] 24))
  clear bel_1
  have x_6 := Lib.hid (RdI.alloc x_2.out (.cells #[.int .i64 P, .slice A n k] 24))
  clear x_2
  have y_7 := Lib.hid (RdI.alloc y_3.out (.cells #[.int .i64 P, .slice A n k] 24))
  clear y_3
  have rd_8 := Lib.hid (RdB.alloc rd_4.out (.cells #[.int .i64 P, .slice A n k] 24))
  clear rd_4
  have srd_9 := Lib.hid (Blk.new w 24 #[.int .i64 P, .slice A n k])
  have hc := (show Calls Try.prog 18 #[.agg #[.int .i64 P, .slice A n k]] ((w.alloc (.cells #[.int .i64 P, .slice A n k] 24))) fun e w' => e = .returned (.bool false) ∧ Below ((w.alloc (.cells #[.int .i64 P, .slice A n k] 24))).heap.size ((w.alloc (.cells #[.int .i64 P, .slice A n k] 24))) w' from by have h := wide_any P A n k ((w.alloc (.cells #[.int .i64 P, .slice A n k] 24))); rw [show decide (n ≤ 403) = false from by simpa using hw] at h; exact h)
  have HC := Lib.hid hc; clear hc
  go_wp2_with fail
  refine HC.out.mono ?_
  rintro e w_10 ⟨rfl, hb⟩
  clear HC
  have bel_11 := Lib.hid (Below.trans bel_5.out (Below.mono hb (bel_5.out.size)))
  clear bel_5
  have x_12 := Lib.hid (RdI.below x_6.out hb)
  clear x_6
  have y_13 := Lib.hid (RdI.below y_7.out hb)
  clear y_7
  have rd_14 := Lib.hid (RdB.below rd_8.out hb)
  clear rd_8
  have srd_15 := Lib.hid (Blk.keep srd_9.out hb)
  clear srd_9
  clear hb
  have z_16 : (w_10).cell? ⟨w.heap.size, 0, none⟩ = some (.int .i64 P) := Blk.cell srd_15.out 0
  have z_17 : (w_10).cell? ⟨w.heap.size, 1, none⟩ = some (.slice A n k) := Blk.cell srd_15.out 1
  go_wp2_with fail
  refine (alive_ok _).mono ?_
  rintro e w_18 ⟨rfl, hb⟩
  clear z_16 z_17
  have bel_19 := Lib.hid (Below.trans bel_11.out (Below.mono hb (bel_11.out.size)))
  clear bel_11
  have x_20 := Lib.hid (RdI.below x_12.out hb)
  clear x_12
  have y_21 := Lib.hid (RdI.below y_13.out hb)
  clear y_13
  have rd_22 := Lib.hid (RdB.below rd_14.out hb)
  clear rd_14
  have srd_23 := Lib.hid (Blk.keep srd_15.out hb)
  clear srd_15
  clear hb
  go_wp2
  go_ret
  exact ⟨rfl, bel_19.out⟩

set_option maxRecDepth 100000 in
set_option maxHeartbeats 4000000 in
theorem shw_2 (P : Int) (A : Option Addr) (n k : Nat) (l : List Bnd) (w : World) (hr : RdB w A n k l) (hn : n ≤ maxLen) (a b N M : Int) (Bx : Option Addr) (m d : Nat) (x : List Int) (hx : RdI w Bx m d x) (hm : m ≤ maxLen) (C : Option Addr) (m2 d2 : Nat) (y : List Int) (hy : RdI w C m2 d2 y) (hm2 : m2 ≤ maxLen) (hw : n ≤ 403) (h7 : 70 < m) :
    Calls Try.prog 12 #[.agg #[.int .i64 P, .slice A n k], .int .i64 a, .int .i64 b, .int .i64 N, .int .i64 M, .slice Bx m d, .slice C m2 d2] w fun e w' => e = .returned (.bool true) ∧ Below w.heap.size w w' := by
  go_enter Try.func12, Try.ntmps12
  have bel_1 := Lib.hid (show Below w.heap.size w w from Below.refl _ w)
  have x_2 := Lib.hid (hx)
  clear hx
  have y_3 := Lib.hid (hy)
  clear hy
  have rd_4 := Lib.hid (hr)
  clear hr
  have bel_5 := Lib.hid (Below.alloc bel_1.out (bel_1.out.size) (.cells #[.int .i64 P, .slice A n k] 24))
  clear bel_1
  have x_6 := Lib.hid (RdI.alloc x_2.out (.cells #[.int .i64 P, .slice A n k] 24))
  clear x_2
  have y_7 := Lib.hid (RdI.alloc y_3.out (.cells #[.int .i64 P, .slice A n k] 24))
  clear y_3
  have rd_8 := Lib.hid (RdB.alloc rd_4.out (.cells #[.int .i64 P, .slice A n k] 24))
  clear rd_4
  have srd_9 := Lib.hid (Blk.new w 24 #[.int .i64 P, .slice A n k])
  have hc := (show Calls Try.prog 18 #[.agg #[.int .i64 P, .slice A n k]] ((w.alloc (.cells #[.int .i64 P, .slice A n k] 24))) fun e w' => e = .returned (.bool true) ∧ Below ((w.alloc (.cells #[.int .i64 P, .slice A n k] 24))).heap.size ((w.alloc (.cells #[.int .i64 P, .slice A n k] 24))) w' from by have h := wide_any P A n k ((w.alloc (.cells #[.int .i64 P, .slice A n k] 24))); rw [show decide (n ≤ 403) = true from by simpa using hw] at h; exact h)
  have HC := Lib.hid hc; clear hc
  go_wp2_with fail
  refine HC.out.mono ?_
  rintro e w_10 ⟨rfl, hb⟩
  clear HC
  have bel_11 := Lib.hid (Below.trans bel_5.out (Below.mono hb (bel_5.out.size)))
  clear bel_5
  have x_12 := Lib.hid (RdI.below x_6.out hb)
  clear x_6
  have y_13 := Lib.hid (RdI.below y_7.out hb)
  clear y_7
  have rd_14 := Lib.hid (RdB.below rd_8.out hb)
  clear rd_8
  have srd_15 := Lib.hid (Blk.keep srd_9.out hb)
  clear srd_9
  clear hb
  have z_16 : (w_10).cell? ⟨w.heap.size, 0, none⟩ = some (.int .i64 P) := Blk.cell srd_15.out 0
  have z_17 : (w_10).cell? ⟨w.heap.size, 1, none⟩ = some (.slice A n k) := Blk.cell srd_15.out 1
  go_wp2_with fail
  refine (alive_ok _).mono ?_
  rintro e w_18 ⟨rfl, hb⟩
  clear z_16 z_17
  have bel_19 := Lib.hid (Below.trans bel_11.out (Below.mono hb (bel_11.out.size)))
  clear bel_11
  have x_20 := Lib.hid (RdI.below x_12.out hb)
  clear x_12
  have y_21 := Lib.hid (RdI.below y_13.out hb)
  clear y_13
  have rd_22 := Lib.hid (RdB.below rd_14.out hb)
  clear rd_14
  have srd_23 := Lib.hid (Blk.keep srd_15.out hb)
  clear srd_15
  clear hb
  go_wp2
  go_ret
  exact ⟨rfl, bel_19.out⟩

set_option maxRecDepth 100000 in
set_option maxHeartbeats 4000000 in
theorem shw_3 (P : Int) (A : Option Addr) (n k : Nat) (l : List Bnd) (w : World) (hr : RdB w A n k l) (hn : n ≤ maxLen) (a b N M : Int) (Bx : Option Addr) (m d : Nat) (x : List Int) (hx : RdI w Bx m d x) (hm : m ≤ maxLen) (C : Option Addr) (m2 d2 : Nat) (y : List Int) (hy : RdI w C m2 d2 y) (hm2 : m2 ≤ maxLen) (hw : n ≤ 403) (h7 : m ≤ 70) (h8 : 70 < m2) :
    Calls Try.prog 12 #[.agg #[.int .i64 P, .slice A n k], .int .i64 a, .int .i64 b, .int .i64 N, .int .i64 M, .slice Bx m d, .slice C m2 d2] w fun e w' => e = .returned (.bool true) ∧ Below w.heap.size w w' := by
  go_enter Try.func12, Try.ntmps12
  have bel_1 := Lib.hid (show Below w.heap.size w w from Below.refl _ w)
  have x_2 := Lib.hid (hx)
  clear hx
  have y_3 := Lib.hid (hy)
  clear hy
  have rd_4 := Lib.hid (hr)
  clear hr
  have bel_5 := Lib.hid (Below.alloc bel_1.out (bel_1.out.size) (.cells #[.int .i64 P, .slice A n k] 24))
  clear bel_1
  have x_6 := Lib.hid (RdI.alloc x_2.out (.cells #[.int .i64 P, .slice A n k] 24))
  clear x_2
  have y_7 := Lib.hid (RdI.alloc y_3.out (.cells #[.int .i64 P, .slice A n k] 24))
  clear y_3
  have rd_8 := Lib.hid (RdB.alloc rd_4.out (.cells #[.int .i64 P, .slice A n k] 24))
  clear rd_4
  have srd_9 := Lib.hid (Blk.new w 24 #[.int .i64 P, .slice A n k])
  have hc := (show Calls Try.prog 18 #[.agg #[.int .i64 P, .slice A n k]] ((w.alloc (.cells #[.int .i64 P, .slice A n k] 24))) fun e w' => e = .returned (.bool true) ∧ Below ((w.alloc (.cells #[.int .i64 P, .slice A n k] 24))).heap.size ((w.alloc (.cells #[.int .i64 P, .slice A n k] 24))) w' from by have h := wide_any P A n k ((w.alloc (.cells #[.int .i64 P, .slice A n k] 24))); rw [show decide (n ≤ 403) = true from by simpa using hw] at h; exact h)
  have HC := Lib.hid hc; clear hc
  go_wp2_with fail
  refine HC.out.mono ?_
  rintro e w_10 ⟨rfl, hb⟩
  clear HC
  have bel_11 := Lib.hid (Below.trans bel_5.out (Below.mono hb (bel_5.out.size)))
  clear bel_5
  have x_12 := Lib.hid (RdI.below x_6.out hb)
  clear x_6
  have y_13 := Lib.hid (RdI.below y_7.out hb)
  clear y_7
  have rd_14 := Lib.hid (RdB.below rd_8.out hb)
  clear rd_8
  have srd_15 := Lib.hid (Blk.keep srd_9.out hb)
  clear srd_9
  clear hb
  have z_16 : (w_10).cell? ⟨w.heap.size, 0, none⟩ = some (.int .i64 P) := Blk.cell srd_15.out 0
  have z_17 : (w_10).cell? ⟨w.heap.size, 1, none⟩ = some (.slice A n k) := Blk.cell srd_15.out 1
  go_wp2_with fail
  refine (alive_ok _).mono ?_
  rintro e w_18 ⟨rfl, hb⟩
  clear z_16 z_17
  have bel_19 := Lib.hid (Below.trans bel_11.out (Below.mono hb (bel_11.out.size)))
  clear bel_11
  have x_20 := Lib.hid (RdI.below x_12.out hb)
  clear x_12
  have y_21 := Lib.hid (RdI.below y_13.out hb)
  clear y_13
  have rd_22 := Lib.hid (RdB.below rd_14.out hb)
  clear rd_14
  have srd_23 := Lib.hid (Blk.keep srd_15.out hb)
  clear srd_15
  clear hb
  go_wp2
  go_ret
  exact ⟨rfl, bel_19.out⟩

set_option maxRecDepth 100000 in
set_option maxHeartbeats 4000000 in
theorem shw_4 (P : Int) (A : Option Addr) (n k : Nat) (l : List Bnd) (w : World) (hr : RdB w A n k l) (hn : n ≤ maxLen) (a b N M : Int) (Bx : Option Addr) (m d : Nat) (x : List Int) (hx : RdI w Bx m d x) (hm : m ≤ maxLen) (C : Option Addr) (m2 d2 : Nat) (y : List Int) (hy : RdI w C m2 d2 y) (hm2 : m2 ≤ maxLen) (hw : n ≤ 403) (h7 : m ≤ 70) (h8 : m2 ≤ 70) (hN : N < -100000000) :
    Calls Try.prog 12 #[.agg #[.int .i64 P, .slice A n k], .int .i64 a, .int .i64 b, .int .i64 N, .int .i64 M, .slice Bx m d, .slice C m2 d2] w fun e w' => e = .returned (.bool true) ∧ Below w.heap.size w w' := by
  go_enter Try.func12, Try.ntmps12
  have bel_1 := Lib.hid (show Below w.heap.size w w from Below.refl _ w)
  have x_2 := Lib.hid (hx)
  clear hx
  have y_3 := Lib.hid (hy)
  clear hy
  have rd_4 := Lib.hid (hr)
  clear hr
  have bel_5 := Lib.hid (Below.alloc bel_1.out (bel_1.out.size) (.cells #[.int .i64 P, .slice A n k] 24))
  clear bel_1
  have x_6 := Lib.hid (RdI.alloc x_2.out (.cells #[.int .i64 P, .slice A n k] 24))
  clear x_2
  have y_7 := Lib.hid (RdI.alloc y_3.out (.cells #[.int .i64 P, .slice A n k] 24))
  clear y_3
  have rd_8 := Lib.hid (RdB.alloc rd_4.out (.cells #[.int .i64 P, .slice A n k] 24))
  clear rd_4
  have srd_9 := Lib.hid (Blk.new w 24 #[.int .i64 P, .slice A n k])
  have hc := (show Calls Try.prog 18 #[.agg #[.int .i64 P, .slice A n k]] ((w.alloc (.cells #[.int .i64 P, .slice A n k] 24))) fun e w' => e = .returned (.bool true) ∧ Below ((w.alloc (.cells #[.int .i64 P, .slice A n k] 24))).heap.size ((w.alloc (.cells #[.int .i64 P, .slice A n k] 24))) w' from by have h := wide_any P A n k ((w.alloc (.cells #[.int .i64 P, .slice A n k] 24))); rw [show decide (n ≤ 403) = true from by simpa using hw] at h; exact h)
  have HC := Lib.hid hc; clear hc
  go_wp2_with fail
  refine HC.out.mono ?_
  rintro e w_10 ⟨rfl, hb⟩
  clear HC
  have bel_11 := Lib.hid (Below.trans bel_5.out (Below.mono hb (bel_5.out.size)))
  clear bel_5
  have x_12 := Lib.hid (RdI.below x_6.out hb)
  clear x_6
  have y_13 := Lib.hid (RdI.below y_7.out hb)
  clear y_7
  have rd_14 := Lib.hid (RdB.below rd_8.out hb)
  clear rd_8
  have srd_15 := Lib.hid (Blk.keep srd_9.out hb)
  clear srd_9
  clear hb
  have z_16 : (w_10).cell? ⟨w.heap.size, 0, none⟩ = some (.int .i64 P) := Blk.cell srd_15.out 0
  have z_17 : (w_10).cell? ⟨w.heap.size, 1, none⟩ = some (.slice A n k) := Blk.cell srd_15.out 1
  go_wp2_with fail
  refine (alive_ok _).mono ?_
  rintro e w_18 ⟨rfl, hb⟩
  clear z_16 z_17
  have bel_19 := Lib.hid (Below.trans bel_11.out (Below.mono hb (bel_11.out.size)))
  clear bel_11
  have x_20 := Lib.hid (RdI.below x_12.out hb)
  clear x_12
  have y_21 := Lib.hid (RdI.below y_13.out hb)
  clear y_13
  have rd_22 := Lib.hid (RdB.below rd_14.out hb)
  clear rd_14
  have srd_23 := Lib.hid (Blk.keep srd_15.out hb)
  clear srd_15
  clear hb
  go_wp2
  go_ret
  exact ⟨rfl, bel_19.out⟩

set_option maxRecDepth 100000 in
set_option maxHeartbeats 4000000 in
theorem shw_5 (P : Int) (A : Option Addr) (n k : Nat) (l : List Bnd) (w : World) (hr : RdB w A n k l) (hn : n ≤ maxLen) (a b N M : Int) (Bx : Option Addr) (m d : Nat) (x : List Int) (hx : RdI w Bx m d x) (hm : m ≤ maxLen) (C : Option Addr) (m2 d2 : Nat) (y : List Int) (hy : RdI w C m2 d2 y) (hm2 : m2 ≤ maxLen) (hw : n ≤ 403) (h7 : m ≤ 70) (h8 : m2 ≤ 70) (hN : -100000000 ≤ N) (hN2 : 100000000 < N) :
    Calls Try.prog 12 #[.agg #[.int .i64 P, .slice A n k], .int .i64 a, .int .i64 b, .int .i64 N, .int .i64 M, .slice Bx m d, .slice C m2 d2] w fun e w' => e = .returned (.bool true) ∧ Below w.heap.size w w' := by
  go_enter Try.func12, Try.ntmps12
  have bel_1 := Lib.hid (show Below w.heap.size w w from Below.refl _ w)
  have x_2 := Lib.hid (hx)
  clear hx
  have y_3 := Lib.hid (hy)
  clear hy
  have rd_4 := Lib.hid (hr)
  clear hr
  have bel_5 := Lib.hid (Below.alloc bel_1.out (bel_1.out.size) (.cells #[.int .i64 P, .slice A n k] 24))
  clear bel_1
  have x_6 := Lib.hid (RdI.alloc x_2.out (.cells #[.int .i64 P, .slice A n k] 24))
  clear x_2
  have y_7 := Lib.hid (RdI.alloc y_3.out (.cells #[.int .i64 P, .slice A n k] 24))
  clear y_3
  have rd_8 := Lib.hid (RdB.alloc rd_4.out (.cells #[.int .i64 P, .slice A n k] 24))
  clear rd_4
  have srd_9 := Lib.hid (Blk.new w 24 #[.int .i64 P, .slice A n k])
  have hc := (show Calls Try.prog 18 #[.agg #[.int .i64 P, .slice A n k]] ((w.alloc (.cells #[.int .i64 P, .slice A n k] 24))) fun e w' => e = .returned (.bool true) ∧ Below ((w.alloc (.cells #[.int .i64 P, .slice A n k] 24))).heap.size ((w.alloc (.cells #[.int .i64 P, .slice A n k] 24))) w' from by have h := wide_any P A n k ((w.alloc (.cells #[.int .i64 P, .slice A n k] 24))); rw [show decide (n ≤ 403) = true from by simpa using hw] at h; exact h)
  have HC := Lib.hid hc; clear hc
  go_wp2_with fail
  refine HC.out.mono ?_
  rintro e w_10 ⟨rfl, hb⟩
  clear HC
  have bel_11 := Lib.hid (Below.trans bel_5.out (Below.mono hb (bel_5.out.size)))
  clear bel_5
  have x_12 := Lib.hid (RdI.below x_6.out hb)
  clear x_6
  have y_13 := Lib.hid (RdI.below y_7.out hb)
  clear y_7
  have rd_14 := Lib.hid (RdB.below rd_8.out hb)
  clear rd_8
  have srd_15 := Lib.hid (Blk.keep srd_9.out hb)
  clear srd_9
  clear hb
  have z_16 : (w_10).cell? ⟨w.heap.size, 0, none⟩ = some (.int .i64 P) := Blk.cell srd_15.out 0
  have z_17 : (w_10).cell? ⟨w.heap.size, 1, none⟩ = some (.slice A n k) := Blk.cell srd_15.out 1
  go_wp2_with fail
  refine (alive_ok _).mono ?_
  rintro e w_18 ⟨rfl, hb⟩
  clear z_16 z_17
  have bel_19 := Lib.hid (Below.trans bel_11.out (Below.mono hb (bel_11.out.size)))
  clear bel_11
  have x_20 := Lib.hid (RdI.below x_12.out hb)
  clear x_12
  have y_21 := Lib.hid (RdI.below y_13.out hb)
  clear y_13
  have rd_22 := Lib.hid (RdB.below rd_14.out hb)
  clear rd_14
  have srd_23 := Lib.hid (Blk.keep srd_15.out hb)
  clear srd_15
  clear hb
  go_wp2
  go_ret
  exact ⟨rfl, bel_19.out⟩

set_option maxRecDepth 100000 in
set_option maxHeartbeats 4000000 in
theorem shw_err (P : Int) (A : Option Addr) (n k : Nat) (l : List Bnd) (w : World) (hr : RdB w A n k l) (hn : n ≤ maxLen) (a b N M : Int) (Bx : Option Addr) (m d : Nat) (x : List Int) (hx : RdI w Bx m d x) (hm : m ≤ maxLen) (C : Option Addr) (m2 d2 : Nat) (y : List Int) (hy : RdI w C m2 d2 y) (hm2 : m2 ≤ maxLen) (hw : n ≤ 403) (h7 : m ≤ 70) (h8 : m2 ≤ 70) (hN : -100000000 ≤ N) (hN2 : N ≤ 100000000) (q0 : Int) (hq : (q0 != 0) = true) (E1 : Hid (∀ x t q, endV P l a b true = .tuple #[.int .i64 x, .bool t, .int .i64 q] → x = 0 ∧ t = false ∧ q = q0)) (E2 : Hid (∀ x t q, endV P l a b false = .tuple #[.int .i64 x, .bool t, .int .i64 q] → x = 0 ∧ t = false ∧ q = q0)) :
    Calls Try.prog 12 #[.agg #[.int .i64 P, .slice A n k], .int .i64 a, .int .i64 b, .int .i64 N, .int .i64 M, .slice Bx m d, .slice C m2 d2] w fun e w' => e = .returned (.bool true) ∧ Below w.heap.size w w' := by
  go_enter Try.func12, Try.ntmps12
  have bel_1 := Lib.hid (show Below w.heap.size w w from Below.refl _ w)
  have x_2 := Lib.hid (hx)
  clear hx
  have y_3 := Lib.hid (hy)
  clear hy
  have rd_4 := Lib.hid (hr)
  clear hr
  have bel_5 := Lib.hid (Below.alloc bel_1.out (bel_1.out.size) (.cells #[.int .i64 P, .slice A n k] 24))
  clear bel_1
  have x_6 := Lib.hid (RdI.alloc x_2.out (.cells #[.int .i64 P, .slice A n k] 24))
  clear x_2
  have y_7 := Lib.hid (RdI.alloc y_3.out (.cells #[.int .i64 P, .slice A n k] 24))
  clear y_3
  have rd_8 := Lib.hid (RdB.alloc rd_4.out (.cells #[.int .i64 P, .slice A n k] 24))
  clear rd_4
  have srd_9 := Lib.hid (Blk.new w 24 #[.int .i64 P, .slice A n k])
  have hc := (show Calls Try.prog 18 #[.agg #[.int .i64 P, .slice A n k]] ((w.alloc (.cells #[.int .i64 P, .slice A n k] 24))) fun e w' => e = .returned (.bool true) ∧ Below ((w.alloc (.cells #[.int .i64 P, .slice A n k] 24))).heap.size ((w.alloc (.cells #[.int .i64 P, .slice A n k] 24))) w' from by have h := wide_any P A n k ((w.alloc (.cells #[.int .i64 P, .slice A n k] 24))); rw [show decide (n ≤ 403) = true from by simpa using hw] at h; exact h)
  have HC := Lib.hid hc; clear hc
  go_wp2_with fail
  refine HC.out.mono ?_
  rintro e w_10 ⟨rfl, hb⟩
  clear HC
  have bel_11 := Lib.hid (Below.trans bel_5.out (Below.mono hb (bel_5.out.size)))
  clear bel_5
  have x_12 := Lib.hid (RdI.below x_6.out hb)
  clear x_6
  have y_13 := Lib.hid (RdI.below y_7.out hb)
  clear y_7
  have rd_14 := Lib.hid (RdB.below rd_8.out hb)
  clear rd_8
  have srd_15 := Lib.hid (Blk.keep srd_9.out hb)
  clear srd_9
  clear hb
  have z_16 : (w_10).cell? ⟨w.heap.size, 0, none⟩ = some (.int .i64 P) := Blk.cell srd_15.out 0
  have z_17 : (w_10).cell? ⟨w.heap.size, 1, none⟩ = some (.slice A n k) := Blk.cell srd_15.out 1
  go_wp2_with fail
  refine (Greatest_any P a b A n k l _ rd_14.out hn).mono ?_
  rintro e w_18 ⟨x_, t_, q_, rfl, hv_, hb⟩
  clear z_16 z_17
  have bel_19 := Lib.hid (Below.trans bel_11.out (Below.mono hb (bel_11.out.size)))
  clear bel_11
  have x_20 := Lib.hid (RdI.below x_12.out hb)
  clear x_12
  have y_21 := Lib.hid (RdI.below y_13.out hb)
  clear y_13
  have rd_22 := Lib.hid (RdB.below rd_14.out hb)
  clear rd_14
  have srd_23 := Lib.hid (Blk.keep srd_15.out hb)
  clear srd_15
  clear hb
  obtain ⟨rfl, rfl, rfl⟩ := E1.out _ _ _ hv_; clear hv_
  have z_24 : (w_18).cell? ⟨w.heap.size, 0, none⟩ = some (.int .i64 P) := Blk.cell srd_23.out 0
  have z_25 : (w_18).cell? ⟨w.heap.size, 1, none⟩ = some (.slice A n k) := Blk.cell srd_23.out 1
  go_wp2_with fail
  refine (Least_any P a b A n k l _ rd_22.out hn).mono ?_
  rintro e w_26 ⟨x_, t_, q_, rfl, hv_, hb⟩
  clear z_24 z_25
  have bel_27 := Lib.hid (Below.trans bel_19.out (Below.mono hb (bel_19.out.size)))
  clear bel_19
  have x_28 := Lib.hid (RdI.below x_20.out hb)
  clear x_20
  have y_29 := Lib.hid (RdI.below y_21.out hb)
  clear y_21
  have rd_30 := Lib.hid (RdB.below rd_22.out hb)
  clear rd_22
  have srd_31 := Lib.hid (Blk.keep srd_23.out hb)
  clear srd_23
  clear hb
  obtain ⟨rfl, rfl, rfl⟩ := E2.out _ _ _ hv_; clear hv_
  have z_32 : (w_26).cell? ⟨w.heap.size, 0, none⟩ = some (.int .i64 P) := Blk.cell srd_31.out 0
  have z_33 : (w_26).cell? ⟨w.heap.size, 1, none⟩ = some (.slice A n k) := Blk.cell srd_31.out 1
  go_wp2_with fail
  refine (alive_ok _).mono ?_
  rintro e w_34 ⟨rfl, hb⟩
  clear z_32 z_33
  have bel_35 := Lib.hid (Below.trans bel_27.out (Below.mono hb (bel_27.out.size)))
  clear bel_27
  have x_36 := Lib.hid (RdI.below x_28.out hb)
  clear x_28
  have y_37 := Lib.hid (RdI.below y_29.out hb)
  clear y_29
  have rd_38 := Lib.hid (RdB.below rd_30.out hb)
  clear rd_30
  have srd_39 := Lib.hid (Blk.keep srd_31.out hb)
  clear srd_31
  clear hb
  go_wp2
  go_ret
  exact ⟨rfl, bel_35.out⟩

theorem fin_of {n : Int} (h : n ≠ Inf) : fin n = n := if_neg h

set_option maxRecDepth 100000 in
set_option maxHeartbeats 4000000 in
theorem shw_ok (P : Int) (A : Option Addr) (n k : Nat) (l : List Bnd) (w : World) (hr : RdB w A n k l) (hn : n ≤ maxLen) (a b : Nat) (N M : Int) (Bx : Option Addr) (m d : Nat) (x : List Int) (hx : RdI w Bx m d x) (hm : m ≤ maxLen) (C : Option Addr) (m2 d2 : Nat) (y : List Int) (hy : RdI w C m2 d2 y) (hm2 : m2 ≤ maxLen) (hw : n ≤ 403) (h7 : m ≤ 70) (h8 : m2 ≤ 70) (hN : -100000000 ≤ N) (hN2 : N ≤ 100000000) (hs : scode P l [(a : Int), (b : Int)] = 0)
    (hkeep : (∃ xa xb, x[a]? = some xa ∧ x[b]? = some xb ∧ -1000000000000 ≤ xa ∧ xa ≤ 1000000000000 ∧ -1000000000000 ≤ xb ∧ xb ≤ 1000000000000 ∧ keepsV P l x = (true, 0) ∧ xb - xa ≤ dist l P.toNat a b ∧ xa - xb ≤ dist l P.toNat b a) ∨ keepsV P l x = (false, 0) ∨ keepsV P l x = (false, 1))
    (hpath : (checkPathV P l a b M y = (true, 0) ∧ dist l P.toNat a b ≤ M ∧ dist l P.toNat a b ≠ Inf) ∨ checkPathV P l a b M y = (false, 0))
    (hatt : (∃ Z za zb, List.length Z ≤ 60 ∧ Z[a]? = some za ∧ Z[b]? = some zb ∧ -1000000000000 ≤ za ∧ za ≤ 1000000000000 ∧ -1000000000000 ≤ zb ∧ zb ≤ 1000000000000 ∧ zb - za = N ∧ attainV P l a b N = (Z, true, 0) ∧ keepsV P l Z = (true, 0) ∧ N ≤ dist l P.toNat a b ∧ -N ≤ dist l P.toNat b a) ∨ (attainV P l a b N = ([], false, 0) ∧ dist l P.toNat a b < N) ∨ (attainV P l a b N = ([], false, 0) ∧ N ≤ dist l P.toNat a b ∧ dist l P.toNat b a < -N)) :
    Calls Try.prog 12 #[.agg #[.int .i64 P, .slice A n k], .int .i64 (a : Int), .int .i64 (b : Int), .int .i64 N, .int .i64 M, .slice Bx m d, .slice C m2 d2] w fun e w' => e = .returned (.bool true) ∧ Below w.heap.size w w' := by
  have E1 := Lib.hid (fun x t q => endV_yes (x := x) (t := t) (q := q) hs)
  have E2 := Lib.hid (fun x t q => endV_low (x := x) (t := t) (q := q) hs)
  simp only [Int.toNat_natCast] at E1 E2
  by_cases dd1 : dist l P.toNat a b = Inf
  rotate_left
  · rw [show isF (dist l P.toNat a b) = true from by simp [isF, dd1]] at E1
    by_cases dd2 : dist l P.toNat b a = Inf
    rotate_left
    · rw [show isF (dist l P.toNat b a) = true from by simp [isF, dd2]] at E2
      rcases hatt with ⟨Z, za, zb, hZ, hza, hzb, z1, z2, z3, z4, hzz, e3, e4, r1, r2⟩ | ⟨e3, r1⟩ | ⟨e3, r1, r2⟩
      · skip
        rcases hkeep with ⟨xa, xb, hxa, hxb, v1, v2, v3, v4, kk, k1, k2⟩ | kk | kk
        · rcases hpath with ⟨pp, s1, s2⟩ | pp
          · exact sh_111_K_1 P A n k l w hr hn a b N M Bx m d x hx hm C m2 d2 y hy hm2 hw h7 h8 hN hN2 _ _ E1 E2 Z hZ za zb hza hzb z1 z2 z3 z4 hzz (Lib.hid e3) (Lib.hid e4) (by rw [fin_of dd1]; exact r1) (by rw [fin_of dd2]; omega) (Lib.hid kk) xa xb hxa hxb v1 v2 v3 v4 (by rw [fin_of dd1]; exact k1) (by rw [fin_of dd2]; omega) (by omega) (Lib.hid pp) (by rw [fin_of dd1]; exact s1)
          · exact sh_111_K_0 P A n k l w hr hn a b N M Bx m d x hx hm C m2 d2 y hy hm2 hw h7 h8 hN hN2 _ _ E1 E2 Z hZ za zb hza hzb z1 z2 z3 z4 hzz (Lib.hid e3) (Lib.hid e4) (by rw [fin_of dd1]; exact r1) (by rw [fin_of dd2]; omega) (Lib.hid kk) xa xb hxa hxb v1 v2 v3 v4 (by rw [fin_of dd1]; exact k1) (by rw [fin_of dd2]; omega) (Lib.hid pp)
        · rcases hpath with ⟨pp, s1, s2⟩ | pp
          · exact sh_111_F0_1 P A n k l w hr hn a b N M Bx m d x hx hm C m2 d2 y hy hm2 hw h7 h8 hN hN2 _ _ E1 E2 Z hZ za zb hza hzb z1 z2 z3 z4 hzz (Lib.hid e3) (Lib.hid e4) (by rw [fin_of dd1]; exact r1) (by rw [fin_of dd2]; omega) (Lib.hid kk) (Lib.hid pp) (by rw [fin_of dd1]; exact s1)
          · exact sh_111_F0_0 P A n k l w hr hn a b N M Bx m d x hx hm C m2 d2 y hy hm2 hw h7 h8 hN hN2 _ _ E1 E2 Z hZ za zb hza hzb z1 z2 z3 z4 hzz (Lib.hid e3) (Lib.hid e4) (by rw [fin_of dd1]; exact r1) (by rw [fin_of dd2]; omega) (Lib.hid kk) (Lib.hid pp)
        · rcases hpath with ⟨pp, s1, s2⟩ | pp
          · exact sh_111_F1_1 P A n k l w hr hn a b N M Bx m d x hx hm C m2 d2 y hy hm2 hw h7 h8 hN hN2 _ _ E1 E2 Z hZ za zb hza hzb z1 z2 z3 z4 hzz (Lib.hid e3) (Lib.hid e4) (by rw [fin_of dd1]; exact r1) (by rw [fin_of dd2]; omega) (Lib.hid kk) (Lib.hid pp) (by rw [fin_of dd1]; exact s1)
          · exact sh_111_F1_0 P A n k l w hr hn a b N M Bx m d x hx hm C m2 d2 y hy hm2 hw h7 h8 hN hN2 _ _ E1 E2 Z hZ za zb hza hzb z1 z2 z3 z4 hzz (Lib.hid e3) (Lib.hid e4) (by rw [fin_of dd1]; exact r1) (by rw [fin_of dd2]; omega) (Lib.hid kk) (Lib.hid pp)
      · skip
        rcases hkeep with ⟨xa, xb, hxa, hxb, v1, v2, v3, v4, kk, k1, k2⟩ | kk | kk
        · rcases hpath with ⟨pp, s1, s2⟩ | pp
          · exact sh_011a_K_1 P A n k l w hr hn a b N M Bx m d x hx hm C m2 d2 y hy hm2 hw h7 h8 hN hN2 _ _ E1 E2 (Lib.hid e3) (by rw [fin_of dd1]; exact r1) (Lib.hid kk) xa xb hxa hxb v1 v2 v3 v4 (by rw [fin_of dd1]; exact k1) (by rw [fin_of dd2]; omega) (by omega) (Lib.hid pp) (by rw [fin_of dd1]; exact s1)
          · exact sh_011a_K_0 P A n k l w hr hn a b N M Bx m d x hx hm C m2 d2 y hy hm2 hw h7 h8 hN hN2 _ _ E1 E2 (Lib.hid e3) (by rw [fin_of dd1]; exact r1) (Lib.hid kk) xa xb hxa hxb v1 v2 v3 v4 (by rw [fin_of dd1]; exact k1) (by rw [fin_of dd2]; omega) (Lib.hid pp)
        · rcases hpath with ⟨pp, s1, s2⟩ | pp
          · exact sh_011a_F0_1 P A n k l w hr hn a b N M Bx m d x hx hm C m2 d2 y hy hm2 hw h7 h8 hN hN2 _ _ E1 E2 (Lib.hid e3) (by rw [fin_of dd1]; exact r1) (Lib.hid kk) (Lib.hid pp) (by rw [fin_of dd1]; exact s1)
          · exact sh_011a_F0_0 P A n k l w hr hn a b N M Bx m d x hx hm C m2 d2 y hy hm2 hw h7 h8 hN hN2 _ _ E1 E2 (Lib.hid e3) (by rw [fin_of dd1]; exact r1) (Lib.hid kk) (Lib.hid pp)
        · rcases hpath with ⟨pp, s1, s2⟩ | pp
          · exact sh_011a_F1_1 P A n k l w hr hn a b N M Bx m d x hx hm C m2 d2 y hy hm2 hw h7 h8 hN hN2 _ _ E1 E2 (Lib.hid e3) (by rw [fin_of dd1]; exact r1) (Lib.hid kk) (Lib.hid pp) (by rw [fin_of dd1]; exact s1)
          · exact sh_011a_F1_0 P A n k l w hr hn a b N M Bx m d x hx hm C m2 d2 y hy hm2 hw h7 h8 hN hN2 _ _ E1 E2 (Lib.hid e3) (by rw [fin_of dd1]; exact r1) (Lib.hid kk) (Lib.hid pp)
      · skip
        rcases hkeep with ⟨xa, xb, hxa, hxb, v1, v2, v3, v4, kk, k1, k2⟩ | kk | kk
        · rcases hpath with ⟨pp, s1, s2⟩ | pp
          · exact sh_011b_K_1 P A n k l w hr hn a b N M Bx m d x hx hm C m2 d2 y hy hm2 hw h7 h8 hN hN2 _ _ E1 E2 (Lib.hid e3) (by rw [fin_of dd1]; exact r1) (by rw [fin_of dd2]; omega) (Lib.hid kk) xa xb hxa hxb v1 v2 v3 v4 (by rw [fin_of dd1]; exact k1) (by rw [fin_of dd2]; omega) (by omega) (Lib.hid pp) (by rw [fin_of dd1]; exact s1)
          · exact sh_011b_K_0 P A n k l w hr hn a b N M Bx m d x hx hm C m2 d2 y hy hm2 hw h7 h8 hN hN2 _ _ E1 E2 (Lib.hid e3) (by rw [fin_of dd1]; exact r1) (by rw [fin_of dd2]; omega) (Lib.hid kk) xa xb hxa hxb v1 v2 v3 v4 (by rw [fin_of dd1]; exact k1) (by rw [fin_of dd2]; omega) (Lib.hid pp)
        · rcases hpath with ⟨pp, s1, s2⟩ | pp
          · exact sh_011b_F0_1 P A n k l w hr hn a b N M Bx m d x hx hm C m2 d2 y hy hm2 hw h7 h8 hN hN2 _ _ E1 E2 (Lib.hid e3) (by rw [fin_of dd1]; exact r1) (by rw [fin_of dd2]; omega) (Lib.hid kk) (Lib.hid pp) (by rw [fin_of dd1]; exact s1)
          · exact sh_011b_F0_0 P A n k l w hr hn a b N M Bx m d x hx hm C m2 d2 y hy hm2 hw h7 h8 hN hN2 _ _ E1 E2 (Lib.hid e3) (by rw [fin_of dd1]; exact r1) (by rw [fin_of dd2]; omega) (Lib.hid kk) (Lib.hid pp)
        · rcases hpath with ⟨pp, s1, s2⟩ | pp
          · exact sh_011b_F1_1 P A n k l w hr hn a b N M Bx m d x hx hm C m2 d2 y hy hm2 hw h7 h8 hN hN2 _ _ E1 E2 (Lib.hid e3) (by rw [fin_of dd1]; exact r1) (by rw [fin_of dd2]; omega) (Lib.hid kk) (Lib.hid pp) (by rw [fin_of dd1]; exact s1)
          · exact sh_011b_F1_0 P A n k l w hr hn a b N M Bx m d x hx hm C m2 d2 y hy hm2 hw h7 h8 hN hN2 _ _ E1 E2 (Lib.hid e3) (by rw [fin_of dd1]; exact r1) (by rw [fin_of dd2]; omega) (Lib.hid kk) (Lib.hid pp)
    · rw [show isF (dist l P.toNat b a) = false from by simp [isF, dd2]] at E2
      rcases hatt with ⟨Z, za, zb, hZ, hza, hzb, z1, z2, z3, z4, hzz, e3, e4, r1, r2⟩ | ⟨e3, r1⟩ | ⟨e3, r1, r2⟩
      · skip
        rcases hkeep with ⟨xa, xb, hxa, hxb, v1, v2, v3, v4, kk, k1, k2⟩ | kk | kk
        · rcases hpath with ⟨pp, s1, s2⟩ | pp
          · exact sh_110_K_1 P A n k l w hr hn a b N M Bx m d x hx hm C m2 d2 y hy hm2 hw h7 h8 hN hN2 _ _ E1 E2 Z hZ za zb hza hzb z1 z2 z3 z4 hzz (Lib.hid e3) (Lib.hid e4) (by rw [fin_of dd1]; exact r1) (Lib.hid kk) xa xb hxa hxb v1 v2 v3 v4 (by rw [fin_of dd1]; exact k1) (by omega) (Lib.hid pp) (by rw [fin_of dd1]; exact s1)
          · exact sh_110_K_0 P A n k l w hr hn a b N M Bx m d x hx hm C m2 d2 y hy hm2 hw h7 h8 hN hN2 _ _ E1 E2 Z hZ za zb hza hzb z1 z2 z3 z4 hzz (Lib.hid e3) (Lib.hid e4) (by rw [fin_of dd1]; exact r1) (Lib.hid kk) xa xb hxa hxb v1 v2 v3 v4 (by rw [fin_of dd1]; exact k1) (Lib.hid pp)
        · rcases hpath with ⟨pp, s1, s2⟩ | pp
          · exact sh_110_F0_1 P A n k l w hr hn a b N M Bx m d x hx hm C m2 d2 y hy hm2 hw h7 h8 hN hN2 _ _ E1 E2 Z hZ za zb hza hzb z1 z2 z3 z4 hzz (Lib.hid e3) (Lib.hid e4) (by rw [fin_of dd1]; exact r1) (Lib.hid kk) (Lib.hid pp) (by rw [fin_of dd1]; exact s1)
          · exact sh_110_F0_0 P A n k l w hr hn a b N M Bx m d x hx hm C m2 d2 y hy hm2 hw h7 h8 hN hN2 _ _ E1 E2 Z hZ za zb hza hzb z1 z2 z3 z4 hzz (Lib.hid e3) (Lib.hid e4) (by rw [fin_of dd1]; exact r1) (Lib.hid kk) (Lib.hid pp)
        · rcases hpath with ⟨pp, s1, s2⟩ | pp
          · exact sh_110_F1_1 P A n k l w hr hn a b N M Bx m d x hx hm C m2 d2 y hy hm2 hw h7 h8 hN hN2 _ _ E1 E2 Z hZ za zb hza hzb z1 z2 z3 z4 hzz (Lib.hid e3) (Lib.hid e4) (by rw [fin_of dd1]; exact r1) (Lib.hid kk) (Lib.hid pp) (by rw [fin_of dd1]; exact s1)
          · exact sh_110_F1_0 P A n k l w hr hn a b N M Bx m d x hx hm C m2 d2 y hy hm2 hw h7 h8 hN hN2 _ _ E1 E2 Z hZ za zb hza hzb z1 z2 z3 z4 hzz (Lib.hid e3) (Lib.hid e4) (by rw [fin_of dd1]; exact r1) (Lib.hid kk) (Lib.hid pp)
      · skip
        rcases hkeep with ⟨xa, xb, hxa, hxb, v1, v2, v3, v4, kk, k1, k2⟩ | kk | kk
        · rcases hpath with ⟨pp, s1, s2⟩ | pp
          · exact sh_010a_K_1 P A n k l w hr hn a b N M Bx m d x hx hm C m2 d2 y hy hm2 hw h7 h8 hN hN2 _ _ E1 E2 (Lib.hid e3) (by rw [fin_of dd1]; exact r1) (Lib.hid kk) xa xb hxa hxb v1 v2 v3 v4 (by rw [fin_of dd1]; exact k1) (by omega) (Lib.hid pp) (by rw [fin_of dd1]; exact s1)
          · exact sh_010a_K_0 P A n k l w hr hn a b N M Bx m d x hx hm C m2 d2 y hy hm2 hw h7 h8 hN hN2 _ _ E1 E2 (Lib.hid e3) (by rw [fin_of dd1]; exact r1) (Lib.hid kk) xa xb hxa hxb v1 v2 v3 v4 (by rw [fin_of dd1]; exact k1) (Lib.hid pp)
        · rcases hpath with ⟨pp, s1, s2⟩ | pp
          · exact sh_010a_F0_1 P A n k l w hr hn a b N M Bx m d x hx hm C m2 d2 y hy hm2 hw h7 h8 hN hN2 _ _ E1 E2 (Lib.hid e3) (by rw [fin_of dd1]; exact r1) (Lib.hid kk) (Lib.hid pp) (by rw [fin_of dd1]; exact s1)
          · exact sh_010a_F0_0 P A n k l w hr hn a b N M Bx m d x hx hm C m2 d2 y hy hm2 hw h7 h8 hN hN2 _ _ E1 E2 (Lib.hid e3) (by rw [fin_of dd1]; exact r1) (Lib.hid kk) (Lib.hid pp)
        · rcases hpath with ⟨pp, s1, s2⟩ | pp
          · exact sh_010a_F1_1 P A n k l w hr hn a b N M Bx m d x hx hm C m2 d2 y hy hm2 hw h7 h8 hN hN2 _ _ E1 E2 (Lib.hid e3) (by rw [fin_of dd1]; exact r1) (Lib.hid kk) (Lib.hid pp) (by rw [fin_of dd1]; exact s1)
          · exact sh_010a_F1_0 P A n k l w hr hn a b N M Bx m d x hx hm C m2 d2 y hy hm2 hw h7 h8 hN hN2 _ _ E1 E2 (Lib.hid e3) (by rw [fin_of dd1]; exact r1) (Lib.hid kk) (Lib.hid pp)
      · exfalso; rw [dd2] at r2; unfold Inf at r2; omega
  · rw [show isF (dist l P.toNat a b) = false from by simp [isF, dd1]] at E1
    by_cases dd2 : dist l P.toNat b a = Inf
    rotate_left
    · rw [show isF (dist l P.toNat b a) = true from by simp [isF, dd2]] at E2
      rcases hatt with ⟨Z, za, zb, hZ, hza, hzb, z1, z2, z3, z4, hzz, e3, e4, r1, r2⟩ | ⟨e3, r1⟩ | ⟨e3, r1, r2⟩
      · skip
        rcases hkeep with ⟨xa, xb, hxa, hxb, v1, v2, v3, v4, kk, k1, k2⟩ | kk | kk
        · rcases hpath with ⟨pp, s1, s2⟩ | pp
          · exact absurd dd1 s2
          · exact sh_101_K_0 P A n k l w hr hn a b N M Bx m d x hx hm C m2 d2 y hy hm2 hw h7 h8 hN hN2 _ _ E1 E2 Z hZ za zb hza hzb z1 z2 z3 z4 hzz (Lib.hid e3) (Lib.hid e4) (by rw [fin_of dd2]; omega) (Lib.hid kk) xa xb hxa hxb v1 v2 v3 v4 (by rw [fin_of dd2]; omega) (Lib.hid pp)
        · rcases hpath with ⟨pp, s1, s2⟩ | pp
          · exact absurd dd1 s2
          · exact sh_101_F0_0 P A n k l w hr hn a b N M Bx m d x hx hm C m2 d2 y hy hm2 hw h7 h8 hN hN2 _ _ E1 E2 Z hZ za zb hza hzb z1 z2 z3 z4 hzz (Lib.hid e3) (Lib.hid e4) (by rw [fin_of dd2]; omega) (Lib.hid kk) (Lib.hid pp)
        · rcases hpath with ⟨pp, s1, s2⟩ | pp
          · exact absurd dd1 s2
          · exact sh_101_F1_0 P A n k l w hr hn a b N M Bx m d x hx hm C m2 d2 y hy hm2 hw h7 h8 hN hN2 _ _ E1 E2 Z hZ za zb hza hzb z1 z2 z3 z4 hzz (Lib.hid e3) (Lib.hid e4) (by rw [fin_of dd2]; omega) (Lib.hid kk) (Lib.hid pp)
      · exfalso; rw [dd1] at r1; unfold Inf at r1; omega
      · skip
        rcases hkeep with ⟨xa, xb, hxa, hxb, v1, v2, v3, v4, kk, k1, k2⟩ | kk | kk
        · rcases hpath with ⟨pp, s1, s2⟩ | pp
          · exact absurd dd1 s2
          · exact sh_001b_K_0 P A n k l w hr hn a b N M Bx m d x hx hm C m2 d2 y hy hm2 hw h7 h8 hN hN2 _ _ E1 E2 (Lib.hid e3) (by rw [fin_of dd2]; omega) (Lib.hid kk) xa xb hxa hxb v1 v2 v3 v4 (by rw [fin_of dd2]; omega) (Lib.hid pp)
        · rcases hpath with ⟨pp, s1, s2⟩ | pp
          · exact absurd dd1 s2
          · exact sh_001b_F0_0 P A n k l w hr hn a b N M Bx m d x hx hm C m2 d2 y hy hm2 hw h7 h8 hN hN2 _ _ E1 E2 (Lib.hid e3) (by rw [fin_of dd2]; omega) (Lib.hid kk) (Lib.hid pp)
        · rcases hpath with ⟨pp, s1, s2⟩ | pp
          · exact absurd dd1 s2
          · exact sh_001b_F1_0 P A n k l w hr hn a b N M Bx m d x hx hm C m2 d2 y hy hm2 hw h7 h8 hN hN2 _ _ E1 E2 (Lib.hid e3) (by rw [fin_of dd2]; omega) (Lib.hid kk) (Lib.hid pp)
    · rw [show isF (dist l P.toNat b a) = false from by simp [isF, dd2]] at E2
      rcases hatt with ⟨Z, za, zb, hZ, hza, hzb, z1, z2, z3, z4, hzz, e3, e4, r1, r2⟩ | ⟨e3, r1⟩ | ⟨e3, r1, r2⟩
      · skip
        rcases hkeep with ⟨xa, xb, hxa, hxb, v1, v2, v3, v4, kk, k1, k2⟩ | kk | kk
        · rcases hpath with ⟨pp, s1, s2⟩ | pp
          · exact absurd dd1 s2
          · exact sh_100_K_0 P A n k l w hr hn a b N M Bx m d x hx hm C m2 d2 y hy hm2 hw h7 h8 hN hN2 _ _ E1 E2 Z hZ za zb hza hzb z1 z2 z3 z4 hzz (Lib.hid e3) (Lib.hid e4) (Lib.hid kk) xa xb hxa hxb v1 v2 v3 v4 (Lib.hid pp)
        · rcases hpath with ⟨pp, s1, s2⟩ | pp
          · exact absurd dd1 s2
          · exact sh_100_F0_0 P A n k l w hr hn a b N M Bx m d x hx hm C m2 d2 y hy hm2 hw h7 h8 hN hN2 _ _ E1 E2 Z hZ za zb hza hzb z1 z2 z3 z4 hzz (Lib.hid e3) (Lib.hid e4) (Lib.hid kk) (Lib.hid pp)
        · rcases hpath with ⟨pp, s1, s2⟩ | pp
          · exact absurd dd1 s2
          · exact sh_100_F1_0 P A n k l w hr hn a b N M Bx m d x hx hm C m2 d2 y hy hm2 hw h7 h8 hN hN2 _ _ E1 E2 Z hZ za zb hza hzb z1 z2 z3 z4 hzz (Lib.hid e3) (Lib.hid e4) (Lib.hid kk) (Lib.hid pp)
      · exfalso; rw [dd1] at r1; unfold Inf at r1; omega
      · exfalso; rw [dd2] at r2; unfold Inf at r2; omega

theorem shw_walk (w : World) (P : Int) (A : Option Addr) (n k : Nat) (l : List Bnd) (_ : (Lit.int .i64 P).wf = true) (hr : RdB w A n k l) (hn : n ≤ maxLen) (a : Int) (_ : (Lit.int .i64 a).wf = true) (b : Int) (_ : (Lit.int .i64 b).wf = true) (N : Int) (_ : (Lit.int .i64 N).wf = true) (M : Int) (_ : (Lit.int .i64 M).wf = true)
    (Bx : Option Addr) (m d : Nat) (x : List Int) (hx : RdI w Bx m d x) (hm : m ≤ maxLen) (_ : ∀ v ∈ x, (Lit.int .i64 v).wf = true) (C : Option Addr) (m2 d2 : Nat) (y : List Int) (hy : RdI w C m2 d2 y) (hm2 : m2 ≤ maxLen) (_ : ∀ v ∈ y, (Lit.int .i64 v).wf = true) :
    Calls Try.prog 12 #[.agg #[.int .i64 P, .slice A n k], .int .i64 a, .int .i64 b, .int .i64 N, .int .i64 M, .slice Bx m d, .slice C m2 d2] w fun e w' => e = .returned (.bool true) ∧ Below w.heap.size w w' := by
  by_cases hw : n ≤ 403
  · by_cases h7 : m ≤ 70
    · by_cases h8 : m2 ≤ 70
      · by_cases hN : -100000000 ≤ N
        · by_cases hN2 : N ≤ 100000000
          · by_cases hs : scode P l [a, b] = 0
            · obtain ⟨hk, ab, hsol⟩ := scode_ok hs
              simp only [List.all_cons, List.all_nil, Bool.and_true, Bool.and_eq_true, isPt, decide_eq_true_eq] at ab
              obtain ⟨hp1, hp2, -, -⟩ := chk_ok hk
              obtain ⟨z, hz⟩ := Option.isSome_iff_exists.1 hsol
              obtain ⟨a, rfl⟩ := Int.eq_ofNat_of_zero_le ab.1.1
              obtain ⟨b, rfl⟩ := Int.eq_ofNat_of_zero_le ab.2.1
              have ha : a < P.toNat := by omega
              have hb : b < P.toNat := by omega
              have hg : gcode P l [(a : Int), (b : Int)] = 0 := by
                unfold scode at hs
                by_cases hg : gcode P l [(a : Int), (b : Int)] = 0
                · exact hg
                · rw [if_neg hg] at hs; exact absurd hs hg
              refine shw_ok P A n k l w hr hn a b N M Bx m d x hx hm C m2 d2 y hy hm2 hw h7 h8 hN hN2 hs ?_ ?_ ?_
              · cases hkv : (keepsV P l x).1
                · rcases keeps_code2 (x := x) hk with h | h
                  · exact .inr (.inl (Prod.ext hkv h))
                  · exact .inr (.inr (Prod.ext hkv h))
                · have h0 : (keepsV P l x).2 = 0 := by
                    unfold keepsV at hkv ⊢
                    rw [Bool.and_eq_true, decide_eq_true_eq] at hkv
                    exact hkv.1
                  have he : keepsV P l x = (true, 0) := Prod.ext hkv h0
                  obtain ⟨-, hnum, -⟩ := kept_spec he
                  obtain ⟨n1, n2⟩ := nums_at hnum
                  obtain ⟨k1, k2⟩ := kept_between (a := a) (b := b) he hsol ha hb
                  have q1 := n2 a (by omega)
                  have q2 := n2 b (by omega)
                  exact .inl ⟨_, _, get_at' (by omega), get_at' (by omega), by omega, by omega, by omega, by omega, he, k1, k2⟩
              · have h0 : (checkPathV P l a b M y).2 = 0 := by
                  unfold checkPathV
                  rw [if_pos hg]
                  split
                  · rfl
                  · split
                    · rfl
                    · split <;> rfl
                cases hpv : (checkPathV P l a b M y).1
                · exact .inr (Prod.ext hpv h0)
                · have he : checkPathV P l a b M y = (true, 0) := Prod.ext hpv h0
                  refine .inl ⟨he, ?_⟩
                  rcases path_spec he with ⟨e, h1⟩ | ⟨s, h1, hwk⟩
                  · have e' : a = b := by omega
                    subst e'
                    rw [dist_self hk hsol (by omega)]
                    exact ⟨h1, by unfold Inf; omega⟩
                  · have hyl := hy.len
                    have h2 := walk_bd (okB_of hk) hwk
                    rw [List.length_map] at h2
                    have h3 := dist_walk hk hsol (by omega) hwk (by rw [List.length_map]; omega)
                    rw [Int.toNat_natCast, Int.toNat_natCast] at h3
                    exact ⟨by omega, by unfold Inf; omega⟩
              · have hav : ¬ gcode P l [(a : Int), (b : Int)] ≠ 0 := by simpa using hg
                cases hx2 : settle (l ++ tieB a b N) P.toNat zeros with
                | some x2 =>
                  obtain ⟨t1, t2, t3, t4, -⟩ := tie_spec hk ha hb ⟨hN, hN2⟩ hx2
                  obtain ⟨t5, t6, t7⟩ := tie_low hk hz ha hb ⟨hN, hN2⟩ hx2
                  refine .inl ⟨x2.take P.toNat, _, _, by rw [List.length_take]; omega, take_at' t1 ha (by omega), take_at' t1 hb (by omega), by have := t7 a; omega, by have := t4 a; omega, by have := t7 b; omega, by have := t4 b; omega, t3, ?_, ?_, t5, t6⟩
                  · unfold attainV
                    rw [if_neg hav, if_neg (by omega), if_neg (by simp [hsol]), hx2]
                  · exact kept_of hk t1 t2 (fun v _ => by have := t7 v; have := t4 v; omega)
                | none =>
                  have e3 : attainV P l a b N = ([], false, 0) := by
                    unfold attainV
                    rw [if_neg hav, if_neg (by omega), if_neg (by simp [hsol]), hx2]
                  by_cases q1 : N ≤ dist l P.toNat a b
                  · by_cases q2 : -N ≤ dist l P.toNat b a
                    · have := attain_yes hk hz ha hb ⟨hN, hN2⟩ q1 q2
                      rw [hx2] at this
                      cases this
                    · exact .inr (.inr ⟨e3, q1, by omega⟩)
                  · exact .inr (.inl ⟨e3, by omega⟩)
            · refine shw_err P A n k l w hr hn a b N M Bx m d x hx hm C m2 d2 y hy hm2 hw h7 h8 hN hN2 (scode P l [a, b]) (by simpa using hs) (Lib.hid fun x t q e => ?_) (Lib.hid fun x t q e => ?_)
              · obtain ⟨e1, e2, e3, -⟩ := endV_no hs e; exact ⟨e1, e2, e3⟩
              · obtain ⟨e1, e2, e3, -⟩ := endV_no hs e; exact ⟨e1, e2, e3⟩
          · exact shw_5 P A n k l w hr hn a b N M Bx m d x hx hm C m2 d2 y hy hm2 hw h7 h8 hN (by omega)
        · exact shw_4 P A n k l w hr hn a b N M Bx m d x hx hm C m2 d2 y hy hm2 hw h7 h8 (by omega)
      · exact shw_3 P A n k l w hr hn a b N M Bx m d x hx hm C m2 d2 y hy hm2 hw h7 (by omega)
    · exact shw_2 P A n k l w hr hn a b N M Bx m d x hx hm C m2 d2 y hy hm2 hw (by omega)
  · exact shw_1 P A n k l w hr hn a b N M Bx m d x hx hm C m2 d2 y hy hm2 hw

set_option maxRecDepth 100000 in
theorem gaugeSharp_lifted (os : Os) (started : os.Started) (H : Type) (enc : TypeId × Value → H) :
    ReturnsInHanded {} Try.checked os 12 .any (Rows.gaugeSharpSpec.pre6 enc Try.prog Try.f12 Rows.gaugeSharpRow.domain false) (Rows.gaugeSharpSpec.post enc Try.prog Try.f12 false true false false) := by
  refine returnsInHanded_of_change (C := Try.checked) Law.own started (by kernel_rfl) Try.func12
    (ChangeSpec.witness6 (enc := enc) (C := Try.checked) false ⟨#[], #[.agg #[.int .i64 0, .slice none 0 0], .int .i64 0, .int .i64 0, .int .i64 0, .int .i64 0, .slice none 0 0, .slice none 0 0], []⟩ 8 (by kernel_rfl) (by kernel_rfl) (by kernel_rfl) (by kernel_rfl)) ?_
  intro W base args ds gs before hval0 hW hcnd _
  have hval : ∀ (j : Nat) t v, Try.f12.params[j]? = some t → args[j]? = some v → Value.okWide Try.prog W .any base t v := hval0
  have hW' := hW
  obtain ⟨p, q, hA0, hV, rfl, hfz, hnd⟩ := hW
  have hA : DataW.TrodAll enc Try.prog W 0 (fun _ => true) true Try.f12.params.toList args.toList ds p := hA0
  rw [Try.params12] at hA hval
  obtain ⟨v0, vs0, d0, ds0, p0, q0, hargs, rfl, rfl, h0, r0⟩ := trodAll_cons hA
  obtain ⟨v1, vs1, d1, ds1, p1, q1, rfl, rfl, rfl, h1, r1⟩ := trodAll_cons r0
  obtain ⟨v2, vs2, d2, ds2, p2, q2, rfl, rfl, rfl, h2, r2⟩ := trodAll_cons r1
  obtain ⟨v3, vs3, d3, ds3, p3, q3, rfl, rfl, rfl, h3, r3⟩ := trodAll_cons r2
  obtain ⟨v4, vs4, d4, ds4, p4, q4, rfl, rfl, rfl, h4, r4⟩ := trodAll_cons r3
  obtain ⟨v5, vs5, d5, ds5, p5, q5, rfl, rfl, rfl, h5, r5⟩ := trodAll_cons r4
  obtain ⟨v6, vs6, d6, ds6, p6, q6, rfl, rfl, rfl, h6, r6⟩ := trodAll_cons r5
  obtain ⟨rfl, rfl, rfl⟩ := trodAll_nil r6
  obtain rfl : args = #[v0, v1, v2, v3, v4, v5, v6] := by cases args; simp_all
  obtain ⟨rfl, rfl⟩ := trodVars_none hV
  have k0 := h0
  have lt0 : ∀ x ∈ p0, x.block < W.heap.size := by obtain ⟨m, hm⟩ := k0; exact DataW.trod_lt m _ _ _ hm
  obtain ⟨P0, A0, n0, c0, l0, rfl, w0, rd0, mx0⟩ := open_sys (hval 0 24 v0 rfl rfl) h0
  obtain ⟨a1, rfl, rfl, rfl, w1⟩ := open_int Try.underlying3 (hval 1 3 v1 rfl rfl) h1
  obtain ⟨a2, rfl, rfl, rfl, w2⟩ := open_int Try.underlying3 (hval 2 3 v2 rfl rfl) h2
  obtain ⟨a3, rfl, rfl, rfl, w3⟩ := open_int Try.underlying3 (hval 3 3 v3 rfl rfl) h3
  obtain ⟨a4, rfl, rfl, rfl, w4⟩ := open_int Try.underlying3 (hval 4 3 v4 rfl rfl) h4
  have k5 := h5
  have lt5 : ∀ x ∈ p5, x.block < W.heap.size := by obtain ⟨m, hm⟩ := k5; exact DataW.trod_lt m _ _ _ hm
  obtain ⟨A5, n5, c5, l5, rfl, rd5, mx5, w5⟩ := open_nums (hval 5 33 v5 rfl rfl) h5
  have k6 := h6
  have lt6 : ∀ x ∈ p6, x.block < W.heap.size := by obtain ⟨m, hm⟩ := k6; exact DataW.trod_lt m _ _ _ hm
  obtain ⟨A6, n6, c6, l6, rfl, rd6, mx6, w6⟩ := open_nums (hval 6 33 v6 rfl rfl) h6
  clear hA0 hval0
  refine (shw_walk W P0 A0 n0 c0 l0 w0 rd0 mx0 a1 w1 a2 w2 a3 w3 a4 w4 A5 n5 c5 l5 rd5 mx5 w5 A6 n6 c6 l6 rd6 mx6 w6).mono fun e W' ⟨he, bel⟩ => ?_
  subst he
  exact ⟨_, rfl, _, _, _, [], _, [], hW', trodAll_mk1 (shut_bool Try.underlying4 _), (trodAll_cons_mk (Below.trod Law.laidOut (by kernel_rfl) (of_decide_eq_true (by kernel_rfl)) k0 bel lt0) (trodAll_cons_mk (shut_int Try.underlying3 w1) (trodAll_cons_mk (shut_int Try.underlying3 w2) (trodAll_cons_mk (shut_int Try.underlying3 w3) (trodAll_cons_mk (shut_int Try.underlying3 w4) (trodAll_cons_mk (Below.trod Law.laidOut (by kernel_rfl) (of_decide_eq_true (by kernel_rfl)) k5 bel lt5) (trodAll_cons_mk (Below.trod Law.laidOut (by kernel_rfl) (of_decide_eq_true (by kernel_rfl)) k6 bel lt6) trodAll_mk0))))))), rfl, bel.frame _, fun h => by cases h⟩

theorem gaugeSharp_over : Rows.gaugeSharpRow.holds Try.pinned (OpenSpec.ofChange Rows.gaugeSharpSpec) :=
  OpenClaim.holds_of_wide 12 Try.f12 rfl rfl rfl rfl rfl rfl rfl ⟨rfl, rfl, rfl, rfl, rfl⟩ rfl rfl rfl rfl rfl (by kernel_rfl) Try.func12 (by kernel_rfl)
    (of_decide_eq_true (by kernel_rfl)) (by unfold Func.isWrapper; first | (rw [if_pos (by decide +kernel)]; kernel_rfl) | (rw [if_neg (by decide +kernel)]; exact ⟨rfl, rfl⟩))
    (fun os started H enc _ => gaugeSharp_lifted os started H enc)

theorem gaugeSharp_proved : Rows.GaugeSharpSaid := gaugeSharp_over
end Go.Proofs.Ythlnialipjihdaa
