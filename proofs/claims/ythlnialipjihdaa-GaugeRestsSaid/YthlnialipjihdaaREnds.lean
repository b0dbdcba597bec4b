/- The reference's Greatest, Least, fixed, Fixed. -/
import Derived.Test.YthlnialipjihdaaRGreat
import Derived.Test.YthlnialipjihdaaEndT
import Derived.Test.YthlnialipjihdaaFixed
set_option linter.unusedSimpArgs false
set_option linter.unusedVariables false
namespace Go.Proofs.Ythlnialipjihdaa
open Go.RowKit

set_option maxRecDepth 100000 in
set_option maxHeartbeats 4000000 in
theorem rGreatest_err (P a b : Int) (A : Option Addr) (n k : Nat) (l : List Bnd) (w : World) (hr : RdB w A n k l) (hn : n ≤ maxLen) (q : Int) (hq : (q != 0) = true) (E0 : Hid (gcode P l [a, b] = q)) :
    Calls Try.prog 33 #[.agg #[.int .i64 P, .slice A n k], .int .i64 (a : Int), .int .i64 (b : Int)] w fun e w' => e = .returned (.tuple #[.int .i64 0, .bool false, .int .i64 q]) ∧ Below w.heap.size w w' := by
  go_enter Try.func33, Try.ntmps33
  have bel_1 := Lib.hid (show Below w.heap.size w w from Below.refl _ w)
  have rd_2 := Lib.hid (hr)
  clear hr
  have bel_3 := Lib.hid (Below.alloc bel_1.out (bel_1.out.size) (.cells #[.int .i64 P, .slice A n k] 24))
  clear bel_1
  have rd_4 := Lib.hid (RdB.alloc rd_2.out (.cells #[.int .i64 P, .slice A n k] 24))
  clear rd_2
  have srd_5 := Lib.hid (Blk.new w 24 #[.int .i64 P, .slice A n k])
  have hc := asked_any P a b A n k l _ rd_4.out hn
  rw [E0.out] at hc
  try dsimp only at hc
  have HC := Lib.hid hc; clear hc
  go_wp2_with fail
  refine HC.out.mono ?_
  rintro e w_6 ⟨rfl, hb⟩
  clear HC
  have bel_7 := Lib.hid (Below.trans bel_3.out (Below.mono hb (bel_3.out.size)))
  clear bel_3
  have rd_8 := Lib.hid (RdB.below rd_4.out hb)
  clear rd_4
  have srd_9 := Lib.hid (Blk.keep srd_5.out hb)
  clear srd_5
  clear hb
  have z_10 : (w_6).cell? ⟨w.heap.size, 0, none⟩ = some (.int .i64 P) := Blk.cell srd_9.out 0
  have z_11 : (w_6).cell? ⟨w.heap.size, 1, none⟩ = some (.slice A n k) := Blk.cell srd_9.out 1
  go_wp2
  go_ret3
  exact ⟨rfl, bel_7.out⟩

set_option maxRecDepth 100000 in
set_option maxHeartbeats 4000000 in
theorem rGreatest_circ (p a b : Nat) (A : Option Addr) (n k : Nat) (l : List Bnd) (w : World) (hr : RdB w A n k l) (hn : n ≤ maxLen) (hn4 : n ≤ 402) (hp1 : 1 ≤ p) (hp : p ≤ 60) (ha : a < p) (hb : b < p) (HE : Hid (OkP p l)) (hS : (settle l p zeros).isSome = false) (E0 : Hid (gcode p l [(a : Int), (b : Int)] = 0)) :
    Calls Try.prog 33 #[.agg #[.int .i64 (p : Int), .slice A n k], .int .i64 (a : Int), .int .i64 (b : Int)] w fun e w' => e = .returned (.tuple #[.int .i64 0, .bool false, .int .i64 10]) ∧ Below w.heap.size w w' := by
  go_enter Try.func33, Try.ntmps33
  have bel_1 := Lib.hid (show Below w.heap.size w w from Below.refl _ w)
  have rd_2 := Lib.hid (hr)
  clear hr
  have bel_3 := Lib.hid (Below.alloc bel_1.out (bel_1.out.size) (.cells #[.int .i64 (p : Int), .slice A n k] 24))
  clear bel_1
  have rd_4 := Lib.hid (RdB.alloc rd_2.out (.cells #[.int .i64 (p : Int), .slice A n k] 24))
  clear rd_2
  have srd_5 := Lib.hid (Blk.new w 24 #[.int .i64 (p : Int), .slice A n k])
  have hc := asked_any p a b A n k l _ rd_4.out hn
  rw [E0.out] at hc
  try dsimp only at hc
  have HC := Lib.hid hc; clear hc
  go_wp2_with fail
  refine HC.out.mono ?_
  rintro e w_6 ⟨rfl, hb⟩
  clear HC
  have bel_7 := Lib.hid (Below.trans bel_3.out (Below.mono hb (bel_3.out.size)))
  clear bel_3
  have rd_8 := Lib.hid (RdB.below rd_4.out hb)
  clear rd_4
  have srd_9 := Lib.hid (Blk.keep srd_5.out hb)
  clear srd_5
  clear hb
  have z_10 : (w_6).cell? ⟨w.heap.size, 0, none⟩ = some (.int .i64 (p : Int)) := Blk.cell srd_9.out 0
  have z_11 : (w_6).cell? ⟨w.heap.size, 1, none⟩ = some (.slice A n k) := Blk.cell srd_9.out 1
  have hc := rSolved_no p A n k l _ rd_8.out hn hn4 hp1 hp HE hS
  have HC := Lib.hid hc; clear hc
  go_wp2_with fail
  refine HC.out.mono ?_
  rintro e w_12 ⟨rfl, hb⟩
  clear HC
  clear z_10 z_11
  have bel_13 := Lib.hid (Below.trans bel_7.out (Below.mono hb (bel_7.out.size)))
  clear bel_7
  have rd_14 := Lib.hid (RdB.below rd_8.out hb)
  clear rd_8
  have srd_15 := Lib.hid (Blk.keep srd_9.out hb)
  clear srd_9
  clear hb
  have z_16 : (w_12).cell? ⟨w.heap.size, 0, none⟩ = some (.int .i64 (p : Int)) := Blk.cell srd_15.out 0
  have z_17 : (w_12).cell? ⟨w.heap.size, 1, none⟩ = some (.slice A n k) := Blk.cell srd_15.out 1
  go_wp2
  go_ret3
  exact ⟨rfl, bel_13.out⟩

set_option maxRecDepth 100000 in
set_option maxHeartbeats 4000000 in
theorem rGreatest_ok (p a b : Nat) (A : Option Addr) (n k : Nat) (l : List Bnd) (w : World) (hr : RdB w A n k l) (hn : n ≤ maxLen) (hn4 : n ≤ 402) (hp1 : 1 ≤ p) (hp : p ≤ 60) (ha : a < p) (hb : b < p) (HE : Hid (OkP p l)) (hk : chk p l = 0) (hS : (settle l p zeros).isSome = true) (E0 : Hid (gcode p l [(a : Int), (b : Int)] = 0)) (X : Int) (t : Bool) (F1 : Hid (fin (dist l p a b) = X)) (I1 : Hid (isF (dist l p a b) = t)) :
    Calls Try.prog 33 #[.agg #[.int .i64 (p : Int), .slice A n k], .int .i64 (a : Int), .int .i64 (b : Int)] w fun e w' => e = .returned (.tuple #[.int .i64 X, .bool t, .int .i64 0]) ∧ Below w.heap.size w w' := by
  go_enter Try.func33, Try.ntmps33
  have bel_1 := Lib.hid (show Below w.heap.size w w from Below.refl _ w)
  have rd_2 := Lib.hid (hr)
  clear hr
  have bel_3 := Lib.hid (Below.alloc bel_1.out (bel_1.out.size) (.cells #[.int .i64 (p : Int), .slice A n k] 24))
  clear bel_1
  have rd_4 := Lib.hid (RdB.alloc rd_2.out (.cells #[.int .i64 (p : Int), .slice A n k] 24))
  clear rd_2
  have srd_5 := Lib.hid (Blk.new w 24 #[.int .i64 (p : Int), .slice A n k])
  have hc := asked_any p a b A n k l _ rd_4.out hn
  rw [E0.out] at hc
  try dsimp only at hc
  have HC := Lib.hid hc; clear hc
  go_wp2_with fail
  refine HC.out.mono ?_
  rintro e w_6 ⟨rfl, hb⟩
  clear HC
  have bel_7 := Lib.hid (Below.trans bel_3.out (Below.mono hb (bel_3.out.size)))
  clear bel_3
  have rd_8 := Lib.hid (RdB.below rd_4.out hb)
  clear rd_4
  have srd_9 := Lib.hid (Blk.keep srd_5.out hb)
  clear srd_5
  clear hb
  have z_10 : (w_6).cell? ⟨w.heap.size, 0, none⟩ = some (.int .i64 (p : Int)) := Blk.cell srd_9.out 0
  have z_11 : (w_6).cell? ⟨w.heap.size, 1, none⟩ = some (.slice A n k) := Blk.cell srd_9.out 1
  have hc := rSolved_yes p A n k l _ rd_8.out hn hn4 hp1 hp HE hS
  have HC := Lib.hid hc; clear hc
  go_wp2_with fail
  refine HC.out.mono ?_
  rintro e w_12 ⟨rfl, hb⟩
  clear HC
  clear z_10 z_11
  have bel_13 := Lib.hid (Below.trans bel_7.out (Below.mono hb (bel_7.out.size)))
  clear bel_7
  have rd_14 := Lib.hid (RdB.below rd_8.out hb)
  clear rd_8
  have srd_15 := Lib.hid (Blk.keep srd_9.out hb)
  clear srd_9
  clear hb
  have z_16 : (w_12).cell? ⟨w.heap.size, 0, none⟩ = some (.int .i64 (p : Int)) := Blk.cell srd_15.out 0
  have z_17 : (w_12).cell? ⟨w.heap.size, 1, none⟩ = some (.slice A n k) := Blk.cell srd_15.out 1
  have hc := rgreat_any p a b A n k l _ rd_14.out hn4 hk hS ha hb
  rw [F1.out] at hc
  rw [I1.out] at hc
  try dsimp only at hc
  have HC := Lib.hid hc; clear hc
  go_wp2_with fail
  refine HC.out.mono ?_
  rintro e w_18 ⟨rfl, hb⟩
  clear HC
  clear z_16 z_17
  have bel_19 := Lib.hid (Below.trans bel_13.out (Below.mono hb (bel_13.out.size)))
  clear bel_13
  have rd_20 := Lib.hid (RdB.below rd_14.out hb)
  clear rd_14
  have srd_21 := Lib.hid (Blk.keep srd_15.out hb)
  clear srd_15
  clear hb
  have z_22 : (w_18).cell? ⟨w.heap.size, 0, none⟩ = some (.int .i64 (p : Int)) := Blk.cell srd_21.out 0
  have z_23 : (w_18).cell? ⟨w.heap.size, 1, none⟩ = some (.slice A n k) := Blk.cell srd_21.out 1
  go_wp2
  go_ret3
  exact ⟨rfl, bel_19.out⟩

theorem scode_of_gcode {P : Int} {l : List Bnd} {ps : List Int} (h : ¬ gcode P l ps = 0) : scode P l ps = gcode P l ps := by unfold scode; rw [if_neg h]
theorem scode_swap (P : Int) (l : List Bnd) (a b : Int) : scode P l [a, b] = scode P l [b, a] := by
  have : gcode P l [a, b] = gcode P l [b, a] := by
    unfold gcode
    simp only [List.all_cons, List.all_nil, Bool.and_true]
    rw [Bool.and_comm]
  unfold scode
  rw [this]

theorem rGreatest_any (P a b : Int) (A : Option Addr) (n k : Nat) (l : List Bnd) (w : World) (hr : RdB w A n k l) (hn : n ≤ maxLen) : Calls Try.prog 33 #[.agg #[.int .i64 P, .slice A n k], .int .i64 (a : Int), .int .i64 (b : Int)] w fun e w' => e = .returned (tup (greatT P l a b)) ∧ Below w.heap.size w w' := by
  by_cases hg : gcode P l [a, b] = 0
  · obtain ⟨hk, ⟨a0, a1⟩, b0, b1⟩ := gcode_pts hg
    obtain ⟨hp1, hp2, hlen, -⟩ := chk_ok hk
    have he := okP_of hk
    obtain ⟨p, rfl⟩ := Int.eq_ofNat_of_zero_le (show 0 ≤ P by omega)
    obtain ⟨a, rfl⟩ := Int.eq_ofNat_of_zero_le a0
    obtain ⟨b, rfl⟩ := Int.eq_ofNat_of_zero_le b0
    rw [Int.toNat_natCast] at he
    have hn4 : n ≤ 402 := by have := hr.len; omega
    cases hS : (settle l p zeros).isSome
    · have hs : scode p l [(a : Int), (b : Int)] = 10 := by unfold scode; rw [if_pos hg, Int.toNat_natCast, hS]; rfl
      unfold tup greatT
      simp only [hs]
      exact rGreatest_circ p a b A n k l w hr hn hn4 (by omega) (by omega) (by omega) (by omega) (Lib.hid he) hS (Lib.hid hg)
    · have hs : scode p l [(a : Int), (b : Int)] = 0 := by unfold scode; rw [if_pos hg, Int.toNat_natCast, hS]; rfl
      unfold tup greatT
      simp only [hs, if_pos, Int.toNat_natCast]
      exact rGreatest_ok p a b A n k l w hr hn hn4 (by omega) (by omega) (by omega) (by omega) (Lib.hid he) hk hS (Lib.hid hg) _ _ (Lib.hid rfl) (Lib.hid rfl)
  · have hs := scode_of_gcode hg
    have hs' : ¬ scode P l [a, b] = 0 := by rw [hs]; exact hg
    unfold tup greatT
    simp only [if_neg hs']
    rw [hs]
    exact rGreatest_err P a b A n k l w hr hn _ (by simpa using hg) (Lib.hid rfl)

set_option maxRecDepth 100000 in
set_option maxHeartbeats 4000000 in
theorem rLeast_err (P a b : Int) (A : Option Addr) (n k : Nat) (l : List Bnd) (w : World) (hr : RdB w A n k l) (hn : n ≤ maxLen) (q : Int) (hq : (q != 0) = true) (E0 : Hid (gcode P l [a, b] = q)) :
    Calls Try.prog 35 #[.agg #[.int .i64 P, .slice A n k], .int .i64 (a : Int), .int .i64 (b : Int)] w fun e w' => e = .returned (.tuple #[.int .i64 0, .bool false, .int .i64 q]) ∧ Below w.heap.size w w' := by
  go_enter Try.func35, Try.ntmps35
  have bel_1 := Lib.hid (show Below w.heap.size w w from Below.refl _ w)
  have rd_2 := Lib.hid (hr)
  clear hr
  have bel_3 := Lib.hid (Below.alloc bel_1.out (bel_1.out.size) (.cells #[.int .i64 P, .slice A n k] 24))
  clear bel_1
  have rd_4 := Lib.hid (RdB.alloc rd_2.out (.cells #[.int .i64 P, .slice A n k] 24))
  clear rd_2
  have srd_5 := Lib.hid (Blk.new w 24 #[.int .i64 P, .slice A n k])
  have hc := asked_any P a b A n k l _ rd_4.out hn
  rw [E0.out] at hc
  try dsimp only at hc
  have HC := Lib.hid hc; clear hc
  go_wp2_with fail
  refine HC.out.mono ?_
  rintro e w_6 ⟨rfl, hb⟩
  clear HC
  have bel_7 := Lib.hid (Below.trans bel_3.out (Below.mono hb (bel_3.out.size)))
  clear bel_3
  have rd_8 := Lib.hid (RdB.below rd_4.out hb)
  clear rd_4
  have srd_9 := Lib.hid (Blk.keep srd_5.out hb)
  clear srd_5
  clear hb
  have z_10 : (w_6).cell? ⟨w.heap.size, 0, none⟩ = some (.int .i64 P) := Blk.cell srd_9.out 0
  have z_11 : (w_6).cell? ⟨w.heap.size, 1, none⟩ = some (.slice A n k) := Blk.cell srd_9.out 1
  go_wp2
  go_ret3
  exact ⟨rfl, bel_7.out⟩

set_option maxRecDepth 100000 in
set_option maxHeartbeats 4000000 in
theorem rLeast_ok (P a b : Int) (A : Option Addr) (n k : Nat) (l : List Bnd) (w : World) (hr : RdB w A n k l) (hn : n ≤ maxLen) (E0 : Hid (gcode P l [a, b] = 0)) (X q : Int) (t : Bool) (hX1 : -6000000000 ≤ X) (hX2 : X ≤ 6000000000) (E1 : Hid (tup (greatT P l b a) = .tuple #[.int .i64 X, .bool t, .int .i64 q])) :
    Calls Try.prog 35 #[.agg #[.int .i64 P, .slice A n k], .int .i64 (a : Int), .int .i64 (b : Int)] w fun e w' => e = .returned (.tuple #[.int .i64 (-X), .bool t, .int .i64 q]) ∧ Below w.heap.size w w' := by
  go_enter Try.func35, Try.ntmps35
  have bel_1 := Lib.hid (show Below w.heap.size w w from Below.refl _ w)
  have rd_2 := Lib.hid (hr)
  clear hr
  have bel_3 := Lib.hid (Below.alloc bel_1.out (bel_1.out.size) (.cells #[.int .i64 P, .slice A n k] 24))
  clear bel_1
  have rd_4 := Lib.hid (RdB.alloc rd_2.out (.cells #[.int .i64 P, .slice A n k] 24))
  clear rd_2
  have srd_5 := Lib.hid (Blk.new w 24 #[.int .i64 P, .slice A n k])
  have hc := asked_any P a b A n k l _ rd_4.out hn
  rw [E0.out] at hc
  try dsimp only at hc
  have HC := Lib.hid hc; clear hc
  go_wp2_with fail
  refine HC.out.mono ?_
  rintro e w_6 ⟨rfl, hb⟩
  clear HC
  have bel_7 := Lib.hid (Below.trans bel_3.out (Below.mono hb (bel_3.out.size)))
  clear bel_3
  have rd_8 := Lib.hid (RdB.below rd_4.out hb)
  clear rd_4
  have srd_9 := Lib.hid (Blk.keep srd_5.out hb)
  clear srd_5
  clear hb
  have z_10 : (w_6).cell? ⟨w.heap.size, 0, none⟩ = some (.int .i64 P) := Blk.cell srd_9.out 0
  have z_11 : (w_6).cell? ⟨w.heap.size, 1, none⟩ = some (.slice A n k) := Blk.cell srd_9.out 1
  have hc := rGreatest_any P b a A n k l _ rd_8.out hn
  rw [E1.out] at hc
  try dsimp only at hc
  have HC := Lib.hid hc; clear hc
  go_wp2_with fail
  refine HC.out.mono ?_
  rintro e w_12 ⟨rfl, hb⟩
  clear HC
  clear z_10 z_11
  have bel_13 := Lib.hid (Below.trans bel_7.out (Below.mono hb (bel_7.out.size)))
  clear bel_7
  have rd_14 := Lib.hid (RdB.below rd_8.out hb)
  clear rd_8
  have srd_15 := Lib.hid (Blk.keep srd_9.out hb)
  clear srd_9
  clear hb
  have z_16 : (w_12).cell? ⟨w.heap.size, 0, none⟩ = some (.int .i64 P) := Blk.cell srd_15.out 0
  have z_17 : (w_12).cell? ⟨w.heap.size, 1, none⟩ = some (.slice A n k) := Blk.cell srd_15.out 1
  go_wp2
  go_ret3
  exact ⟨rfl, bel_13.out⟩

theorem rLeast_any (P a b : Int) (A : Option Addr) (n k : Nat) (l : List Bnd) (w : World) (hr : RdB w A n k l) (hn : n ≤ maxLen) : Calls Try.prog 35 #[.agg #[.int .i64 P, .slice A n k], .int .i64 (a : Int), .int .i64 (b : Int)] w fun e w' => e = .returned (tup (leastT P l a b)) ∧ Below w.heap.size w w' := by
  by_cases hg : gcode P l [a, b] = 0
  · obtain ⟨hk, ⟨a0, a1⟩, b0, b1⟩ := gcode_pts hg
    obtain ⟨hp1, hp2, hlen, -⟩ := chk_ok hk
    have hbd := fin_bd (p := P.toNat) (a := b.toNat) (b := a.toNat) (okB_of hk) (by omega) (by omega) (by omega)
    by_cases hs : scode P l [b, a] = 0
    · have hs' : scode P l [a, b] = 0 := by rw [scode_swap]; exact hs
      unfold tup leastT
      simp only [if_pos hs']
      exact rLeast_ok P a b A n k l w hr hn (Lib.hid hg) _ _ _ hbd.1 hbd.2 (Lib.hid (by unfold tup greatT; simp only [if_pos hs]))
    · have hs' : ¬ scode P l [a, b] = 0 := by rw [scode_swap]; exact hs
      unfold tup leastT
      simp only [if_neg hs']
      have := rLeast_ok P a b A n k l w hr hn (Lib.hid hg) 0 (scode P l [a, b]) false (by omega) (by omega) (Lib.hid (by unfold tup greatT; simp only [if_neg hs]; rw [scode_swap]))
      exact this
  · have hs := scode_of_gcode hg
    have hs' : ¬ scode P l [a, b] = 0 := by rw [hs]; exact hg
    unfold tup leastT
    simp only [if_neg hs']
    rw [hs]
    exact rLeast_err P a b A n k l w hr hn _ (by simpa using hg) (Lib.hid rfl)

set_option maxRecDepth 100000 in
set_option maxHeartbeats 4000000 in
theorem rfixed_n1 (p a b : Nat) (A : Option Addr) (n k : Nat) (l : List Bnd) (w : World) (hr : RdB w A n k l) (hn : n ≤ maxLen) (hn4 : n ≤ 402) (hp1 : 1 ≤ p) (hp : p ≤ 60) (ha : a < p) (hb : b < p) (t2 : Bool) (HE : Hid (OkP p l)) (hk : chk p l = 0) (hS : (settle l p zeros).isSome = true) (X Y : Int) (y1 : -6000000000 ≤ Y) (y2 : Y ≤ 6000000000) (F1 : Hid (fin (dist l p a b) = X)) (I1 : Hid (isF (dist l p a b) = false)) (F2 : Hid (fin (dist l p b a) = Y)) (I2 : Hid (isF (dist l p b a) = t2)) :
    Calls Try.prog 83 #[.agg #[.int .i64 (p : Int), .slice A n k], .int .i64 (a : Int), .int .i64 (b : Int)] w fun e w' => e = .returned (.tuple #[.int .i64 0, .bool false]) ∧ Below w.heap.size w w' := by
  go_enter Try.func83, Try.ntmps83
  have bel_1 := Lib.hid (show Below w.heap.size w w from Below.refl _ w)
  have rd_2 := Lib.hid (hr)
  clear hr
  have bel_3 := Lib.hid (Below.alloc bel_1.out (bel_1.out.size) (.cells #[.int .i64 (p : Int), .slice A n k] 24))
  clear bel_1
  have rd_4 := Lib.hid (RdB.alloc rd_2.out (.cells #[.int .i64 (p : Int), .slice A n k] 24))
  clear rd_2
  have srd_5 := Lib.hid (Blk.new w 24 #[.int .i64 (p : Int), .slice A n k])
  have hc := rgreat_any p a b A n k l _ rd_4.out hn4 hk hS ha hb
  rw [F1.out] at hc
  rw [I1.out] at hc
  try dsimp only at hc
  have HC := Lib.hid hc; clear hc
  go_wp2_with fail
  refine HC.out.mono ?_
  rintro e w_6 ⟨rfl, hb⟩
  clear HC
  have bel_7 := Lib.hid (Below.trans bel_3.out (Below.mono hb (bel_3.out.size)))
  clear bel_3
  have rd_8 := Lib.hid (RdB.below rd_4.out hb)
  clear rd_4
  have srd_9 := Lib.hid (Blk.keep srd_5.out hb)
  clear srd_5
  clear hb
  have z_10 : (w_6).cell? ⟨w.heap.size, 0, none⟩ = some (.int .i64 (p : Int)) := Blk.cell srd_9.out 0
  have z_11 : (w_6).cell? ⟨w.heap.size, 1, none⟩ = some (.slice A n k) := Blk.cell srd_9.out 1
  have hc := rgreat_any p b a A n k l _ rd_8.out hn4 hk hS hb ha
  rw [F2.out] at hc
  rw [I2.out] at hc
  try dsimp only at hc
  have HC := Lib.hid hc; clear hc
  go_wp2_with fail
  refine HC.out.mono ?_
  rintro e w_12 ⟨rfl, hb⟩
  clear HC
  clear z_10 z_11
  have bel_13 := Lib.hid (Below.trans bel_7.out (Below.mono hb (bel_7.out.size)))
  clear bel_7
  have rd_14 := Lib.hid (RdB.below rd_8.out hb)
  clear rd_8
  have srd_15 := Lib.hid (Blk.keep srd_9.out hb)
  clear srd_9
  clear hb
  have z_16 : (w_12).cell? ⟨w.heap.size, 0, none⟩ = some (.int .i64 (p : Int)) := Blk.cell srd_15.out 0
  have z_17 : (w_12).cell? ⟨w.heap.size, 1, none⟩ = some (.slice A n k) := Blk.cell srd_15.out 1
  go_wp2
  go_ret2
  exact ⟨rfl, bel_13.out⟩

set_option maxRecDepth 100000 in
set_option maxHeartbeats 4000000 in
theorem rfixed_n2 (p a b : Nat) (A : Option Addr) (n k : Nat) (l : List Bnd) (w : World) (hr : RdB w A n k l) (hn : n ≤ maxLen) (hn4 : n ≤ 402) (hp1 : 1 ≤ p) (hp : p ≤ 60) (ha : a < p) (hb : b < p) (HE : Hid (OkP p l)) (hk : chk p l = 0) (hS : (settle l p zeros).isSome = true) (X Y : Int) (y1 : -6000000000 ≤ Y) (y2 : Y ≤ 6000000000) (F1 : Hid (fin (dist l p a b) = X)) (I1 : Hid (isF (dist l p a b) = true)) (F2 : Hid (fin (dist l p b a) = Y)) (I2 : Hid (isF (dist l p b a) = false)) :
    Calls Try.prog 83 #[.agg #[.int .i64 (p : Int), .slice A n k], .int .i64 (a : Int), .int .i64 (b : Int)] w fun e w' => e = .returned (.tuple #[.int .i64 0, .bool false]) ∧ Below w.heap.size w w' := by
  go_enter Try.func83, Try.ntmps83
  have bel_1 := Lib.hid (show Below w.heap.size w w from Below.refl _ w)
  have rd_2 := Lib.hid (hr)
  clear hr
  have bel_3 := Lib.hid (Below.alloc bel_1.out (bel_1.out.size) (.cells #[.int .i64 (p : Int), .slice A n k] 24))
  clear bel_1
  have rd_4 := Lib.hid (RdB.alloc rd_2.out (.cells #[.int .i64 (p : Int), .slice A n k] 24))
  clear rd_2
  have srd_5 := Lib.hid (Blk.new w 24 #[.int .i64 (p : Int), .slice A n k])
  have hc := rgreat_any p a b A n k l _ rd_4.out hn4 hk hS ha hb
  rw [F1.out] at hc
  rw [I1.out] at hc
  try dsimp only at hc
  have HC := Lib.hid hc; clear hc
  go_wp2_with fail
  refine HC.out.mono ?_
  rintro e w_6 ⟨rfl, hb⟩
  clear HC
  have bel_7 := Lib.hid (Below.trans bel_3.out (Below.mono hb (bel_3.out.size)))
  clear bel_3
  have rd_8 := Lib.hid (RdB.below rd_4.out hb)
  clear rd_4
  have srd_9 := Lib.hid (Blk.keep srd_5.out hb)
  clear srd_5
  clear hb
  have z_10 : (w_6).cell? ⟨w.heap.size, 0, none⟩ = some (.int .i64 (p : Int)) := Blk.cell srd_9.out 0
  have z_11 : (w_6).cell? ⟨w.heap.size, 1, none⟩ = some (.slice A n k) := Blk.cell srd_9.out 1
  have hc := rgreat_any p b a A n k l _ rd_8.out hn4 hk hS hb ha
  rw [F2.out] at hc
  rw [I2.out] at hc
  try dsimp only at hc
  have HC := Lib.hid hc; clear hc
  go_wp2_with fail
  refine HC.out.mono ?_
  rintro e w_12 ⟨rfl, hb⟩
  clear HC
  clear z_10 z_11
  have bel_13 := Lib.hid (Below.trans bel_7.out (Below.mono hb (bel_7.out.size)))
  clear bel_7
  have rd_14 := Lib.hid (RdB.below rd_8.out hb)
  clear rd_8
  have srd_15 := Lib.hid (Blk.keep srd_9.out hb)
  clear srd_9
  clear hb
  have z_16 : (w_12).cell? ⟨w.heap.size, 0, none⟩ = some (.int .i64 (p : Int)) := Blk.cell srd_15.out 0
  have z_17 : (w_12).cell? ⟨w.heap.size, 1, none⟩ = some (.slice A n k) := Blk.cell srd_15.out 1
  go_wp2
  go_ret2
  exact ⟨rfl, bel_13.out⟩

set_option maxRecDepth 100000 in
set_option maxHeartbeats 4000000 in
theorem rfixed_n3 (p a b : Nat) (A : Option Addr) (n k : Nat) (l : List Bnd) (w : World) (hr : RdB w A n k l) (hn : n ≤ maxLen) (hn4 : n ≤ 402) (hp1 : 1 ≤ p) (hp : p ≤ 60) (ha : a < p) (hb : b < p) (HE : Hid (OkP p l)) (hk : chk p l = 0) (hS : (settle l p zeros).isSome = true) (X Y : Int) (y1 : -6000000000 ≤ Y) (y2 : Y ≤ 6000000000) (F1 : Hid (fin (dist l p a b) = X)) (I1 : Hid (isF (dist l p a b) = true)) (F2 : Hid (fin (dist l p b a) = Y)) (I2 : Hid (isF (dist l p b a) = true)) (hne : (X == -Y) = false) (hne2 : decide (X = -Y) = false) (hne3 : ¬ X = -Y) :
    Calls Try.prog 83 #[.agg #[.int .i64 (p : Int), .slice A n k], .int .i64 (a : Int), .int .i64 (b : Int)] w fun e w' => e = .returned (.tuple #[.int .i64 0, .bool false]) ∧ Below w.heap.size w w' := by
  go_enter Try.func83, Try.ntmps83
  have bel_1 := Lib.hid (show Below w.heap.size w w from Below.refl _ w)
  have rd_2 := Lib.hid (hr)
  clear hr
  have bel_3 := Lib.hid (Below.alloc bel_1.out (bel_1.out.size) (.cells #[.int .i64 (p : Int), .slice A n k] 24))
  clear bel_1
  have rd_4 := Lib.hid (RdB.alloc rd_2.out (.cells #[.int .i64 (p : Int), .slice A n k] 24))
  clear rd_2
  have srd_5 := Lib.hid (Blk.new w 24 #[.int .i64 (p : Int), .slice A n k])
  have hc := rgreat_any p a b A n k l _ rd_4.out hn4 hk hS ha hb
  rw [F1.out] at hc
  rw [I1.out] at hc
  try dsimp only at hc
  have HC := Lib.hid hc; clear hc
  go_wp2_with fail
  refine HC.out.mono ?_
  rintro e w_6 ⟨rfl, hb⟩
  clear HC
  have bel_7 := Lib.hid (Below.trans bel_3.out (Below.mono hb (bel_3.out.size)))
  clear bel_3
  have rd_8 := Lib.hid (RdB.below rd_4.out hb)
  clear rd_4
  have srd_9 := Lib.hid (Blk.keep srd_5.out hb)
  clear srd_5
  clear hb
  have z_10 : (w_6).cell? ⟨w.heap.size, 0, none⟩ = some (.int .i64 (p : Int)) := Blk.cell srd_9.out 0
  have z_11 : (w_6).cell? ⟨w.heap.size, 1, none⟩ = some (.slice A n k) := Blk.cell srd_9.out 1
  have hc := rgreat_any p b a A n k l _ rd_8.out hn4 hk hS hb ha
  rw [F2.out] at hc
  rw [I2.out] at hc
  try dsimp only at hc
  have HC := Lib.hid hc; clear hc
  go_wp2_with fail
  refine HC.out.mono ?_
  rintro e w_12 ⟨rfl, hb⟩
  clear HC
  clear z_10 z_11
  have bel_13 := Lib.hid (Below.trans bel_7.out (Below.mono hb (bel_7.out.size)))
  clear bel_7
  have rd_14 := Lib.hid (RdB.below rd_8.out hb)
  clear rd_8
  have srd_15 := Lib.hid (Blk.keep srd_9.out hb)
  clear srd_9
  clear hb
  have z_16 : (w_12).cell? ⟨w.heap.size, 0, none⟩ = some (.int .i64 (p : Int)) := Blk.cell srd_15.out 0
  have z_17 : (w_12).cell? ⟨w.heap.size, 1, none⟩ = some (.slice A n k) := Blk.cell srd_15.out 1
  go_wp2
  go_ret2
  exact ⟨rfl, bel_13.out⟩

set_option maxRecDepth 100000 in
set_option maxHeartbeats 4000000 in
theorem rfixed_y (p a b : Nat) (A : Option Addr) (n k : Nat) (l : List Bnd) (w : World) (hr : RdB w A n k l) (hn : n ≤ maxLen) (hn4 : n ≤ 402) (hp1 : 1 ≤ p) (hp : p ≤ 60) (ha : a < p) (hb : b < p) (HE : Hid (OkP p l)) (hk : chk p l = 0) (hS : (settle l p zeros).isSome = true) (Y : Int) (y1 : -6000000000 ≤ Y) (y2 : Y ≤ 6000000000) (F1 : Hid (fin (dist l p a b) = -Y)) (I1 : Hid (isF (dist l p a b) = true)) (F2 : Hid (fin (dist l p b a) = Y)) (I2 : Hid (isF (dist l p b a) = true)) :
    Calls Try.prog 83 #[.agg #[.int .i64 (p : Int), .slice A n k], .int .i64 (a : Int), .int .i64 (b : Int)] w fun e w' => e = .returned (.tuple #[.int .i64 (-Y), .bool true]) ∧ Below w.heap.size w w' := by
  go_enter Try.func83, Try.ntmps83
  have bel_1 := Lib.hid (show Below w.heap.size w w from Below.refl _ w)
  have rd_2 := Lib.hid (hr)
  clear hr
  have bel_3 := Lib.hid (Below.alloc bel_1.out (bel_1.out.size) (.cells #[.int .i64 (p : Int), .slice A n k] 24))
  clear bel_1
  have rd_4 := Lib.hid (RdB.alloc rd_2.out (.cells #[.int .i64 (p : Int), .slice A n k] 24))
  clear rd_2
  have srd_5 := Lib.hid (Blk.new w 24 #[.int .i64 (p : Int), .slice A n k])
  have hc := rgreat_any p a b A n k l _ rd_4.out hn4 hk hS ha hb
  rw [F1.out] at hc
  rw [I1.out] at hc
  try dsimp only at hc
  have HC := Lib.hid hc; clear hc
  go_wp2_with fail
  refine HC.out.mono ?_
  rintro e w_6 ⟨rfl, hb⟩
  clear HC
  have bel_7 := Lib.hid (Below.trans bel_3.out (Below.mono hb (bel_3.out.size)))
  clear bel_3
  have rd_8 := Lib.hid (RdB.below rd_4.out hb)
  clear rd_4
  have srd_9 := Lib.hid (Blk.keep srd_5.out hb)
  clear srd_5
  clear hb
  have z_10 : (w_6).cell? ⟨w.heap.size, 0, none⟩ = some (.int .i64 (p : Int)) := Blk.cell srd_9.out 0
  have z_11 : (w_6).cell? ⟨w.heap.size, 1, none⟩ = some (.slice A n k) := Blk.cell srd_9.out 1
  have hc := rgreat_any p b a A n k l _ rd_8.out hn4 hk hS hb ha
  rw [F2.out] at hc
  rw [I2.out] at hc
  try dsimp only at hc
  have HC := Lib.hid hc; clear hc
  go_wp2_with fail
  refine HC.out.mono ?_
  rintro e w_12 ⟨rfl, hb⟩
  clear HC
  clear z_10 z_11
  have bel_13 := Lib.hid (Below.trans bel_7.out (Below.mono hb (bel_7.out.size)))
  clear bel_7
  have rd_14 := Lib.hid (RdB.below rd_8.out hb)
  clear rd_8
  have srd_15 := Lib.hid (Blk.keep srd_9.out hb)
  clear srd_9
  clear hb
  have z_16 : (w_12).cell? ⟨w.heap.size, 0, none⟩ = some (.int .i64 (p : Int)) := Blk.cell srd_15.out 0
  have z_17 : (w_12).cell? ⟨w.heap.size, 1, none⟩ = some (.slice A n k) := Blk.cell srd_15.out 1
  go_wp2
  go_ret2
  exact ⟨rfl, bel_13.out⟩

def fixT (l : List Bnd) (p a b : Nat) : Value := if dist l p a b = -dist l p b a then .tuple #[.int .i64 (dist l p a b), .bool true] else .tuple #[.int .i64 0, .bool false]
theorem rfixed_any (p a b : Nat) (A : Option Addr) (n k : Nat) (l : List Bnd) (w : World) (hr : RdB w A n k l) (hn : n ≤ maxLen) (hn4 : n ≤ 402) (hp1 : 1 ≤ p) (hp : p ≤ 60) (ha : a < p) (hb : b < p) (hk : chk p l = 0) (hS : (settle l p zeros).isSome = true) :
    Calls Try.prog 83 #[.agg #[.int .i64 (p : Int), .slice A n k], .int .i64 (a : Int), .int .i64 (b : Int)] w fun e w' => e = .returned (fixT l p a b) ∧ Below w.heap.size w w' := by
  have he : OkP p l := by have := okP_of hk; rwa [Int.toNat_natCast] at this
  have hok := okB_of hk
  have b1 := dist_bd (p := p) (a := a) (b := b) hok hp (by omega) (by omega)
  have b2 := dist_bd (p := p) (a := b) (b := a) hok hp (by omega) (by omega)
  have f2 := fin_bd (p := p) (a := b) (b := a) hok hp (by omega) (by omega)
  unfold fixT
  by_cases h1 : dist l p a b = Inf
  · rw [if_neg (by rw [h1]; unfold Inf at *; omega)]
    exact rfixed_n1 p a b A n k l w hr hn hn4 hp1 hp ha hb _ (Lib.hid he) hk hS _ _ f2.1 f2.2 (Lib.hid rfl) (Lib.hid (by simp [isF, h1])) (Lib.hid rfl) (Lib.hid rfl)
  · by_cases h2 : dist l p b a = Inf
    · rw [if_neg (by rw [h2]; unfold Inf at *; omega)]
      exact rfixed_n2 p a b A n k l w hr hn hn4 hp1 hp ha hb (Lib.hid he) hk hS _ _ f2.1 f2.2 (Lib.hid rfl) (Lib.hid (by simp [isF, h1])) (Lib.hid rfl) (Lib.hid (by simp [isF, h2]))
    · have e1 : fin (dist l p a b) = dist l p a b := if_neg h1
      have e2 : fin (dist l p b a) = dist l p b a := if_neg h2
      rw [e2] at f2
      by_cases h3 : dist l p a b = -dist l p b a
      · rw [if_pos h3, h3]
        exact rfixed_y p a b A n k l w hr hn hn4 hp1 hp ha hb (Lib.hid he) hk hS _ f2.1 f2.2 (Lib.hid (e1.trans h3)) (Lib.hid (by simp [isF, h1])) (Lib.hid e2) (Lib.hid (by simp [isF, h2]))
      · rw [if_neg h3]
        exact rfixed_n3 p a b A n k l w hr hn hn4 hp1 hp ha hb (Lib.hid he) hk hS _ _ f2.1 f2.2 (Lib.hid e1) (Lib.hid (by simp [isF, h1])) (Lib.hid e2) (Lib.hid (by simp [isF, h2])) (beq_eq_false_iff_ne.2 h3) (decide_eq_false h3) h3

set_option maxRecDepth 100000 in
set_option maxHeartbeats 4000000 in
theorem rFixed_err (P a b : Int) (A : Option Addr) (n k : Nat) (l : List Bnd) (w : World) (hr : RdB w A n k l) (hn : n ≤ maxLen) (q : Int) (hq : (q != 0) = true) (E0 : Hid (tup (greatT P l a b) = .tuple #[.int .i64 0, .bool false, .int .i64 q])) :
    Calls Try.prog 37 #[.agg #[.int .i64 P, .slice A n k], .int .i64 (a : Int), .int .i64 (b : Int)] w fun e w' => e = .returned (.tuple #[.int .i64 0, .bool false, .int .i64 q]) ∧ Below w.heap.size w w' := by
  go_enter Try.func37, Try.ntmps37
  have bel_1 := Lib.hid (show Below w.heap.size w w from Below.refl _ w)
  have rd_2 := Lib.hid (hr)
  clear hr
  have bel_3 := Lib.hid (Below.alloc bel_1.out (bel_1.out.size) (.cells #[.int .i64 P, .slice A n k] 24))
  clear bel_1
  have rd_4 := Lib.hid (RdB.alloc rd_2.out (.cells #[.int .i64 P, .slice A n k] 24))
  clear rd_2
  have srd_5 := Lib.hid (Blk.new w 24 #[.int .i64 P, .slice A n k])
  have hc := rGreatest_any P a b A n k l _ rd_4.out hn
  rw [E0.out] at hc
  try dsimp only at hc
  have HC := Lib.hid hc; clear hc
  go_wp2_with fail
  refine HC.out.mono ?_
  rintro e w_6 ⟨rfl, hb⟩
  clear HC
  have bel_7 := Lib.hid (Below.trans bel_3.out (Below.mono hb (bel_3.out.size)))
  clear bel_3
  have rd_8 := Lib.hid (RdB.below rd_4.out hb)
  clear rd_4
  have srd_9 := Lib.hid (Blk.keep srd_5.out hb)
  clear srd_5
  clear hb
  have z_10 : (w_6).cell? ⟨w.heap.size, 0, none⟩ = some (.int .i64 P) := Blk.cell srd_9.out 0
  have z_11 : (w_6).cell? ⟨w.heap.size, 1, none⟩ = some (.slice A n k) := Blk.cell srd_9.out 1
  go_wp2
  go_ret3
  exact ⟨rfl, bel_7.out⟩

set_option maxRecDepth 100000 in
set_option maxHeartbeats 4000000 in
theorem rFixed_ok (p a b : Nat) (A : Option Addr) (n k : Nat) (l : List Bnd) (w : World) (hr : RdB w A n k l) (hn : n ≤ maxLen) (hn4 : n ≤ 402) (hp1 : 1 ≤ p) (hp : p ≤ 60) (ha : a < p) (hb : b < p) (hk : chk p l = 0) (hS : (settle l p zeros).isSome = true) (X Y : Int) (t u : Bool) (E0 : Hid (tup (greatT p l a b) = .tuple #[.int .i64 X, .bool t, .int .i64 0])) (F1 : Hid (fixT l p a b = .tuple #[.int .i64 Y, .bool u])) :
    Calls Try.prog 37 #[.agg #[.int .i64 (p : Int), .slice A n k], .int .i64 (a : Int), .int .i64 (b : Int)] w fun e w' => e = .returned (.tuple #[.int .i64 Y, .bool u, .int .i64 0]) ∧ Below w.heap.size w w' := by
  go_enter Try.func37, Try.ntmps37
  have bel_1 := Lib.hid (show Below w.heap.size w w from Below.refl _ w)
  have rd_2 := Lib.hid (hr)
  clear hr
  have bel_3 := Lib.hid (Below.alloc bel_1.out (bel_1.out.size) (.cells #[.int .i64 (p : Int), .slice A n k] 24))
  clear bel_1
  have rd_4 := Lib.hid (RdB.alloc rd_2.out (.cells #[.int .i64 (p : Int), .slice A n k] 24))
  clear rd_2
  have srd_5 := Lib.hid (Blk.new w 24 #[.int .i64 (p : Int), .slice A n k])
  have hc := rGreatest_any p a b A n k l _ rd_4.out hn
  rw [E0.out] at hc
  try dsimp only at hc
  have HC := Lib.hid hc; clear hc
  go_wp2_with fail
  refine HC.out.mono ?_
  rintro e w_6 ⟨rfl, hb⟩
  clear HC
  have bel_7 := Lib.hid (Below.trans bel_3.out (Below.mono hb (bel_3.out.size)))
  clear bel_3
  have rd_8 := Lib.hid (RdB.below rd_4.out hb)
  clear rd_4
  have srd_9 := Lib.hid (Blk.keep srd_5.out hb)
  clear srd_5
  clear hb
  have z_10 : (w_6).cell? ⟨w.heap.size, 0, none⟩ = some (.int .i64 (p : Int)) := Blk.cell srd_9.out 0
  have z_11 : (w_6).cell? ⟨w.heap.size, 1, none⟩ = some (.slice A n k) := Blk.cell srd_9.out 1
  have hc := rfixed_any p a b A n k l _ rd_8.out hn hn4 hp1 hp ha hb hk hS
  rw [F1.out] at hc
  try dsimp only at hc
  have HC := Lib.hid hc; clear hc
  go_wp2_with fail
  refine HC.out.mono ?_
  rintro e w_12 ⟨rfl, hb⟩
  clear HC
  clear z_10 z_11
  have bel_13 := Lib.hid (Below.trans bel_7.out (Below.mono hb (bel_7.out.size)))
  clear bel_7
  have rd_14 := Lib.hid (RdB.below rd_8.out hb)
  clear rd_8
  have srd_15 := Lib.hid (Blk.keep srd_9.out hb)
  clear srd_9
  clear hb
  have z_16 : (w_12).cell? ⟨w.heap.size, 0, none⟩ = some (.int .i64 (p : Int)) := Blk.cell srd_15.out 0
  have z_17 : (w_12).cell? ⟨w.heap.size, 1, none⟩ = some (.slice A n k) := Blk.cell srd_15.out 1
  go_wp2
  go_ret3
  exact ⟨rfl, bel_13.out⟩

theorem rFixed_any (P a b : Int) (A : Option Addr) (n k : Nat) (l : List Bnd) (w : World) (hr : RdB w A n k l) (hn : n ≤ maxLen) : Calls Try.prog 37 #[.agg #[.int .i64 P, .slice A n k], .int .i64 (a : Int), .int .i64 (b : Int)] w fun e w' => e = .returned (tup (fixedV P l a b)) ∧ Below w.heap.size w w' := by
  by_cases hs : scode P l [a, b] = 0
  · obtain ⟨hk, hpt, hS⟩ := scode_ok hs
    simp only [List.all_cons, List.all_nil, Bool.and_true, Bool.and_eq_true, isPt, decide_eq_true_eq] at hpt
    obtain ⟨hp1, hp2, hlen, -⟩ := chk_ok hk
    obtain ⟨p, rfl⟩ := Int.eq_ofNat_of_zero_le (show 0 ≤ P by omega)
    obtain ⟨a, rfl⟩ := Int.eq_ofNat_of_zero_le hpt.1.1
    obtain ⟨b, rfl⟩ := Int.eq_ofNat_of_zero_le hpt.2.1
    rw [Int.toNat_natCast] at hS
    have hn4 : n ≤ 402 := by have := hr.len; omega
    have E0 := Lib.hid (show tup (greatT p l (a : Int) (b : Int)) = .tuple #[.int .i64 (fin (dist l p a b)), .bool (isF (dist l p a b)), .int .i64 0] from by unfold tup greatT; simp only [if_pos hs, Int.toNat_natCast])
    unfold tup fixedV
    simp only [if_pos hs, Int.toNat_natCast]
    by_cases h : dist l p a b = -dist l p b a
    · simp only [if_pos h]
      exact rFixed_ok p a b A n k l w hr hn hn4 (by omega) (by omega) (by omega) (by omega) hk hS _ _ _ _ E0 (Lib.hid (by unfold fixT; rw [if_pos h]))
    · simp only [if_neg h]
      exact rFixed_ok p a b A n k l w hr hn hn4 (by omega) (by omega) (by omega) (by omega) hk hS _ _ _ _ E0 (Lib.hid (by unfold fixT; rw [if_neg h]))
  · unfold tup fixedV
    simp only [if_neg hs]
    exact rFixed_err P a b A n k l w hr hn _ (by simpa using hs) (Lib.hid (by unfold tup greatT; simp only [if_neg hs]))
end Go.Proofs.Ythlnialipjihdaa
