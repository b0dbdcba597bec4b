/- The reference's Attain. -/
import Derived.Test.YthlnialipjihdaaRTied
import Derived.Test.YthlnialipjihdaaREnds
set_option linter.unusedSimpArgs false
set_option linter.unusedVariables false
namespace Go.Proofs.Ythlnialipjihdaa
open Go.RowKit

theorem longer_tie0 (l : List Bnd) (a : Int) (x : List Int) : longer (l ++ tieB a a 0) x = longer l x := by
  unfold longer
  rw [List.foldl_append]
  have key : ∀ (y : List Int), (∀ v, at_ y v ≤ at_ x v) → relax x y ⟨a, a, 0, 0⟩ = y := fun y hy => by
    unfold relax
    dsimp only
    split
    · rfl
    · rw [look_eq, look_eq]
      have := hy a.toNat
      rw [show min (at_ y a.toNat) (at_ x a.toNat + 0) = at_ y a.toNat from by omega]
      apply List.ext_getElem?
      intro i
      rw [List.getElem?_set]
      split
      · rename_i h; subst h
        split
        · rename_i h2; rw [get_at' h2]
        · rename_i h2; rw [List.getElem?_eq_none (by omega)]
      · rfl
  have hf := fun v => fold_le x v l x
  unfold tieB
  rw [List.foldl_cons, List.foldl_cons, List.foldl_nil, show (-0 : Int) = 0 from rfl, key _ hf, key _ hf]
theorem settle_tie0 (l : List Bnd) (a : Int) : ∀ (n : Nat) (x : List Int), settle (l ++ tieB a a 0) n x = settle l n x
  | 0, _ => rfl
  | n + 1, x => by
    unfold settle
    rw [longer_tie0, settle_tie0 l a n]

theorem within_true (x lo hi : Int) (w : World) (h : lo ≤ x ∧ x ≤ hi) : Calls Try.prog 68 #[.int .i64 x, .int .i64 lo, .int .i64 hi] w fun e w' => e = .returned (.bool true) ∧ Below w.heap.size w w' :=
  (rwithin_any x lo hi w).mono (fun e w' h' => by obtain ⟨rfl, rfl⟩ := h'; exact ⟨by simp [h], Below.refl _ _⟩)
theorem within_false (x lo hi : Int) (w : World) (h : ¬ (lo ≤ x ∧ x ≤ hi)) : Calls Try.prog 68 #[.int .i64 x, .int .i64 lo, .int .i64 hi] w fun e w' => e = .returned (.bool false) ∧ Below w.heap.size w w' :=
  (rwithin_any x lo hi w).mono (fun e w' h' => by obtain ⟨rfl, rfl⟩ := h'; exact ⟨by simp; omega, Below.refl _ _⟩)

set_option maxRecDepth 100000 in
set_option maxHeartbeats 4000000 in
theorem rAttain_err (P a b N : Int) (A : Option Addr) (n k : Nat) (l : List Bnd) (w : World) (hr : RdB w A n k l) (hn : n ≤ maxLen) (q : Int) (hq : (q != 0) = true) (E0 : Hid (gcode P l [a, b] = q)) :
    Calls Try.prog 42 #[.agg #[.int .i64 P, .slice A n k], .int .i64 a, .int .i64 b, .int .i64 N] w (RetI ([], false, q) w) := by
  go_enter Try.func42, Try.ntmps42
  have bel_1 := Lib.hid (show Below w.heap.size w w from Below.refl _ w)
  have rd_2 := Lib.hid (hr)
  clear hr
  have bel_3 := Lib.hid (Below.alloc bel_1.out (bel_1.out.size) (.cells #[.int .i64 P, .slice A n k] 24))
  clear bel_1
  have rd_4 := Lib.hid (RdB.alloc rd_2.out (.cells #[.int .i64 P, .slice A n k] 24))
  clear rd_2
  have srd_5 := Lib.hid (Blk.new w 24 #[.int .i64 P, .slice A n k])
  have hc := asked_any P a b A n k l _ rd_4.out hn
  rw [E0.out] at hc
  try dsimp only at hc
  have HC := Lib.hid hc; clear hc
  go_wp2_with fail
  refine HC.out.mono ?_
  rintro e w_6 ⟨rfl, hb⟩
  clear HC
  have bel_7 := Lib.hid (Below.trans bel_3.out (Below.mono hb (bel_3.out.size)))
  clear bel_3
  have rd_8 := Lib.hid (RdB.below rd_4.out hb)
  clear rd_4
  have srd_9 := Lib.hid (Blk.keep srd_5.out hb)
  clear srd_5
  clear hb
  have z_10 : (w_6).cell? ⟨w.heap.size, 0, none⟩ = some (.int .i64 P) := Blk.cell srd_9.out 0
  have z_11 : (w_6).cell? ⟨w.heap.size, 1, none⟩ = some (.slice A n k) := Blk.cell srd_9.out 1
  go_wp2
  go_ret3
  exact ⟨none, 0, 0, rfl, OwnI.nil_ _ _, bel_7.out⟩

set_option maxRecDepth 100000 in
set_option maxHeartbeats 4000000 in
theorem rAttain_far (P a b N : Int) (A : Option Addr) (n k : Nat) (l : List Bnd) (w : World) (hr : RdB w A n k l) (hn : n ≤ maxLen) (hfar : ¬ (-100000000 ≤ N ∧ N ≤ 100000000)) (E0 : Hid (gcode P l [a, b] = 0)) :
    Calls Try.prog 42 #[.agg #[.int .i64 P, .slice A n k], .int .i64 a, .int .i64 b, .int .i64 N] w (RetI ([], false, 1) w) := by
  go_enter Try.func42, Try.ntmps42
  have bel_1 := Lib.hid (show Below w.heap.size w w from Below.refl _ w)
  have rd_2 := Lib.hid (hr)
  clear hr
  have bel_3 := Lib.hid (Below.alloc bel_1.out (bel_1.out.size) (.cells #[.int .i64 P, .slice A n k] 24))
  clear bel_1
  have rd_4 := Lib.hid (RdB.alloc rd_2.out (.cells #[.int .i64 P, .slice A n k] 24))
  clear rd_2
  have srd_5 := Lib.hid (Blk.new w 24 #[.int .i64 P, .slice A n k])
  have hc := asked_any P a b A n k l _ rd_4.out hn
  rw [E0.out] at hc
  try dsimp only at hc
  have HC := Lib.hid hc; clear hc
  go_wp2_with fail
  refine HC.out.mono ?_
  rintro e w_6 ⟨rfl, hb⟩
  clear HC
  have bel_7 := Lib.hid (Below.trans bel_3.out (Below.mono hb (bel_3.out.size)))
  clear bel_3
  have rd_8 := Lib.hid (RdB.below rd_4.out hb)
  clear rd_4
  have srd_9 := Lib.hid (Blk.keep srd_5.out hb)
  clear srd_5
  clear hb
  have z_10 : (w_6).cell? ⟨w.heap.size, 0, none⟩ = some (.int .i64 P) := Blk.cell srd_9.out 0
  have z_11 : (w_6).cell? ⟨w.heap.size, 1, none⟩ = some (.slice A n k) := Blk.cell srd_9.out 1
  have hc := (show Calls Try.prog 68 #[.int .i64 N, .int .i64 (-100000000), .int .i64 100000000] (w_6) fun e w' => e = .returned (.bool false) ∧ Below (w_6).heap.size (w_6) w' from within_false N _ _ (w_6) hfar)
  have HC := Lib.hid hc; clear hc
  go_wp2_with fail
  refine HC.out.mono ?_
  rintro e w_13 ⟨rfl, hb⟩
  clear HC
  clear z_10 z_11
  have bel_14 := Lib.hid (Below.trans bel_7.out (Below.mono hb (bel_7.out.size)))
  clear bel_7
  have rd_15 := Lib.hid (RdB.below rd_8.out hb)
  clear rd_8
  have srd_16 := Lib.hid (Blk.keep srd_9.out hb)
  clear srd_9
  clear hb
  have z_17 : (w_13).cell? ⟨w.heap.size, 0, none⟩ = some (.int .i64 P) := Blk.cell srd_16.out 0
  have z_18 : (w_13).cell? ⟨w.heap.size, 1, none⟩ = some (.slice A n k) := Blk.cell srd_16.out 1
  go_wp2
  go_ret3
  exact ⟨none, 0, 0, rfl, OwnI.nil_ _ _, bel_14.out⟩

set_option maxRecDepth 100000 in
set_option maxHeartbeats 4000000 in
theorem rAttain_circ (p a b : Nat) (N : Int) (A : Option Addr) (n k : Nat) (l : List Bnd) (w : World) (hr : RdB w A n k l) (hn : n ≤ maxLen) (hn4 : n ≤ 400) (hp1 : 1 ≤ p) (hp : p ≤ 60) (ha : a < p) (hb : b < p) (HE : Hid (OkP p l)) (hN1 : -100000000 ≤ N) (hN2 : N ≤ 100000000) (hS : (settle l p zeros).isSome = false) (E0 : Hid (gcode p l [(a : Int), (b : Int)] = 0)) :
    Calls Try.prog 42 #[.agg #[.int .i64 (p : Int), .slice A n k], .int .i64 (a : Int), .int .i64 (b : Int), .int .i64 N] w (RetI ([], false, 10) w) := by
  go_enter Try.func42, Try.ntmps42
  have bel_1 := Lib.hid (show Below w.heap.size w w from Below.refl _ w)
  have rd_2 := Lib.hid (hr)
  clear hr
  have bel_3 := Lib.hid (Below.alloc bel_1.out (bel_1.out.size) (.cells #[.int .i64 (p : Int), .slice A n k] 24))
  clear bel_1
  have rd_4 := Lib.hid (RdB.alloc rd_2.out (.cells #[.int .i64 (p : Int), .slice A n k] 24))
  clear rd_2
  have srd_5 := Lib.hid (Blk.new w 24 #[.int .i64 (p : Int), .slice A n k])
  have hc := asked_any p a b A n k l _ rd_4.out hn
  rw [E0.out] at hc
  try dsimp only at hc
  have HC := Lib.hid hc; clear hc
  go_wp2_with fail
  refine HC.out.mono ?_
  rintro e w_6 ⟨rfl, hb⟩
  clear HC
  have bel_7 := Lib.hid (Below.trans bel_3.out (Below.mono hb (bel_3.out.size)))
  clear bel_3
  have rd_8 := Lib.hid (RdB.below rd_4.out hb)
  clear rd_4
  have srd_9 := Lib.hid (Blk.keep srd_5.out hb)
  clear srd_5
  clear hb
  have z_10 : (w_6).cell? ⟨w.heap.size, 0, none⟩ = some (.int .i64 (p : Int)) := Blk.cell srd_9.out 0
  have z_11 : (w_6).cell? ⟨w.heap.size, 1, none⟩ = some (.slice A n k) := Blk.cell srd_9.out 1
  have hc := (show Calls Try.prog 68 #[.int .i64 N, .int .i64 (-100000000), .int .i64 100000000] (w_6) fun e w' => e = .returned (.bool true) ∧ Below (w_6).heap.size (w_6) w' from within_true N _ _ (w_6) ⟨hN1, hN2⟩)
  have HC := Lib.hid hc; clear hc
  go_wp2_with fail
  refine HC.out.mono ?_
  rintro e w_13 ⟨rfl, hb⟩
  clear HC
  clear z_10 z_11
  have bel_14 := Lib.hid (Below.trans bel_7.out (Below.mono hb (bel_7.out.size)))
  clear bel_7
  have rd_15 := Lib.hid (RdB.below rd_8.out hb)
  clear rd_8
  have srd_16 := Lib.hid (Blk.keep srd_9.out hb)
  clear srd_9
  clear hb
  have z_17 : (w_13).cell? ⟨w.heap.size, 0, none⟩ = some (.int .i64 (p : Int)) := Blk.cell srd_16.out 0
  have z_18 : (w_13).cell? ⟨w.heap.size, 1, none⟩ = some (.slice A n k) := Blk.cell srd_16.out 1
  have hc := rSolved_no p A n k l _ rd_15.out hn (by omega) hp1 hp HE hS
  have HC := Lib.hid hc; clear hc
  go_wp2_with fail
  refine HC.out.mono ?_
  rintro e w_19 ⟨rfl, hb⟩
  clear HC
  clear z_17 z_18
  have bel_20 := Lib.hid (Below.trans bel_14.out (Below.mono hb (bel_14.out.size)))
  clear bel_14
  have rd_21 := Lib.hid (RdB.below rd_15.out hb)
  clear rd_15
  have srd_22 := Lib.hid (Blk.keep srd_16.out hb)
  clear srd_16
  clear hb
  have z_23 : (w_19).cell? ⟨w.heap.size, 0, none⟩ = some (.int .i64 (p : Int)) := Blk.cell srd_22.out 0
  have z_24 : (w_19).cell? ⟨w.heap.size, 1, none⟩ = some (.slice A n k) := Blk.cell srd_22.out 1
  go_wp2
  go_ret3
  exact ⟨none, 0, 0, rfl, OwnI.nil_ _ _, bel_20.out⟩

set_option maxRecDepth 100000 in
set_option maxHeartbeats 4000000 in
theorem rAttain_self (p a : Nat) (N : Int) (A : Option Addr) (n k : Nat) (l : List Bnd) (w : World) (hr : RdB w A n k l) (hn : n ≤ maxLen) (hn4 : n ≤ 400) (hp1 : 1 ≤ p) (hp : p ≤ 60) (ha : a < p) (HE : Hid (OkP p l)) (hN1 : -100000000 ≤ N) (hN2 : N ≤ 100000000) (hS : (settle l p zeros).isSome = true) (hN0 : (N == 0) = false) (hN3 : ¬ N = 0) (E0 : Hid (gcode p l [(a : Int), (a : Int)] = 0)) :
    Calls Try.prog 42 #[.agg #[.int .i64 (p : Int), .slice A n k], .int .i64 (a : Int), .int .i64 (a : Int), .int .i64 N] w (RetI ([], false, 0) w) := by
  go_enter Try.func42, Try.ntmps42
  have bel_1 := Lib.hid (show Below w.heap.size w w from Below.refl _ w)
  have rd_2 := Lib.hid (hr)
  clear hr
  have bel_3 := Lib.hid (Below.alloc bel_1.out (bel_1.out.size) (.cells #[.int .i64 (p : Int), .slice A n k] 24))
  clear bel_1
  have rd_4 := Lib.hid (RdB.alloc rd_2.out (.cells #[.int .i64 (p : Int), .slice A n k] 24))
  clear rd_2
  have srd_5 := Lib.hid (Blk.new w 24 #[.int .i64 (p : Int), .slice A n k])
  have hc := asked_any p a a A n k l _ rd_4.out hn
  rw [E0.out] at hc
  try dsimp only at hc
  have HC := Lib.hid hc; clear hc
  go_wp2_with fail
  refine HC.out.mono ?_
  rintro e w_6 ⟨rfl, hb⟩
  clear HC
  have bel_7 := Lib.hid (Below.trans bel_3.out (Below.mono hb (bel_3.out.size)))
  clear bel_3
  have rd_8 := Lib.hid (RdB.below rd_4.out hb)
  clear rd_4
  have srd_9 := Lib.hid (Blk.keep srd_5.out hb)
  clear srd_5
  clear hb
  have z_10 : (w_6).cell? ⟨w.heap.size, 0, none⟩ = some (.int .i64 (p : Int)) := Blk.cell srd_9.out 0
  have z_11 : (w_6).cell? ⟨w.heap.size, 1, none⟩ = some (.slice A n k) := Blk.cell srd_9.out 1
  have hc := (show Calls Try.prog 68 #[.int .i64 N, .int .i64 (-100000000), .int .i64 100000000] (w_6) fun e w' => e = .returned (.bool true) ∧ Below (w_6).heap.size (w_6) w' from within_true N _ _ (w_6) ⟨hN1, hN2⟩)
  have HC := Lib.hid hc; clear hc
  go_wp2_with fail
  refine HC.out.mono ?_
  rintro e w_13 ⟨rfl, hb⟩
  clear HC
  clear z_10 z_11
  have bel_14 := Lib.hid (Below.trans bel_7.out (Below.mono hb (bel_7.out.size)))
  clear bel_7
  have rd_15 := Lib.hid (RdB.below rd_8.out hb)
  clear rd_8
  have srd_16 := Lib.hid (Blk.keep srd_9.out hb)
  clear srd_9
  clear hb
  have z_17 : (w_13).cell? ⟨w.heap.size, 0, none⟩ = some (.int .i64 (p : Int)) := Blk.cell srd_16.out 0
  have z_18 : (w_13).cell? ⟨w.heap.size, 1, none⟩ = some (.slice A n k) := Blk.cell srd_16.out 1
  have hc := rSolved_yes p A n k l _ rd_15.out hn (by omega) hp1 hp HE hS
  have HC := Lib.hid hc; clear hc
  go_wp2_with fail
  refine HC.out.mono ?_
  rintro e w_19 ⟨rfl, hb⟩
  clear HC
  clear z_17 z_18
  have bel_20 := Lib.hid (Below.trans bel_14.out (Below.mono hb (bel_14.out.size)))
  clear bel_14
  have rd_21 := Lib.hid (RdB.below rd_15.out hb)
  clear rd_15
  have srd_22 := Lib.hid (Blk.keep srd_16.out hb)
  clear srd_16
  clear hb
  have z_23 : (w_19).cell? ⟨w.heap.size, 0, none⟩ = some (.int .i64 (p : Int)) := Blk.cell srd_22.out 0
  have z_24 : (w_19).cell? ⟨w.heap.size, 1, none⟩ = some (.slice A n k) := Blk.cell srd_22.out 1
  have HLE := Lib.hid (Below.size bel_20.out)
  have bel_25 := Lib.hid (Below.alloc bel_20.out (bel_20.out.size) (.cells #[.int .i64 (p : Int), .slice A n k] 24))
  clear bel_20
  have rd_26 := Lib.hid (RdB.alloc rd_21.out (.cells #[.int .i64 (p : Int), .slice A n k] 24))
  clear rd_21
  have srd_27 := Lib.hid (Blk.alloc srd_22.out (.cells #[.int .i64 (p : Int), .slice A n k] 24))
  clear srd_22
  have t_28 := Lib.hid (Blk.new w_19 24 #[.int .i64 (p : Int), .slice A n k])
  have z_29 : ((w_19.alloc (.cells #[.int .i64 (p : Int), .slice A n k] 24))).cell? ⟨w.heap.size, 0, none⟩ = some (.int .i64 (p : Int)) := Blk.cell srd_27.out 0
  have z_30 : ((w_19.alloc (.cells #[.int .i64 (p : Int), .slice A n k] 24))).cell? ⟨w.heap.size, 1, none⟩ = some (.slice A n k) := Blk.cell srd_27.out 1
  have z_31 : ((w_19.alloc (.cells #[.int .i64 (p : Int), .slice A n k] 24))).cell? ⟨w_19.heap.size, 0, none⟩ = some (.int .i64 (p : Int)) := Blk.cell t_28.out 0
  have z_32 : ((w_19.alloc (.cells #[.int .i64 (p : Int), .slice A n k] 24))).cell? ⟨w_19.heap.size, 1, none⟩ = some (.slice A n k) := Blk.cell t_28.out 1
  go_wp2
  go_ret3
  exact ⟨none, 0, 0, rfl, OwnI.nil_ _ _, bel_25.out⟩

set_option maxRecDepth 100000 in
set_option maxHeartbeats 4000000 in
theorem rAttain_same (p a : Nat) (A : Option Addr) (n k : Nat) (l : List Bnd) (w : World) (hr : RdB w A n k l) (hn : n ≤ maxLen) (hn4 : n ≤ 400) (hp1 : 1 ≤ p) (hp : p ≤ 60) (ha : a < p) (HE : Hid (OkP p l)) (hN1 : -100000000 ≤ (0 : Int)) (hN2 : (0 : Int) ≤ 100000000) (hS : (settle l p zeros).isSome = true) (E0 : Hid (gcode p l [(a : Int), (a : Int)] = 0)) :
    Calls Try.prog 42 #[.agg #[.int .i64 (p : Int), .slice A n k], .int .i64 (a : Int), .int .i64 (a : Int), .int .i64 0] w (RetI (solL l p, true, 0) w) := by
  go_enter Try.func42, Try.ntmps42
  have bel_1 := Lib.hid (show Below w.heap.size w w from Below.refl _ w)
  have rd_2 := Lib.hid (hr)
  clear hr
  have bel_3 := Lib.hid (Below.alloc bel_1.out (bel_1.out.size) (.cells #[.int .i64 (p : Int), .slice A n k] 24))
  clear bel_1
  have rd_4 := Lib.hid (RdB.alloc rd_2.out (.cells #[.int .i64 (p : Int), .slice A n k] 24))
  clear rd_2
  have srd_5 := Lib.hid (Blk.new w 24 #[.int .i64 (p : Int), .slice A n k])
  have hc := asked_any p a a A n k l _ rd_4.out hn
  rw [E0.out] at hc
  try dsimp only at hc
  have HC := Lib.hid hc; clear hc
  go_wp2_with fail
  refine HC.out.mono ?_
  rintro e w_6 ⟨rfl, hb⟩
  clear HC
  have bel_7 := Lib.hid (Below.trans bel_3.out (Below.mono hb (bel_3.out.size)))
  clear bel_3
  have rd_8 := Lib.hid (RdB.below rd_4.out hb)
  clear rd_4
  have srd_9 := Lib.hid (Blk.keep srd_5.out hb)
  clear srd_5
  clear hb
  have z_10 : (w_6).cell? ⟨w.heap.size, 0, none⟩ = some (.int .i64 (p : Int)) := Blk.cell srd_9.out 0
  have z_11 : (w_6).cell? ⟨w.heap.size, 1, none⟩ = some (.slice A n k) := Blk.cell srd_9.out 1
  have hc := (show Calls Try.prog 68 #[.int .i64 0, .int .i64 (-100000000), .int .i64 100000000] (w_6) fun e w' => e = .returned (.bool true) ∧ Below (w_6).heap.size (w_6) w' from within_true 0 _ _ (w_6) ⟨hN1, hN2⟩)
  have HC := Lib.hid hc; clear hc
  go_wp2_with fail
  refine HC.out.mono ?_
  rintro e w_13 ⟨rfl, hb⟩
  clear HC
  clear z_10 z_11
  have bel_14 := Lib.hid (Below.trans bel_7.out (Below.mono hb (bel_7.out.size)))
  clear bel_7
  have rd_15 := Lib.hid (RdB.below rd_8.out hb)
  clear rd_8
  have srd_16 := Lib.hid (Blk.keep srd_9.out hb)
  clear srd_9
  clear hb
  have z_17 : (w_13).cell? ⟨w.heap.size, 0, none⟩ = some (.int .i64 (p : Int)) := Blk.cell srd_16.out 0
  have z_18 : (w_13).cell? ⟨w.heap.size, 1, none⟩ = some (.slice A n k) := Blk.cell srd_16.out 1
  have hc := rSolved_yes p A n k l _ rd_15.out hn (by omega) hp1 hp HE hS
  have HC := Lib.hid hc; clear hc
  go_wp2_with fail
  refine HC.out.mono ?_
  rintro e w_19 ⟨rfl, hb⟩
  clear HC
  clear z_17 z_18
  have bel_20 := Lib.hid (Below.trans bel_14.out (Below.mono hb (bel_14.out.size)))
  clear bel_14
  have rd_21 := Lib.hid (RdB.below rd_15.out hb)
  clear rd_15
  have srd_22 := Lib.hid (Blk.keep srd_16.out hb)
  clear srd_16
  clear hb
  have z_23 : (w_19).cell? ⟨w.heap.size, 0, none⟩ = some (.int .i64 (p : Int)) := Blk.cell srd_22.out 0
  have z_24 : (w_19).cell? ⟨w.heap.size, 1, none⟩ = some (.slice A n k) := Blk.cell srd_22.out 1
  have HLE := Lib.hid (Below.size bel_20.out)
  have bel_25 := Lib.hid (Below.alloc bel_20.out (bel_20.out.size) (.cells #[.int .i64 (p : Int), .slice A n k] 24))
  clear bel_20
  have rd_26 := Lib.hid (RdB.alloc rd_21.out (.cells #[.int .i64 (p : Int), .slice A n k] 24))
  clear rd_21
  have srd_27 := Lib.hid (Blk.alloc srd_22.out (.cells #[.int .i64 (p : Int), .slice A n k] 24))
  clear srd_22
  have t_28 := Lib.hid (Blk.new w_19 24 #[.int .i64 (p : Int), .slice A n k])
  have z_29 : ((w_19.alloc (.cells #[.int .i64 (p : Int), .slice A n k] 24))).cell? ⟨w.heap.size, 0, none⟩ = some (.int .i64 (p : Int)) := Blk.cell srd_27.out 0
  have z_30 : ((w_19.alloc (.cells #[.int .i64 (p : Int), .slice A n k] 24))).cell? ⟨w.heap.size, 1, none⟩ = some (.slice A n k) := Blk.cell srd_27.out 1
  have z_31 : ((w_19.alloc (.cells #[.int .i64 (p : Int), .slice A n k] 24))).cell? ⟨w_19.heap.size, 0, none⟩ = some (.int .i64 (p : Int)) := Blk.cell t_28.out 0
  have z_32 : ((w_19.alloc (.cells #[.int .i64 (p : Int), .slice A n k] 24))).cell? ⟨w_19.heap.size, 1, none⟩ = some (.slice A n k) := Blk.cell t_28.out 1
  go_wp2_with fail
  have hc := rsolve_any p A n k l _ rd_26.out (by omega) hp1 hp HE.out
  unfold RetB at hc
  rw [hS] at hc
  have HC := Lib.hid hc; clear hc
  refine HC.out.mono ?_
  rintro e w9 ⟨A2, n2, c2, rfl, ho, hb⟩
  clear HC
  have HO := Lib.hid (owns_base ho (bel_25.out.size))
  clear z_29 z_30 z_31 z_32
  have bel_33 := Lib.hid (Below.trans bel_25.out (Below.mono hb (bel_25.out.size)))
  clear bel_25
  have rd_34 := Lib.hid (RdB.below rd_26.out hb)
  clear rd_26
  have srd_35 := Lib.hid (Blk.keep srd_27.out hb)
  clear srd_27
  have t_36 := Lib.hid (Blk.keep t_28.out hb)
  clear t_28
  clear ho hb
  go_wp2
  go_ret3
  exact ⟨A2, n2, c2, rfl, HO.out, bel_33.out⟩

set_option maxRecDepth 100000 in
set_option maxHeartbeats 4000000 in
theorem rAttain_tie (p a b : Nat) (N : Int) (A : Option Addr) (n k : Nat) (l : List Bnd) (w : World) (hr : RdB w A n k l) (hn : n ≤ maxLen) (hn4 : n ≤ 400) (hp1 : 1 ≤ p) (hp : p ≤ 60) (ha : a < p) (hb : b < p) (HE : Hid (OkP p l)) (hN1 : -100000000 ≤ N) (hN2 : N ≤ 100000000) (hab : a ≠ b) (hab1 : ((a : Int) == (b : Int)) = false) (hab2 : ¬ (a : Int) = b) (hS : (settle l p zeros).isSome = true) (E0 : Hid (gcode p l [(a : Int), (b : Int)] = 0)) :
    Calls Try.prog 42 #[.agg #[.int .i64 (p : Int), .slice A n k], .int .i64 (a : Int), .int .i64 (b : Int), .int .i64 N] w (RetI (solL (l ++ tieB a b N) p, (settle (l ++ tieB a b N) p zeros).isSome, 0) w) := by
  go_enter Try.func42, Try.ntmps42
  have bel_1 := Lib.hid (show Below w.heap.size w w from Below.refl _ w)
  have rd_2 := Lib.hid (hr)
  clear hr
  have bel_3 := Lib.hid (Below.alloc bel_1.out (bel_1.out.size) (.cells #[.int .i64 (p : Int), .slice A n k] 24))
  clear bel_1
  have rd_4 := Lib.hid (RdB.alloc rd_2.out (.cells #[.int .i64 (p : Int), .slice A n k] 24))
  clear rd_2
  have srd_5 := Lib.hid (Blk.new w 24 #[.int .i64 (p : Int), .slice A n k])
  have hc := asked_any p a b A n k l _ rd_4.out hn
  rw [E0.out] at hc
  try dsimp only at hc
  have HC := Lib.hid hc; clear hc
  go_wp2_with fail
  refine HC.out.mono ?_
  rintro e w_6 ⟨rfl, hb⟩
  clear HC
  have bel_7 := Lib.hid (Below.trans bel_3.out (Below.mono hb (bel_3.out.size)))
  clear bel_3
  have rd_8 := Lib.hid (RdB.below rd_4.out hb)
  clear rd_4
  have srd_9 := Lib.hid (Blk.keep srd_5.out hb)
  clear srd_5
  clear hb
  have z_10 : (w_6).cell? ⟨w.heap.size, 0, none⟩ = some (.int .i64 (p : Int)) := Blk.cell srd_9.out 0
  have z_11 : (w_6).cell? ⟨w.heap.size, 1, none⟩ = some (.slice A n k) := Blk.cell srd_9.out 1
  have hc := (show Calls Try.prog 68 #[.int .i64 N, .int .i64 (-100000000), .int .i64 100000000] (w_6) fun e w' => e = .returned (.bool true) ∧ Below (w_6).heap.size (w_6) w' from within_true N _ _ (w_6) ⟨hN1, hN2⟩)
  have HC := Lib.hid hc; clear hc
  go_wp2_with fail
  refine HC.out.mono ?_
  rintro e w_13 ⟨rfl, hb⟩
  clear HC
  clear z_10 z_11
  have bel_14 := Lib.hid (Below.trans bel_7.out (Below.mono hb (bel_7.out.size)))
  clear bel_7
  have rd_15 := Lib.hid (RdB.below rd_8.out hb)
  clear rd_8
  have srd_16 := Lib.hid (Blk.keep srd_9.out hb)
  clear srd_9
  clear hb
  have z_17 : (w_13).cell? ⟨w.heap.size, 0, none⟩ = some (.int .i64 (p : Int)) := Blk.cell srd_16.out 0
  have z_18 : (w_13).cell? ⟨w.heap.size, 1, none⟩ = some (.slice A n k) := Blk.cell srd_16.out 1
  have hc := rSolved_yes p A n k l _ rd_15.out hn (by omega) hp1 hp HE hS
  have HC := Lib.hid hc; clear hc
  go_wp2_with fail
  refine HC.out.mono ?_
  rintro e w_19 ⟨rfl, hb⟩
  clear HC
  clear z_17 z_18
  have bel_20 := Lib.hid (Below.trans bel_14.out (Below.mono hb (bel_14.out.size)))
  clear bel_14
  have rd_21 := Lib.hid (RdB.below rd_15.out hb)
  clear rd_15
  have srd_22 := Lib.hid (Blk.keep srd_16.out hb)
  clear srd_16
  clear hb
  have z_23 : (w_19).cell? ⟨w.heap.size, 0, none⟩ = some (.int .i64 (p : Int)) := Blk.cell srd_22.out 0
  have z_24 : (w_19).cell? ⟨w.heap.size, 1, none⟩ = some (.slice A n k) := Blk.cell srd_22.out 1
  have HLE := Lib.hid (Below.size bel_20.out)
  have bel_25 := Lib.hid (Below.alloc bel_20.out (bel_20.out.size) (.cells #[.int .i64 (p : Int), .slice A n k] 24))
  clear bel_20
  have rd_26 := Lib.hid (RdB.alloc rd_21.out (.cells #[.int .i64 (p : Int), .slice A n k] 24))
  clear rd_21
  have srd_27 := Lib.hid (Blk.alloc srd_22.out (.cells #[.int .i64 (p : Int), .slice A n k] 24))
  clear srd_22
  have t_28 := Lib.hid (Blk.new w_19 24 #[.int .i64 (p : Int), .slice A n k])
  have z_29 : ((w_19.alloc (.cells #[.int .i64 (p : Int), .slice A n k] 24))).cell? ⟨w.heap.size, 0, none⟩ = some (.int .i64 (p : Int)) := Blk.cell srd_27.out 0
  have z_30 : ((w_19.alloc (.cells #[.int .i64 (p : Int), .slice A n k] 24))).cell? ⟨w.heap.size, 1, none⟩ = some (.slice A n k) := Blk.cell srd_27.out 1
  have z_31 : ((w_19.alloc (.cells #[.int .i64 (p : Int), .slice A n k] 24))).cell? ⟨w_19.heap.size, 0, none⟩ = some (.int .i64 (p : Int)) := Blk.cell t_28.out 0
  have z_32 : ((w_19.alloc (.cells #[.int .i64 (p : Int), .slice A n k] 24))).cell? ⟨w_19.heap.size, 1, none⟩ = some (.slice A n k) := Blk.cell t_28.out 1
  go_wp2_with fail
  refine (rtied_any p a b N A n k l _ rd_26.out (by omega) ⟨hN1, hN2⟩).mono ?_
  rintro e w8 ⟨B5, c5, rfl, ho, hb⟩
  have HO := Lib.hid ho; clear ho
  clear z_29 z_30 z_31 z_32
  have bel_33 := Lib.hid (Below.trans bel_25.out (Below.mono hb (bel_25.out.size)))
  clear bel_25
  have rd_34 := Lib.hid (RdB.below rd_26.out hb)
  clear rd_26
  have srd_35 := Lib.hid (Blk.keep srd_27.out hb)
  clear srd_27
  have t_36 := Lib.hid (Blk.keep t_28.out hb)
  clear t_28
  clear hb
  have hgt := Blk.lt t_36.out
  have hsz : w_19.heap.size + 1 ≤ w_19.heap.size + 1 := Nat.le_refl _
  have v0 : w8.cell? ⟨w_19.heap.size, 0, none⟩ = some (.int .i64 (p : Int)) := Blk.cell t_36.out 0
  have v1 : w8.cell? ⟨w_19.heap.size, 1, none⟩ = some (.slice A n k) := Blk.cell t_36.out 1
  have f0 : w8.frozen? ⟨w_19.heap.size, 0, none⟩ = false := Blk.frozen t_36.out 0
  have f1 : w8.frozen? ⟨w_19.heap.size, 1, none⟩ = false := Blk.frozen t_36.out 1
  have HO2 := Lib.hid (ownsRow_setCell_below (ownsRow_setCell_below HO.out (a := ⟨w_19.heap.size, 0, none⟩) (by simp) (.int .i64 (p : Int))) (a := ⟨w_19.heap.size, 1, none⟩) (by simp) (.slice B5 (n + 2) c5))
  have hrd2 := (OwnB.rd HO2.out).1
  have hbel2 : Below w.heap.size w ((w8.setCell ⟨w_19.heap.size, 0, none⟩ (.int .i64 (p : Int))).setCell ⟨w_19.heap.size, 1, none⟩ (.slice B5 (n + 2) c5)) := (bel_33.out.setCell (p := ⟨w_19.heap.size, 0, none⟩) HLE.out _).setCell (p := ⟨w_19.heap.size, 1, none⟩) HLE.out _
  have hc := rsolve_any p B5 (n + 2) c5 (l ++ tieB a b N) _ hrd2 (by omega) hp1 hp (okP_tie HE.out ha hb hab ⟨hN1, hN2⟩)
  unfold RetB at hc
  have HC := Lib.hid hc; clear hc
  have HB2 := Lib.hid hbel2; clear hbel2 hrd2
  go_wp2_with fail
  refine HC.out.mono ?_
  rintro e w9 ⟨A2, n2, c2, rfl, ho, hb⟩
  clear HC
  have HO3 := Lib.hid (owns_base ho HB2.out.size)
  have HB3 := Lib.hid (HB2.out.trans (hb.mono HB2.out.size)); clear ho hb
  go_wp2
  go_ret3
  exact ⟨A2, n2, c2, rfl, HO3.out, HB3.out⟩
theorem solL_none {l : List Bnd} {p : Nat} (h : settle l p zeros = none) : solL l p = [] := by unfold solL; rw [h]; rfl
theorem rAttain_any (P a b N : Int) (A : Option Addr) (n k : Nat) (l : List Bnd) (w : World) (hr : RdB w A n k l) (hn : n ≤ maxLen) : Calls Try.prog 42 #[.agg #[.int .i64 P, .slice A n k], .int .i64 a, .int .i64 b, .int .i64 N] w (RetI (attainV P l a b N) w) := by
  by_cases hg : gcode P l [a, b] = 0
  · obtain ⟨hk, ⟨a0, a1⟩, b0, b1⟩ := gcode_pts hg
    obtain ⟨hp1, hp2, hlen, -⟩ := chk_ok hk
    have he := okP_of hk
    have hn4 : n ≤ 400 := by have := hr.len; omega
    by_cases hN : -100000000 ≤ N ∧ N ≤ 100000000
    · obtain ⟨p, rfl⟩ := Int.eq_ofNat_of_zero_le (show 0 ≤ P by omega)
      obtain ⟨a, rfl⟩ := Int.eq_ofNat_of_zero_le a0
      obtain ⟨b, rfl⟩ := Int.eq_ofNat_of_zero_le b0
      rw [Int.toNat_natCast] at he
      have hv : attainV p l a b N = if (settle l p zeros).isSome = false then ([], false, 10) else (solL (l ++ tieB a b N) p, (settle (l ++ tieB a b N) p zeros).isSome, 0) := by
        unfold attainV solL
        rw [if_neg (by simpa using hg), if_neg (by simpa using hN), Int.toNat_natCast]
        cases settle (l ++ tieB a b N) p zeros <;> rfl
      rw [hv]
      cases hS : (settle l p zeros).isSome
      · rw [if_pos rfl]
        exact rAttain_circ p a b N A n k l w hr hn hn4 (by omega) (by omega) (by omega) (by omega) (Lib.hid he) hN.1 hN.2 hS (Lib.hid hg)
      · rw [if_neg (by simp)]
        have hs' : (settle l (p : Int).toNat zeros).isSome = true := by rw [Int.toNat_natCast]; exact hS
        by_cases hab : a = b
        · subst hab
          by_cases hN0 : N = 0
          · subst hN0
            have e : settle (l ++ tieB a a 0) p zeros = settle l p zeros := settle_tie0 l a p zeros
            unfold solL
            rw [e, hS]
            exact rAttain_same p a A n k l w hr hn hn4 (by omega) (by omega) (by omega) (Lib.hid he) hN.1 hN.2 hS (Lib.hid hg)
          · have hno : settle (l ++ tieB a a N) p zeros = none := by
              cases hx : settle (l ++ tieB a a N) p zeros with
              | none => rfl
              | some x =>
                have h1 := attain_only (p := (p : Int)) (a := a) (b := a) hk hs' (by rw [Int.toNat_natCast]; omega) (by rw [Int.toNat_natCast]; omega) hN (by rw [Int.toNat_natCast, hx]; rfl)
                rw [dist_self hk hs' (by omega)] at h1
                omega
            rw [solL_none hno, hno]
            exact rAttain_self p a N A n k l w hr hn hn4 (by omega) (by omega) (by omega) (Lib.hid he) hN.1 hN.2 hS (beq_eq_false_iff_ne.2 hN0) hN0 (Lib.hid hg)
        · exact rAttain_tie p a b N A n k l w hr hn hn4 (by omega) (by omega) (by omega) (by omega) (Lib.hid he) hN.1 hN.2 hab (beq_eq_false_iff_ne.2 (by omega)) (by omega) hS (Lib.hid hg)
    · have hv : attainV P l a b N = ([], false, 1) := by
        unfold attainV
        rw [if_neg (by simpa using hg), if_pos hN]
      rw [hv]
      exact rAttain_far P a b N A n k l w hr hn hN (Lib.hid hg)
  · have hv : attainV P l a b N = ([], false, gcode P l [a, b]) := by unfold attainV; rw [if_pos hg]
    rw [hv]
    exact rAttain_err P a b N A n k l w hr hn _ (by simpa using hg) (Lib.hid rfl)
end Go.Proofs.Ythlnialipjihdaa
