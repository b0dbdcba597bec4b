/- GaugeTriangles: greatest and least differences, and those by way of a third point. -/
import Derived.Test.YthlnialipjihdaaOpen
set_option linter.unusedSimpArgs false
set_option linter.unusedVariables false
namespace Go.Proofs.Ythlnialipjihdaa
open Go.RowKit

/-- A sum by way of a third point is a sum. -/
theorem dist_tri {p : Int} {l : List Bnd} {a b c : Nat} (hk : chk p l = 0) (hs : (settle l p.toNat zeros).isSome = true) (ha : a < 60) (hb : b < 60) (hc : c < 60) (h1 : dist l p.toNat a b ≠ Inf) (h2 : dist l p.toNat b c ≠ Inf) :
    dist l p.toNat a c ≠ Inf ∧ dist l p.toNat a c ≤ dist l p.toNat a b + dist l p.toNat b c := by
  obtain ⟨hp1, hp2, -, -⟩ := chk_ok hk
  have hok := okB_of hk
  have hg := edges_of hk
  obtain ⟨za, -⟩ := from_settled hk hs ha
  obtain ⟨zb, -⟩ := from_settled hk hs hb
  have b1 := dist_bd (p := p.toNat) hok (by omega) ha hb
  have b2 := dist_bd (p := p.toNat) hok (by omega) hb hc
  have b3 := fun v hv => dist_bd (p := p.toNat) (b := v) hok (by omega) ha hv
  obtain ⟨st, -, hlen, -⟩ := stable_settle hg (by rw [startL_length]; omega) za
  rw [startL_length] at hlen
  have ea : setL l p.toNat (startL a) = rounds l (p.toNat - 1) (startL a) := by unfold setL; rw [za]; rfl
  have eb : setL l p.toNat (startL b) = rounds l (p.toNat - 1) (startL b) := by unfold setL; rw [zb]; rfl
  unfold dist at h1 h2 b1 b2 b3 ⊢
  rw [ea] at h1 b1 b3 ⊢
  rw [eb] at h2 b2 ⊢
  obtain ⟨Z, hZ⟩ : ∃ Z, rounds l (p.toNat - 1) (startL a) = Z := ⟨_, rfl⟩
  rw [hZ] at h1 b1 b3 st hlen ⊢
  obtain ⟨D, hD⟩ : ∃ D, at_ Z b = D := ⟨_, rfl⟩
  rw [hD] at h1 b1 ⊢
  have hY : ∀ v, v < 60 → at_ (Z.map fun x => if x = Inf then Inf else x - D) v = if at_ Z v = Inf then Inf else at_ Z v - D := fun v hv => by
    simp [at_, List.getD_eq_getElem?_getD, show v < Z.length by omega]
  have hY2 : ∀ v, 60 ≤ v → at_ (Z.map fun x => if x = Inf then Inf else x - D) v = 0 := fun v hv => at_out (by simp; omega)
  have key := rounds_ge (l := l) (x := startL b) (y := Z.map fun x => if x = Inf then Inf else x - D) (fun e he hI => by
      obtain ⟨f0, f1, t0, t1, m0, m1⟩ := hok e he
      rw [look_eq, hY _ (by omega)] at hI
      have hI2 : at_ Z e.f.toNat ≠ Inf := fun h => hI (by rw [if_pos h])
      have hs1 := st e he (by rw [look_eq]; exact hI2)
      rw [look_eq, look_eq] at hs1
      rw [look_eq, look_eq, hY _ (by omega), hY _ (by omega), if_neg hI2]
      have q1 := b3 e.f.toNat (by omega)
      unfold Inf at hI2 q1 h1 b1 ⊢
      split
      · omega
      · omega) (fun v => by
      by_cases hv : v < 60
      · rw [hY v hv, at_startL hb v hv]
        have q1 := b3 v hv
        by_cases hvb : v = b
        · subst hvb
          rw [hD, if_neg h1, if_pos rfl]; omega
        · rw [if_neg (show ¬ b = v from fun q => hvb q.symm)]
          split
          · exact Int.le_refl _
          · rename_i q; unfold Inf at q1 h1 b1 q ⊢; omega
      · rw [hY2 v (by omega), at_out (by rw [startL_length]; omega)]; exact Int.le_refl _) (startL_le hb) (p.toNat - 1) c
  rw [hY c hc] at key
  have q1 := b3 c hc
  have hne : at_ Z c ≠ Inf := fun q => by rw [if_pos q] at key; unfold Inf at key h2 b2; omega
  rw [if_neg hne] at key
  exact ⟨hne, by omega⟩


theorem code_pts {p : Int} {l : List Bnd} {ps : List Int} (h1 : chk p l = 0) (h2 : ps.all (isPt p) = true) (h3 : (settle l p.toNat zeros).isSome = true) : scode p l ps = 0 := by
  have hg : gcode p l ps = 0 := by unfold gcode; simp [h1, h2]
  unfold scode
  rw [if_pos hg, if_pos h3]

set_option maxRecDepth 100000 in
set_option maxHeartbeats 4000000 in
theorem tri_wide (P a b c : Int) (A : Option Addr) (n k : Nat) (l : List Bnd) (w : World) (hr : RdB w A n k l) (hn : n ≤ maxLen) (hw : ¬ n ≤ 403) :
    Calls Try.prog 13 #[.agg #[.int .i64 P, .slice A n k], .int .i64 a, .int .i64 b, .int .i64 c] w fun e w' => e = .returned (.bool true) ∧ Below w.heap.size w w' := by
  have hB : Below w.heap.size w (w.alloc (.cells #[.int .i64 P, .slice A n k] 24)) := (Below.refl _ w).alloc (Nat.le_refl _) _
  go_enter Try.func13, Try.ntmps13
  go_wp2_with fail
  refine (wide_any P A n k _).mono ?_
  rintro e w1 ⟨rfl, hb1⟩
  have hB1 := hB.trans (hb1.mono hB.size)
  rw [show decide (n ≤ 403) = false from by simpa using hw]
  go_wp2_with fail
  refine (alive_ok _).mono ?_
  rintro e w2 ⟨rfl, hb2⟩
  have hB2 := hB1.trans (hb2.mono hB1.size)
  go_wp2
  go_ret
  exact ⟨rfl, hB2⟩

set_option maxRecDepth 100000 in
set_option maxHeartbeats 4000000 in
theorem tri_e (P a b c : Int) (A : Option Addr) (n k : Nat) (l : List Bnd) (w : World) (hr : RdB w A n k l) (hn : n ≤ maxLen) (hw : n ≤ 403) (E1 : Hid (∀ x t q, endV P l a b true = .tuple #[.int .i64 x, .bool t, .int .i64 q] → (q != 0) = true)) :
    Calls Try.prog 13 #[.agg #[.int .i64 P, .slice A n k], .int .i64 a, .int .i64 b, .int .i64 c] w fun e w' => e = .returned (.bool true) ∧ Below w.heap.size w w' := by
  go_enter Try.func13, Try.ntmps13
  go_wp2_with fail
  have rd_1 := Lib.hid (hr)
  have bel_2 := Lib.hid (show Below w.heap.size w w from Below.refl _ w)
  clear hr
  have rd_3 := Lib.hid (RdB.alloc rd_1.out (.cells #[.int .i64 P, .slice A n k] 24))
  clear rd_1
  have bel_4 := Lib.hid (Below.alloc bel_2.out (bel_2.out.size) (.cells #[.int .i64 P, .slice A n k] 24))
  clear bel_2
  have s_5 := Lib.hid (Blk.new w 24 #[.int .i64 P, .slice A n k])
  refine (wide_any P A n k _).mono ?_
  rintro e w1 ⟨rfl, hb⟩
  have rd_6 := Lib.hid (RdB.below rd_3.out hb)
  clear rd_3
  have bel_7 := Lib.hid (Below.trans bel_4.out (Below.mono hb (bel_4.out.size)))
  clear bel_4
  have s_8 := Lib.hid (Blk.keep s_5.out hb)
  clear s_5
  clear hb
  rw [show decide (n ≤ 403) = true from by simpa using hw]
  have z_9 : (w1).cell? ⟨w.heap.size, 0, none⟩ = some (.int .i64 P) := Blk.cell s_8.out 0
  have z_10 : (w1).cell? ⟨w.heap.size, 1, none⟩ = some (.slice A n k) := Blk.cell s_8.out 1
  go_wp2_with fail
  refine (Greatest_any P a b A n k l _ rd_6.out hn).mono ?_
  rintro e w2 ⟨x_, t_, q_, rfl, hv_, hb⟩
  clear z_9 z_10
  have rd_11 := Lib.hid (RdB.below rd_6.out hb)
  clear rd_6
  have bel_12 := Lib.hid (Below.trans bel_7.out (Below.mono hb (bel_7.out.size)))
  clear bel_7
  have s_13 := Lib.hid (Blk.keep s_8.out hb)
  clear s_8
  clear hb
  have hq_ := E1.out _ _ _ hv_; clear hv_
  have z_14 : (w2).cell? ⟨w.heap.size, 0, none⟩ = some (.int .i64 P) := Blk.cell s_13.out 0
  have z_15 : (w2).cell? ⟨w.heap.size, 1, none⟩ = some (.slice A n k) := Blk.cell s_13.out 1
  go_wp2_with fail
  refine (Greatest_any P b c A n k l _ rd_11.out hn).mono ?_
  rintro e w3 ⟨x_, t_, q_, rfl, hv_, hb⟩
  clear z_14 z_15
  have rd_16 := Lib.hid (RdB.below rd_11.out hb)
  clear rd_11
  have bel_17 := Lib.hid (Below.trans bel_12.out (Below.mono hb (bel_12.out.size)))
  clear bel_12
  have s_18 := Lib.hid (Blk.keep s_13.out hb)
  clear s_13
  clear hb
  clear hv_
  have z_19 : (w3).cell? ⟨w.heap.size, 0, none⟩ = some (.int .i64 P) := Blk.cell s_18.out 0
  have z_20 : (w3).cell? ⟨w.heap.size, 1, none⟩ = some (.slice A n k) := Blk.cell s_18.out 1
  go_wp2_with fail
  refine (Greatest_any P a c A n k l _ rd_16.out hn).mono ?_
  rintro e w4 ⟨x_, t_, q_, rfl, hv_, hb⟩
  clear z_19 z_20
  have rd_21 := Lib.hid (RdB.below rd_16.out hb)
  clear rd_16
  have bel_22 := Lib.hid (Below.trans bel_17.out (Below.mono hb (bel_17.out.size)))
  clear bel_17
  have s_23 := Lib.hid (Blk.keep s_18.out hb)
  clear s_18
  clear hb
  clear hv_
  have z_24 : (w4).cell? ⟨w.heap.size, 0, none⟩ = some (.int .i64 P) := Blk.cell s_23.out 0
  have z_25 : (w4).cell? ⟨w.heap.size, 1, none⟩ = some (.slice A n k) := Blk.cell s_23.out 1
  go_wp2_with fail
  refine (Least_any P b a A n k l _ rd_21.out hn).mono ?_
  rintro e w5 ⟨x_, t_, q_, rfl, hv_, hb⟩
  clear z_24 z_25
  have rd_26 := Lib.hid (RdB.below rd_21.out hb)
  clear rd_21
  have bel_27 := Lib.hid (Below.trans bel_22.out (Below.mono hb (bel_22.out.size)))
  clear bel_22
  have s_28 := Lib.hid (Blk.keep s_23.out hb)
  clear s_23
  clear hb
  clear hv_
  have z_29 : (w5).cell? ⟨w.heap.size, 0, none⟩ = some (.int .i64 P) := Blk.cell s_28.out 0
  have z_30 : (w5).cell? ⟨w.heap.size, 1, none⟩ = some (.slice A n k) := Blk.cell s_28.out 1
  go_wp2_with fail
  refine (alive_ok _).mono ?_
  rintro e w6 ⟨rfl, hb⟩
  clear z_29 z_30
  have rd_31 := Lib.hid (RdB.below rd_26.out hb)
  clear rd_26
  have bel_32 := Lib.hid (Below.trans bel_27.out (Below.mono hb (bel_27.out.size)))
  clear bel_27
  have s_33 := Lib.hid (Blk.keep s_28.out hb)
  clear s_28
  clear hb
  go_wp2
  go_ret
  exact ⟨rfl, bel_32.out⟩

set_option maxRecDepth 100000 in
set_option maxHeartbeats 4000000 in
theorem tri_f (P a b c : Int) (A : Option Addr) (n k : Nat) (l : List Bnd) (w : World) (hr : RdB w A n k l) (hn : n ≤ maxLen) (hw : n ≤ 403) (E1 : Hid (∀ x t q, endV P l a b true = .tuple #[.int .i64 x, .bool t, .int .i64 q] → q = 0)) (E2 : Hid (∀ x t q, endV P l b c true = .tuple #[.int .i64 x, .bool t, .int .i64 q] → (q != 0) = true)) :
    Calls Try.prog 13 #[.agg #[.int .i64 P, .slice A n k], .int .i64 a, .int .i64 b, .int .i64 c] w fun e w' => e = .returned (.bool true) ∧ Below w.heap.size w w' := by
  go_enter Try.func13, Try.ntmps13
  go_wp2_with fail
  have rd_1 := Lib.hid (hr)
  have bel_2 := Lib.hid (show Below w.heap.size w w from Below.refl _ w)
  clear hr
  have rd_3 := Lib.hid (RdB.alloc rd_1.out (.cells #[.int .i64 P, .slice A n k] 24))
  clear rd_1
  have bel_4 := Lib.hid (Below.alloc bel_2.out (bel_2.out.size) (.cells #[.int .i64 P, .slice A n k] 24))
  clear bel_2
  have s_5 := Lib.hid (Blk.new w 24 #[.int .i64 P, .slice A n k])
  refine (wide_any P A n k _).mono ?_
  rintro e w1 ⟨rfl, hb⟩
  have rd_6 := Lib.hid (RdB.below rd_3.out hb)
  clear rd_3
  have bel_7 := Lib.hid (Below.trans bel_4.out (Below.mono hb (bel_4.out.size)))
  clear bel_4
  have s_8 := Lib.hid (Blk.keep s_5.out hb)
  clear s_5
  clear hb
  rw [show decide (n ≤ 403) = true from by simpa using hw]
  have z_9 : (w1).cell? ⟨w.heap.size, 0, none⟩ = some (.int .i64 P) := Blk.cell s_8.out 0
  have z_10 : (w1).cell? ⟨w.heap.size, 1, none⟩ = some (.slice A n k) := Blk.cell s_8.out 1
  go_wp2_with fail
  refine (Greatest_any P a b A n k l _ rd_6.out hn).mono ?_
  rintro e w2 ⟨x_, t_, q_, rfl, hv_, hb⟩
  clear z_9 z_10
  have rd_11 := Lib.hid (RdB.below rd_6.out hb)
  clear rd_6
  have bel_12 := Lib.hid (Below.trans bel_7.out (Below.mono hb (bel_7.out.size)))
  clear bel_7
  have s_13 := Lib.hid (Blk.keep s_8.out hb)
  clear s_8
  clear hb
  obtain rfl := E1.out _ _ _ hv_; clear hv_
  have z_14 : (w2).cell? ⟨w.heap.size, 0, none⟩ = some (.int .i64 P) := Blk.cell s_13.out 0
  have z_15 : (w2).cell? ⟨w.heap.size, 1, none⟩ = some (.slice A n k) := Blk.cell s_13.out 1
  go_wp2_with fail
  refine (Greatest_any P b c A n k l _ rd_11.out hn).mono ?_
  rintro e w3 ⟨x_, t_, q_, rfl, hv_, hb⟩
  clear z_14 z_15
  have rd_16 := Lib.hid (RdB.below rd_11.out hb)
  clear rd_11
  have bel_17 := Lib.hid (Below.trans bel_12.out (Below.mono hb (bel_12.out.size)))
  clear bel_12
  have s_18 := Lib.hid (Blk.keep s_13.out hb)
  clear s_13
  clear hb
  have hq_ := E2.out _ _ _ hv_; clear hv_
  have z_19 : (w3).cell? ⟨w.heap.size, 0, none⟩ = some (.int .i64 P) := Blk.cell s_18.out 0
  have z_20 : (w3).cell? ⟨w.heap.size, 1, none⟩ = some (.slice A n k) := Blk.cell s_18.out 1
  go_wp2_with fail
  refine (Greatest_any P a c A n k l _ rd_16.out hn).mono ?_
  rintro e w4 ⟨x_, t_, q_, rfl, hv_, hb⟩
  clear z_19 z_20
  have rd_21 := Lib.hid (RdB.below rd_16.out hb)
  clear rd_16
  have bel_22 := Lib.hid (Below.trans bel_17.out (Below.mono hb (bel_17.out.size)))
  clear bel_17
  have s_23 := Lib.hid (Blk.keep s_18.out hb)
  clear s_18
  clear hb
  clear hv_
  have z_24 : (w4).cell? ⟨w.heap.size, 0, none⟩ = some (.int .i64 P) := Blk.cell s_23.out 0
  have z_25 : (w4).cell? ⟨w.heap.size, 1, none⟩ = some (.slice A n k) := Blk.cell s_23.out 1
  go_wp2_with fail
  refine (Least_any P b a A n k l _ rd_21.out hn).mono ?_
  rintro e w5 ⟨x_, t_, q_, rfl, hv_, hb⟩
  clear z_24 z_25
  have rd_26 := Lib.hid (RdB.below rd_21.out hb)
  clear rd_21
  have bel_27 := Lib.hid (Below.trans bel_22.out (Below.mono hb (bel_22.out.size)))
  clear bel_22
  have s_28 := Lib.hid (Blk.keep s_23.out hb)
  clear s_23
  clear hb
  clear hv_
  have z_29 : (w5).cell? ⟨w.heap.size, 0, none⟩ = some (.int .i64 P) := Blk.cell s_28.out 0
  have z_30 : (w5).cell? ⟨w.heap.size, 1, none⟩ = some (.slice A n k) := Blk.cell s_28.out 1
  go_wp2_with fail
  refine (alive_ok _).mono ?_
  rintro e w6 ⟨rfl, hb⟩
  clear z_29 z_30
  have rd_31 := Lib.hid (RdB.below rd_26.out hb)
  clear rd_26
  have bel_32 := Lib.hid (Below.trans bel_27.out (Below.mono hb (bel_27.out.size)))
  clear bel_27
  have s_33 := Lib.hid (Blk.keep s_28.out hb)
  clear s_28
  clear hb
  go_wp2
  go_ret
  exact ⟨rfl, bel_32.out⟩

set_option maxRecDepth 100000 in
set_option maxHeartbeats 4000000 in
theorem tri_g (P a b c : Int) (A : Option Addr) (n k : Nat) (l : List Bnd) (w : World) (hr : RdB w A n k l) (hn : n ≤ maxLen) (hw : n ≤ 403) (E1 : Hid (∀ x t q, endV P l a b true = .tuple #[.int .i64 x, .bool t, .int .i64 q] → q = 0)) (E2 : Hid (∀ x t q, endV P l b c true = .tuple #[.int .i64 x, .bool t, .int .i64 q] → q = 0)) (E3 : Hid (∀ x t q, endV P l a c true = .tuple #[.int .i64 x, .bool t, .int .i64 q] → (q != 0) = true)) :
    Calls Try.prog 13 #[.agg #[.int .i64 P, .slice A n k], .int .i64 a, .int .i64 b, .int .i64 c] w fun e w' => e = .returned (.bool true) ∧ Below w.heap.size w w' := by
  go_enter Try.func13, Try.ntmps13
  go_wp2_with fail
  have rd_1 := Lib.hid (hr)
  have bel_2 := Lib.hid (show Below w.heap.size w w from Below.refl _ w)
  clear hr
  have rd_3 := Lib.hid (RdB.alloc rd_1.out (.cells #[.int .i64 P, .slice A n k] 24))
  clear rd_1
  have bel_4 := Lib.hid (Below.alloc bel_2.out (bel_2.out.size) (.cells #[.int .i64 P, .slice A n k] 24))
  clear bel_2
  have s_5 := Lib.hid (Blk.new w 24 #[.int .i64 P, .slice A n k])
  refine (wide_any P A n k _).mono ?_
  rintro e w1 ⟨rfl, hb⟩
  have rd_6 := Lib.hid (RdB.below rd_3.out hb)
  clear rd_3
  have bel_7 := Lib.hid (Below.trans bel_4.out (Below.mono hb (bel_4.out.size)))
  clear bel_4
  have s_8 := Lib.hid (Blk.keep s_5.out hb)
  clear s_5
  clear hb
  rw [show decide (n ≤ 403) = true from by simpa using hw]
  have z_9 : (w1).cell? ⟨w.heap.size, 0, none⟩ = some (.int .i64 P) := Blk.cell s_8.out 0
  have z_10 : (w1).cell? ⟨w.heap.size, 1, none⟩ = some (.slice A n k) := Blk.cell s_8.out 1
  go_wp2_with fail
  refine (Greatest_any P a b A n k l _ rd_6.out hn).mono ?_
  rintro e w2 ⟨x_, t_, q_, rfl, hv_, hb⟩
  clear z_9 z_10
  have rd_11 := Lib.hid (RdB.below rd_6.out hb)
  clear rd_6
  have bel_12 := Lib.hid (Below.trans bel_7.out (Below.mono hb (bel_7.out.size)))
  clear bel_7
  have s_13 := Lib.hid (Blk.keep s_8.out hb)
  clear s_8
  clear hb
  obtain rfl := E1.out _ _ _ hv_; clear hv_
  have z_14 : (w2).cell? ⟨w.heap.size, 0, none⟩ = some (.int .i64 P) := Blk.cell s_13.out 0
  have z_15 : (w2).cell? ⟨w.heap.size, 1, none⟩ = some (.slice A n k) := Blk.cell s_13.out 1
  go_wp2_with fail
  refine (Greatest_any P b c A n k l _ rd_11.out hn).mono ?_
  rintro e w3 ⟨x_, t_, q_, rfl, hv_, hb⟩
  clear z_14 z_15
  have rd_16 := Lib.hid (RdB.below rd_11.out hb)
  clear rd_11
  have bel_17 := Lib.hid (Below.trans bel_12.out (Below.mono hb (bel_12.out.size)))
  clear bel_12
  have s_18 := Lib.hid (Blk.keep s_13.out hb)
  clear s_13
  clear hb
  obtain rfl := E2.out _ _ _ hv_; clear hv_
  have z_19 : (w3).cell? ⟨w.heap.size, 0, none⟩ = some (.int .i64 P) := Blk.cell s_18.out 0
  have z_20 : (w3).cell? ⟨w.heap.size, 1, none⟩ = some (.slice A n k) := Blk.cell s_18.out 1
  go_wp2_with fail
  refine (Greatest_any P a c A n k l _ rd_16.out hn).mono ?_
  rintro e w4 ⟨x_, t_, q_, rfl, hv_, hb⟩
  clear z_19 z_20
  have rd_21 := Lib.hid (RdB.below rd_16.out hb)
  clear rd_16
  have bel_22 := Lib.hid (Below.trans bel_17.out (Below.mono hb (bel_17.out.size)))
  clear bel_17
  have s_23 := Lib.hid (Blk.keep s_18.out hb)
  clear s_18
  clear hb
  have hq_ := E3.out _ _ _ hv_; clear hv_
  have z_24 : (w4).cell? ⟨w.heap.size, 0, none⟩ = some (.int .i64 P) := Blk.cell s_23.out 0
  have z_25 : (w4).cell? ⟨w.heap.size, 1, none⟩ = some (.slice A n k) := Blk.cell s_23.out 1
  go_wp2_with fail
  refine (Least_any P b a A n k l _ rd_21.out hn).mono ?_
  rintro e w5 ⟨x_, t_, q_, rfl, hv_, hb⟩
  clear z_24 z_25
  have rd_26 := Lib.hid (RdB.below rd_21.out hb)
  clear rd_21
  have bel_27 := Lib.hid (Below.trans bel_22.out (Below.mono hb (bel_22.out.size)))
  clear bel_22
  have s_28 := Lib.hid (Blk.keep s_23.out hb)
  clear s_23
  clear hb
  clear hv_
  have z_29 : (w5).cell? ⟨w.heap.size, 0, none⟩ = some (.int .i64 P) := Blk.cell s_28.out 0
  have z_30 : (w5).cell? ⟨w.heap.size, 1, none⟩ = some (.slice A n k) := Blk.cell s_28.out 1
  go_wp2_with fail
  refine (alive_ok _).mono ?_
  rintro e w6 ⟨rfl, hb⟩
  clear z_29 z_30
  have rd_31 := Lib.hid (RdB.below rd_26.out hb)
  clear rd_26
  have bel_32 := Lib.hid (Below.trans bel_27.out (Below.mono hb (bel_27.out.size)))
  clear bel_27
  have s_33 := Lib.hid (Blk.keep s_28.out hb)
  clear s_28
  clear hb
  go_wp2
  go_ret
  exact ⟨rfl, bel_32.out⟩

set_option maxRecDepth 100000 in
set_option maxHeartbeats 4000000 in
theorem tri_n1 (P a b c : Int) (A : Option Addr) (n k : Nat) (l : List Bnd) (w : World) (hr : RdB w A n k l) (hn : n ≤ maxLen) (hw : n ≤ 403) (X1 X2 X3 : Int) (t2 t3 : Bool) (E1 : Hid (∀ x t q, endV P l a b true = .tuple #[.int .i64 x, .bool t, .int .i64 q] → x = X1 ∧ t = false ∧ q = 0)) (E2 : Hid (∀ x t q, endV P l b c true = .tuple #[.int .i64 x, .bool t, .int .i64 q] → x = X2 ∧ t = t2 ∧ q = 0)) (E3 : Hid (∀ x t q, endV P l a c true = .tuple #[.int .i64 x, .bool t, .int .i64 q] → x = X3 ∧ t = t3 ∧ q = 0)) (E4 : Hid (∀ x t q, endV P l b a false = .tuple #[.int .i64 x, .bool t, .int .i64 q] → x = -X1 ∧ t = false ∧ q = 0)) (y1 : -6000000000 ≤ X1) (y2 : X1 ≤ 6000000000) (y3 : -6000000000 ≤ X2) (y4 : X2 ≤ 6000000000)  :
    Calls Try.prog 13 #[.agg #[.int .i64 P, .slice A n k], .int .i64 a, .int .i64 b, .int .i64 c] w fun e w' => e = .returned (.bool true) ∧ Below w.heap.size w w' := by
  go_enter Try.func13, Try.ntmps13
  go_wp2_with fail
  have rd_1 := Lib.hid (hr)
  have bel_2 := Lib.hid (show Below w.heap.size w w from Below.refl _ w)
  clear hr
  have rd_3 := Lib.hid (RdB.alloc rd_1.out (.cells #[.int .i64 P, .slice A n k] 24))
  clear rd_1
  have bel_4 := Lib.hid (Below.alloc bel_2.out (bel_2.out.size) (.cells #[.int .i64 P, .slice A n k] 24))
  clear bel_2
  have s_5 := Lib.hid (Blk.new w 24 #[.int .i64 P, .slice A n k])
  refine (wide_any P A n k _).mono ?_
  rintro e w1 ⟨rfl, hb⟩
  have rd_6 := Lib.hid (RdB.below rd_3.out hb)
  clear rd_3
  have bel_7 := Lib.hid (Below.trans bel_4.out (Below.mono hb (bel_4.out.size)))
  clear bel_4
  have s_8 := Lib.hid (Blk.keep s_5.out hb)
  clear s_5
  clear hb
  rw [show decide (n ≤ 403) = true from by simpa using hw]
  have z_9 : (w1).cell? ⟨w.heap.size, 0, none⟩ = some (.int .i64 P) := Blk.cell s_8.out 0
  have z_10 : (w1).cell? ⟨w.heap.size, 1, none⟩ = some (.slice A n k) := Blk.cell s_8.out 1
  go_wp2_with fail
  refine (Greatest_any P a b A n k l _ rd_6.out hn).mono ?_
  rintro e w2 ⟨x_, t_, q_, rfl, hv_, hb⟩
  clear z_9 z_10
  have rd_11 := Lib.hid (RdB.below rd_6.out hb)
  clear rd_6
  have bel_12 := Lib.hid (Below.trans bel_7.out (Below.mono hb (bel_7.out.size)))
  clear bel_7
  have s_13 := Lib.hid (Blk.keep s_8.out hb)
  clear s_8
  clear hb
  obtain ⟨rfl, rfl, rfl⟩ := E1.out _ _ _ hv_; clear hv_
  have z_14 : (w2).cell? ⟨w.heap.size, 0, none⟩ = some (.int .i64 P) := Blk.cell s_13.out 0
  have z_15 : (w2).cell? ⟨w.heap.size, 1, none⟩ = some (.slice A n k) := Blk.cell s_13.out 1
  go_wp2_with fail
  refine (Greatest_any P b c A n k l _ rd_11.out hn).mono ?_
  rintro e w3 ⟨x_, t_, q_, rfl, hv_, hb⟩
  clear z_14 z_15
  have rd_16 := Lib.hid (RdB.below rd_11.out hb)
  clear rd_11
  have bel_17 := Lib.hid (Below.trans bel_12.out (Below.mono hb (bel_12.out.size)))
  clear bel_12
  have s_18 := Lib.hid (Blk.keep s_13.out hb)
  clear s_13
  clear hb
  obtain ⟨rfl, rfl, rfl⟩ := E2.out _ _ _ hv_; clear hv_
  have z_19 : (w3).cell? ⟨w.heap.size, 0, none⟩ = some (.int .i64 P) := Blk.cell s_18.out 0
  have z_20 : (w3).cell? ⟨w.heap.size, 1, none⟩ = some (.slice A n k) := Blk.cell s_18.out 1
  go_wp2_with fail
  refine (Greatest_any P a c A n k l _ rd_16.out hn).mono ?_
  rintro e w4 ⟨x_, t_, q_, rfl, hv_, hb⟩
  clear z_19 z_20
  have rd_21 := Lib.hid (RdB.below rd_16.out hb)
  clear rd_16
  have bel_22 := Lib.hid (Below.trans bel_17.out (Below.mono hb (bel_17.out.size)))
  clear bel_17
  have s_23 := Lib.hid (Blk.keep s_18.out hb)
  clear s_18
  clear hb
  obtain ⟨rfl, rfl, rfl⟩ := E3.out _ _ _ hv_; clear hv_
  have z_24 : (w4).cell? ⟨w.heap.size, 0, none⟩ = some (.int .i64 P) := Blk.cell s_23.out 0
  have z_25 : (w4).cell? ⟨w.heap.size, 1, none⟩ = some (.slice A n k) := Blk.cell s_23.out 1
  go_wp2_with fail
  refine (Least_any P b a A n k l _ rd_21.out hn).mono ?_
  rintro e w5 ⟨x_, t_, q_, rfl, hv_, hb⟩
  clear z_24 z_25
  have rd_26 := Lib.hid (RdB.below rd_21.out hb)
  clear rd_21
  have bel_27 := Lib.hid (Below.trans bel_22.out (Below.mono hb (bel_22.out.size)))
  clear bel_22
  have s_28 := Lib.hid (Blk.keep s_23.out hb)
  clear s_23
  clear hb
  obtain ⟨rfl, rfl, rfl⟩ := E4.out _ _ _ hv_; clear hv_
  have z_29 : (w5).cell? ⟨w.heap.size, 0, none⟩ = some (.int .i64 P) := Blk.cell s_28.out 0
  have z_30 : (w5).cell? ⟨w.heap.size, 1, none⟩ = some (.slice A n k) := Blk.cell s_28.out 1
  go_wp2_with fail
  refine (alive_ok _).mono ?_
  rintro e w6 ⟨rfl, hb⟩
  clear z_29 z_30
  have rd_31 := Lib.hid (RdB.below rd_26.out hb)
  clear rd_26
  have bel_32 := Lib.hid (Below.trans bel_27.out (Below.mono hb (bel_27.out.size)))
  clear bel_27
  have s_33 := Lib.hid (Blk.keep s_28.out hb)
  clear s_28
  clear hb
  go_wp2
  go_ret
  exact ⟨rfl, bel_32.out⟩

set_option maxRecDepth 100000 in
set_option maxHeartbeats 4000000 in
theorem tri_n2 (P a b c : Int) (A : Option Addr) (n k : Nat) (l : List Bnd) (w : World) (hr : RdB w A n k l) (hn : n ≤ maxLen) (hw : n ≤ 403) (X1 X2 X3 : Int) (t3 : Bool) (E1 : Hid (∀ x t q, endV P l a b true = .tuple #[.int .i64 x, .bool t, .int .i64 q] → x = X1 ∧ t = true ∧ q = 0)) (E2 : Hid (∀ x t q, endV P l b c true = .tuple #[.int .i64 x, .bool t, .int .i64 q] → x = X2 ∧ t = false ∧ q = 0)) (E3 : Hid (∀ x t q, endV P l a c true = .tuple #[.int .i64 x, .bool t, .int .i64 q] → x = X3 ∧ t = t3 ∧ q = 0)) (E4 : Hid (∀ x t q, endV P l b a false = .tuple #[.int .i64 x, .bool t, .int .i64 q] → x = -X1 ∧ t = true ∧ q = 0)) (y1 : -6000000000 ≤ X1) (y2 : X1 ≤ 6000000000) (y3 : -6000000000 ≤ X2) (y4 : X2 ≤ 6000000000)  :
    Calls Try.prog 13 #[.agg #[.int .i64 P, .slice A n k], .int .i64 a, .int .i64 b, .int .i64 c] w fun e w' => e = .returned (.bool true) ∧ Below w.heap.size w w' := by
  go_enter Try.func13, Try.ntmps13
  go_wp2_with fail
  have rd_1 := Lib.hid (hr)
  have bel_2 := Lib.hid (show Below w.heap.size w w from Below.refl _ w)
  clear hr
  have rd_3 := Lib.hid (RdB.alloc rd_1.out (.cells #[.int .i64 P, .slice A n k] 24))
  clear rd_1
  have bel_4 := Lib.hid (Below.alloc bel_2.out (bel_2.out.size) (.cells #[.int .i64 P, .slice A n k] 24))
  clear bel_2
  have s_5 := Lib.hid (Blk.new w 24 #[.int .i64 P, .slice A n k])
  refine (wide_any P A n k _).mono ?_
  rintro e w1 ⟨rfl, hb⟩
  have rd_6 := Lib.hid (RdB.below rd_3.out hb)
  clear rd_3
  have bel_7 := Lib.hid (Below.trans bel_4.out (Below.mono hb (bel_4.out.size)))
  clear bel_4
  have s_8 := Lib.hid (Blk.keep s_5.out hb)
  clear s_5
  clear hb
  rw [show decide (n ≤ 403) = true from by simpa using hw]
  have z_9 : (w1).cell? ⟨w.heap.size, 0, none⟩ = some (.int .i64 P) := Blk.cell s_8.out 0
  have z_10 : (w1).cell? ⟨w.heap.size, 1, none⟩ = some (.slice A n k) := Blk.cell s_8.out 1
  go_wp2_with fail
  refine (Greatest_any P a b A n k l _ rd_6.out hn).mono ?_
  rintro e w2 ⟨x_, t_, q_, rfl, hv_, hb⟩
  clear z_9 z_10
  have rd_11 := Lib.hid (RdB.below rd_6.out hb)
  clear rd_6
  have bel_12 := Lib.hid (Below.trans bel_7.out (Below.mono hb (bel_7.out.size)))
  clear bel_7
  have s_13 := Lib.hid (Blk.keep s_8.out hb)
  clear s_8
  clear hb
  obtain ⟨rfl, rfl, rfl⟩ := E1.out _ _ _ hv_; clear hv_
  have z_14 : (w2).cell? ⟨w.heap.size, 0, none⟩ = some (.int .i64 P) := Blk.cell s_13.out 0
  have z_15 : (w2).cell? ⟨w.heap.size, 1, none⟩ = some (.slice A n k) := Blk.cell s_13.out 1
  go_wp2_with fail
  refine (Greatest_any P b c A n k l _ rd_11.out hn).mono ?_
  rintro e w3 ⟨x_, t_, q_, rfl, hv_, hb⟩
  clear z_14 z_15
  have rd_16 := Lib.hid (RdB.below rd_11.out hb)
  clear rd_11
  have bel_17 := Lib.hid (Below.trans bel_12.out (Below.mono hb (bel_12.out.size)))
  clear bel_12
  have s_18 := Lib.hid (Blk.keep s_13.out hb)
  clear s_13
  clear hb
  obtain ⟨rfl, rfl, rfl⟩ := E2.out _ _ _ hv_; clear hv_
  have z_19 : (w3).cell? ⟨w.heap.size, 0, none⟩ = some (.int .i64 P) := Blk.cell s_18.out 0
  have z_20 : (w3).cell? ⟨w.heap.size, 1, none⟩ = some (.slice A n k) := Blk.cell s_18.out 1
  go_wp2_with fail
  refine (Greatest_any P a c A n k l _ rd_16.out hn).mono ?_
  rintro e w4 ⟨x_, t_, q_, rfl, hv_, hb⟩
  clear z_19 z_20
  have rd_21 := Lib.hid (RdB.below rd_16.out hb)
  clear rd_16
  have bel_22 := Lib.hid (Below.trans bel_17.out (Below.mono hb (bel_17.out.size)))
  clear bel_17
  have s_23 := Lib.hid (Blk.keep s_18.out hb)
  clear s_18
  clear hb
  obtain ⟨rfl, rfl, rfl⟩ := E3.out _ _ _ hv_; clear hv_
  have z_24 : (w4).cell? ⟨w.heap.size, 0, none⟩ = some (.int .i64 P) := Blk.cell s_23.out 0
  have z_25 : (w4).cell? ⟨w.heap.size, 1, none⟩ = some (.slice A n k) := Blk.cell s_23.out 1
  go_wp2_with fail
  refine (Least_any P b a A n k l _ rd_21.out hn).mono ?_
  rintro e w5 ⟨x_, t_, q_, rfl, hv_, hb⟩
  clear z_24 z_25
  have rd_26 := Lib.hid (RdB.below rd_21.out hb)
  clear rd_21
  have bel_27 := Lib.hid (Below.trans bel_22.out (Below.mono hb (bel_22.out.size)))
  clear bel_22
  have s_28 := Lib.hid (Blk.keep s_23.out hb)
  clear s_23
  clear hb
  obtain ⟨rfl, rfl, rfl⟩ := E4.out _ _ _ hv_; clear hv_
  have z_29 : (w5).cell? ⟨w.heap.size, 0, none⟩ = some (.int .i64 P) := Blk.cell s_28.out 0
  have z_30 : (w5).cell? ⟨w.heap.size, 1, none⟩ = some (.slice A n k) := Blk.cell s_28.out 1
  go_wp2_with fail
  refine (alive_ok _).mono ?_
  rintro e w6 ⟨rfl, hb⟩
  clear z_29 z_30
  have rd_31 := Lib.hid (RdB.below rd_26.out hb)
  clear rd_26
  have bel_32 := Lib.hid (Below.trans bel_27.out (Below.mono hb (bel_27.out.size)))
  clear bel_27
  have s_33 := Lib.hid (Blk.keep s_28.out hb)
  clear s_28
  clear hb
  go_wp2
  go_ret
  exact ⟨rfl, bel_32.out⟩

set_option maxRecDepth 100000 in
set_option maxHeartbeats 4000000 in
theorem tri_all (P a b c : Int) (A : Option Addr) (n k : Nat) (l : List Bnd) (w : World) (hr : RdB w A n k l) (hn : n ≤ maxLen) (hw : n ≤ 403) (X1 X2 X3 : Int) (E1 : Hid (∀ x t q, endV P l a b true = .tuple #[.int .i64 x, .bool t, .int .i64 q] → x = X1 ∧ t = true ∧ q = 0)) (E2 : Hid (∀ x t q, endV P l b c true = .tuple #[.int .i64 x, .bool t, .int .i64 q] → x = X2 ∧ t = true ∧ q = 0)) (E3 : Hid (∀ x t q, endV P l a c true = .tuple #[.int .i64 x, .bool t, .int .i64 q] → x = X3 ∧ t = true ∧ q = 0)) (E4 : Hid (∀ x t q, endV P l b a false = .tuple #[.int .i64 x, .bool t, .int .i64 q] → x = -X1 ∧ t = true ∧ q = 0)) (y1 : -6000000000 ≤ X1) (y2 : X1 ≤ 6000000000) (y3 : -6000000000 ≤ X2) (y4 : X2 ≤ 6000000000) (y5 : X3 ≤ X1 + X2) :
    Calls Try.prog 13 #[.agg #[.int .i64 P, .slice A n k], .int .i64 a, .int .i64 b, .int .i64 c] w fun e w' => e = .returned (.bool true) ∧ Below w.heap.size w w' := by
  go_enter Try.func13, Try.ntmps13
  go_wp2_with fail
  have rd_1 := Lib.hid (hr)
  have bel_2 := Lib.hid (show Below w.heap.size w w from Below.refl _ w)
  clear hr
  have rd_3 := Lib.hid (RdB.alloc rd_1.out (.cells #[.int .i64 P, .slice A n k] 24))
  clear rd_1
  have bel_4 := Lib.hid (Below.alloc bel_2.out (bel_2.out.size) (.cells #[.int .i64 P, .slice A n k] 24))
  clear bel_2
  have s_5 := Lib.hid (Blk.new w 24 #[.int .i64 P, .slice A n k])
  refine (wide_any P A n k _).mono ?_
  rintro e w1 ⟨rfl, hb⟩
  have rd_6 := Lib.hid (RdB.below rd_3.out hb)
  clear rd_3
  have bel_7 := Lib.hid (Below.trans bel_4.out (Below.mono hb (bel_4.out.size)))
  clear bel_4
  have s_8 := Lib.hid (Blk.keep s_5.out hb)
  clear s_5
  clear hb
  rw [show decide (n ≤ 403) = true from by simpa using hw]
  have z_9 : (w1).cell? ⟨w.heap.size, 0, none⟩ = some (.int .i64 P) := Blk.cell s_8.out 0
  have z_10 : (w1).cell? ⟨w.heap.size, 1, none⟩ = some (.slice A n k) := Blk.cell s_8.out 1
  go_wp2_with fail
  refine (Greatest_any P a b A n k l _ rd_6.out hn).mono ?_
  rintro e w2 ⟨x_, t_, q_, rfl, hv_, hb⟩
  clear z_9 z_10
  have rd_11 := Lib.hid (RdB.below rd_6.out hb)
  clear rd_6
  have bel_12 := Lib.hid (Below.trans bel_7.out (Below.mono hb (bel_7.out.size)))
  clear bel_7
  have s_13 := Lib.hid (Blk.keep s_8.out hb)
  clear s_8
  clear hb
  obtain ⟨rfl, rfl, rfl⟩ := E1.out _ _ _ hv_; clear hv_
  have z_14 : (w2).cell? ⟨w.heap.size, 0, none⟩ = some (.int .i64 P) := Blk.cell s_13.out 0
  have z_15 : (w2).cell? ⟨w.heap.size, 1, none⟩ = some (.slice A n k) := Blk.cell s_13.out 1
  go_wp2_with fail
  refine (Greatest_any P b c A n k l _ rd_11.out hn).mono ?_
  rintro e w3 ⟨x_, t_, q_, rfl, hv_, hb⟩
  clear z_14 z_15
  have rd_16 := Lib.hid (RdB.below rd_11.out hb)
  clear rd_11
  have bel_17 := Lib.hid (Below.trans bel_12.out (Below.mono hb (bel_12.out.size)))
  clear bel_12
  have s_18 := Lib.hid (Blk.keep s_13.out hb)
  clear s_13
  clear hb
  obtain ⟨rfl, rfl, rfl⟩ := E2.out _ _ _ hv_; clear hv_
  have z_19 : (w3).cell? ⟨w.heap.size, 0, none⟩ = some (.int .i64 P) := Blk.cell s_18.out 0
  have z_20 : (w3).cell? ⟨w.heap.size, 1, none⟩ = some (.slice A n k) := Blk.cell s_18.out 1
  go_wp2_with fail
  refine (Greatest_any P a c A n k l _ rd_16.out hn).mono ?_
  rintro e w4 ⟨x_, t_, q_, rfl, hv_, hb⟩
  clear z_19 z_20
  have rd_21 := Lib.hid (RdB.below rd_16.out hb)
  clear rd_16
  have bel_22 := Lib.hid (Below.trans bel_17.out (Below.mono hb (bel_17.out.size)))
  clear bel_17
  have s_23 := Lib.hid (Blk.keep s_18.out hb)
  clear s_18
  clear hb
  obtain ⟨rfl, rfl, rfl⟩ := E3.out _ _ _ hv_; clear hv_
  have z_24 : (w4).cell? ⟨w.heap.size, 0, none⟩ = some (.int .i64 P) := Blk.cell s_23.out 0
  have z_25 : (w4).cell? ⟨w.heap.size, 1, none⟩ = some (.slice A n k) := Blk.cell s_23.out 1
  go_wp2_with fail
  refine (Least_any P b a A n k l _ rd_21.out hn).mono ?_
  rintro e w5 ⟨x_, t_, q_, rfl, hv_, hb⟩
  clear z_24 z_25
  have rd_26 := Lib.hid (RdB.below rd_21.out hb)
  clear rd_21
  have bel_27 := Lib.hid (Below.trans bel_22.out (Below.mono hb (bel_22.out.size)))
  clear bel_22
  have s_28 := Lib.hid (Blk.keep s_23.out hb)
  clear s_23
  clear hb
  obtain ⟨rfl, rfl, rfl⟩ := E4.out _ _ _ hv_; clear hv_
  have z_29 : (w5).cell? ⟨w.heap.size, 0, none⟩ = some (.int .i64 P) := Blk.cell s_28.out 0
  have z_30 : (w5).cell? ⟨w.heap.size, 1, none⟩ = some (.slice A n k) := Blk.cell s_28.out 1
  go_wp2_with fail
  refine (alive_ok _).mono ?_
  rintro e w6 ⟨rfl, hb⟩
  clear z_29 z_30
  have rd_31 := Lib.hid (RdB.below rd_26.out hb)
  clear rd_26
  have bel_32 := Lib.hid (Below.trans bel_27.out (Below.mono hb (bel_27.out.size)))
  clear bel_27
  have s_33 := Lib.hid (Blk.keep s_28.out hb)
  clear s_28
  clear hb
  go_wp2
  go_ret
  exact ⟨rfl, bel_32.out⟩

end Go.Proofs.Ythlnialipjihdaa
