/- For every system, bound and point GaugeChanged returns true: Changed returns what the reference returns. No condition. -/
import Derived.Test.YthlnialipjihdaaRows
import Derived.Test.YthlnialipjihdaaRChanged
import Derived.Test.YthlnialipjihdaaOpenB
import Derived.Test.YthlnialipjihdaaShz
set_option linter.unusedSimpArgs false
set_option linter.unusedVariables false
namespace Go.Proofs.Ythlnialipjihdaa
open Go.ChangeShapes Go.WideShapes Go.ChangeAt Go.RowKit

set_option maxRecDepth 100000 in
set_option maxHeartbeats 4000000 in
theorem ch_w (P a f t m i : Int) (A : Option Addr) (n k : Nat) (l : List Bnd) (w : World) (hr : RdB w A n k l) (hn : n ≤ maxLen) (hw : (decide (P ≤ 9) && decide (n ≤ 20)) = false) :
    Calls Try.prog 10 #[.agg #[.int .i64 P, .slice A n k], .agg #[.int .i64 f, .int .i64 t, .int .i64 m, .int .i64 i], .int .i64 a] w fun e w' => e = .returned (.bool true) ∧ Below w.heap.size w w' := by
  go_enter Try.func10, Try.ntmps10
  have bel_1 := Lib.hid (show Below w.heap.size w w from Below.refl _ w)
  have rd_2 := Lib.hid (hr)
  clear hr
  have bel_3 := Lib.hid (Below.alloc bel_1.out (bel_1.out.size) (.cells #[.int .i64 P, .slice A n k] 24))
  clear bel_1
  have rd_4 := Lib.hid (RdB.alloc rd_2.out (.cells #[.int .i64 P, .slice A n k] 24))
  clear rd_2
  have s_5 := Lib.hid (Blk.new w 24 #[.int .i64 P, .slice A n k])
  have bel_6 := Lib.hid (Below.alloc bel_3.out (bel_3.out.size) (.cells #[.int .i64 f, .int .i64 t, .int .i64 m, .int .i64 i] 54))
  clear bel_3
  have rd_7 := Lib.hid (RdB.alloc rd_4.out (.cells #[.int .i64 f, .int .i64 t, .int .i64 m, .int .i64 i] 54))
  clear rd_4
  have s_8 := Lib.hid (Blk.alloc s_5.out (.cells #[.int .i64 f, .int .i64 t, .int .i64 m, .int .i64 i] 54))
  clear s_5
  have nb_ := Blk.new (w.alloc (.cells #[.int .i64 P, .slice A n k] 24)) 54 #[.int .i64 f, .int .i64 t, .int .i64 m, .int .i64 i]
  simp only [World.size_alloc] at nb_
  have b_9 := Lib.hid nb_; clear nb_
  have hc := (show Calls Try.prog 43 #[.agg #[.int .i64 P, .slice A n k]] (((w.alloc (.cells #[.int .i64 P, .slice A n k] 24)).alloc (.cells #[.int .i64 f, .int .i64 t, .int .i64 m, .int .i64 i] 54))) fun e w' => e = .returned (.bool false) ∧ Below (((w.alloc (.cells #[.int .i64 P, .slice A n k] 24)).alloc (.cells #[.int .i64 f, .int .i64 t, .int .i64 m, .int .i64 i] 54))).heap.size (((w.alloc (.cells #[.int .i64 P, .slice A n k] 24)).alloc (.cells #[.int .i64 f, .int .i64 t, .int .i64 m, .int .i64 i] 54))) w' from by have h := small_any P A n k (((w.alloc (.cells #[.int .i64 P, .slice A n k] 24)).alloc (.cells #[.int .i64 f, .int .i64 t, .int .i64 m, .int .i64 i] 54))); rw [show (decide (P ≤ 9) && decide (n ≤ 20)) = false from hw] at h; exact h)
  have HC := Lib.hid hc; clear hc
  go_wp2_with fail
  refine HC.out.mono ?_
  rintro e w_10 ⟨rfl, hb⟩
  clear HC
  have bel_11 := Lib.hid (Below.trans bel_6.out (Below.mono hb (bel_6.out.size)))
  clear bel_6
  have rd_12 := Lib.hid (RdB.below rd_7.out hb)
  clear rd_7
  have s_13 := Lib.hid (Blk.keep s_8.out hb)
  clear s_8
  have b_14 := Lib.hid (Blk.keep b_9.out hb)
  clear b_9
  clear hb
  have z_15 : (w_10).cell? ⟨w.heap.size, 0, none⟩ = some (.int .i64 P) := Blk.cell s_13.out 0
  have z_16 : (w_10).cell? ⟨w.heap.size, 1, none⟩ = some (.slice A n k) := Blk.cell s_13.out 1
  have z_17 : (w_10).cell? ⟨w.heap.size + 1, 0, none⟩ = some (.int .i64 f) := Blk.cell b_14.out 0
  have z_18 : (w_10).cell? ⟨w.heap.size + 1, 1, none⟩ = some (.int .i64 t) := Blk.cell b_14.out 1
  have z_19 : (w_10).cell? ⟨w.heap.size + 1, 2, none⟩ = some (.int .i64 m) := Blk.cell b_14.out 2
  have z_20 : (w_10).cell? ⟨w.heap.size + 1, 3, none⟩ = some (.int .i64 i) := Blk.cell b_14.out 3
  go_wp2_with fail
  refine (alive_ok _).mono ?_
  rintro e w_21 ⟨rfl, hb⟩
  clear z_15 z_16 z_17 z_18 z_19 z_20
  have bel_22 := Lib.hid (Below.trans bel_11.out (Below.mono hb (bel_11.out.size)))
  clear bel_11
  have rd_23 := Lib.hid (RdB.below rd_12.out hb)
  clear rd_12
  have s_24 := Lib.hid (Blk.keep s_13.out hb)
  clear s_13
  have b_25 := Lib.hid (Blk.keep b_14.out hb)
  clear b_14
  clear hb
  go_wp2
  go_ret
  exact ⟨rfl, bel_22.out⟩

set_option maxRecDepth 100000 in
set_option maxHeartbeats 4000000 in
theorem ch_ok (P a f t m i : Int) (A : Option Addr) (n k : Nat) (l : List Bnd) (w : World) (hr : RdB w A n k l) (hn : n ≤ maxLen) (hw : (decide (P ≤ 9) && decide (n ≤ 20)) = true) (hn1 : n ≤ 1000) (Z : List Int) (hZ : Z.length ≤ 100000) (q : Int) (E1 : Hid (changedV P l ⟨f, t, m, i⟩ a = (Z, q))) :
    Calls Try.prog 10 #[.agg #[.int .i64 P, .slice A n k], .agg #[.int .i64 f, .int .i64 t, .int .i64 m, .int .i64 i], .int .i64 a] w fun e w' => e = .returned (.bool true) ∧ Below w.heap.size w w' := by
  go_enter Try.func10, Try.ntmps10
  have bel_1 := Lib.hid (show Below w.heap.size w w from Below.refl _ w)
  have rd_2 := Lib.hid (hr)
  clear hr
  have bel_3 := Lib.hid (Below.alloc bel_1.out (bel_1.out.size) (.cells #[.int .i64 P, .slice A n k] 24))
  clear bel_1
  have rd_4 := Lib.hid (RdB.alloc rd_2.out (.cells #[.int .i64 P, .slice A n k] 24))
  clear rd_2
  have s_5 := Lib.hid (Blk.new w 24 #[.int .i64 P, .slice A n k])
  have bel_6 := Lib.hid (Below.alloc bel_3.out (bel_3.out.size) (.cells #[.int .i64 f, .int .i64 t, .int .i64 m, .int .i64 i] 54))
  clear bel_3
  have rd_7 := Lib.hid (RdB.alloc rd_4.out (.cells #[.int .i64 f, .int .i64 t, .int .i64 m, .int .i64 i] 54))
  clear rd_4
  have s_8 := Lib.hid (Blk.alloc s_5.out (.cells #[.int .i64 f, .int .i64 t, .int .i64 m, .int .i64 i] 54))
  clear s_5
  have nb_ := Blk.new (w.alloc (.cells #[.int .i64 P, .slice A n k] 24)) 54 #[.int .i64 f, .int .i64 t, .int .i64 m, .int .i64 i]
  simp only [World.size_alloc] at nb_
  have b_9 := Lib.hid nb_; clear nb_
  have hc := (show Calls Try.prog 43 #[.agg #[.int .i64 P, .slice A n k]] (((w.alloc (.cells #[.int .i64 P, .slice A n k] 24)).alloc (.cells #[.int .i64 f, .int .i64 t, .int .i64 m, .int .i64 i] 54))) fun e w' => e = .returned (.bool true) ∧ Below (((w.alloc (.cells #[.int .i64 P, .slice A n k] 24)).alloc (.cells #[.int .i64 f, .int .i64 t, .int .i64 m, .int .i64 i] 54))).heap.size (((w.alloc (.cells #[.int .i64 P, .slice A n k] 24)).alloc (.cells #[.int .i64 f, .int .i64 t, .int .i64 m, .int .i64 i] 54))) w' from by have h := small_any P A n k (((w.alloc (.cells #[.int .i64 P, .slice A n k] 24)).alloc (.cells #[.int .i64 f, .int .i64 t, .int .i64 m, .int .i64 i] 54))); rw [show (decide (P ≤ 9) && decide (n ≤ 20)) = true from hw] at h; exact h)
  have HC := Lib.hid hc; clear hc
  go_wp2_with fail
  refine HC.out.mono ?_
  rintro e w_10 ⟨rfl, hb⟩
  clear HC
  have bel_11 := Lib.hid (Below.trans bel_6.out (Below.mono hb (bel_6.out.size)))
  clear bel_6
  have rd_12 := Lib.hid (RdB.below rd_7.out hb)
  clear rd_7
  have s_13 := Lib.hid (Blk.keep s_8.out hb)
  clear s_8
  have b_14 := Lib.hid (Blk.keep b_9.out hb)
  clear b_9
  clear hb
  have z_15 : (w_10).cell? ⟨w.heap.size, 0, none⟩ = some (.int .i64 P) := Blk.cell s_13.out 0
  have z_16 : (w_10).cell? ⟨w.heap.size, 1, none⟩ = some (.slice A n k) := Blk.cell s_13.out 1
  have z_17 : (w_10).cell? ⟨w.heap.size + 1, 0, none⟩ = some (.int .i64 f) := Blk.cell b_14.out 0
  have z_18 : (w_10).cell? ⟨w.heap.size + 1, 1, none⟩ = some (.int .i64 t) := Blk.cell b_14.out 1
  have z_19 : (w_10).cell? ⟨w.heap.size + 1, 2, none⟩ = some (.int .i64 m) := Blk.cell b_14.out 2
  have z_20 : (w_10).cell? ⟨w.heap.size + 1, 3, none⟩ = some (.int .i64 i) := Blk.cell b_14.out 3
  have hc := Changed_any P f t m i a A n k l _ rd_12.out (by omega)
  rw [E1.out] at hc
  unfold RetL at hc; dsimp only at hc
  have HC := Lib.hid hc; clear hc
  go_wp2_with fail
  refine HC.out.mono ?_
  rintro e w_21 ⟨Az, nz, cz, rfl, ho, hb⟩
  clear HC
  clear z_15 z_16 z_17 z_18 z_19 z_20
  have ow_22 := Lib.hid (owns_base ho (bel_11.out.size))
  have bel_23 := Lib.hid (Below.trans bel_11.out (Below.mono hb (bel_11.out.size)))
  clear bel_11
  have rd_24 := Lib.hid (RdB.below rd_12.out hb)
  clear rd_12
  have s_25 := Lib.hid (Blk.keep s_13.out hb)
  clear s_13
  have b_26 := Lib.hid (Blk.keep b_14.out hb)
  clear b_14
  have z_27 := Lib.hid ((OwnI.rd ho).1)
  obtain rfl : nz = Z.length := z_27.out.len.symm
  clear ho hb
  have z_28 : (w_21).cell? ⟨w.heap.size, 0, none⟩ = some (.int .i64 P) := Blk.cell s_25.out 0
  have z_29 : (w_21).cell? ⟨w.heap.size, 1, none⟩ = some (.slice A n k) := Blk.cell s_25.out 1
  have z_30 : (w_21).cell? ⟨w.heap.size + 1, 0, none⟩ = some (.int .i64 f) := Blk.cell b_26.out 0
  have z_31 : (w_21).cell? ⟨w.heap.size + 1, 1, none⟩ = some (.int .i64 t) := Blk.cell b_26.out 1
  have z_32 : (w_21).cell? ⟨w.heap.size + 1, 2, none⟩ = some (.int .i64 m) := Blk.cell b_26.out 2
  have z_33 : (w_21).cell? ⟨w.heap.size + 1, 3, none⟩ = some (.int .i64 i) := Blk.cell b_26.out 3
  have hc := rChanged_any P f t m i a A n k l _ rd_24.out hn
  rw [E1.out] at hc
  unfold RetL at hc; dsimp only at hc
  have HC := Lib.hid hc; clear hc
  go_wp2_with fail
  refine HC.out.mono ?_
  rintro e w_34 ⟨Ay, ny, cy, rfl, ho, hb⟩
  clear HC
  clear z_28 z_29 z_30 z_31 z_32 z_33
  have ow_35 := Lib.hid (owns_base ho (bel_23.out.size))
  have bel_36 := Lib.hid (Below.trans bel_23.out (Below.mono hb (bel_23.out.size)))
  clear bel_23
  have rd_37 := Lib.hid (RdB.below rd_24.out hb)
  clear rd_24
  have s_38 := Lib.hid (Blk.keep s_25.out hb)
  clear s_25
  have b_39 := Lib.hid (Blk.keep b_26.out hb)
  clear b_26
  have ownz_40 := Lib.hid (owns_below ow_22.out hb)
  clear ow_22
  have z_41 := Lib.hid (RdI.below z_27.out hb)
  clear z_27
  have y_42 := Lib.hid ((OwnI.rd ho).1)
  obtain rfl : ny = Z.length := y_42.out.len.symm
  clear ho hb
  have z_43 : (w_34).cell? ⟨w.heap.size, 0, none⟩ = some (.int .i64 P) := Blk.cell s_38.out 0
  have z_44 : (w_34).cell? ⟨w.heap.size, 1, none⟩ = some (.slice A n k) := Blk.cell s_38.out 1
  have z_45 : (w_34).cell? ⟨w.heap.size + 1, 0, none⟩ = some (.int .i64 f) := Blk.cell b_39.out 0
  have z_46 : (w_34).cell? ⟨w.heap.size + 1, 1, none⟩ = some (.int .i64 t) := Blk.cell b_39.out 1
  have z_47 : (w_34).cell? ⟨w.heap.size + 1, 2, none⟩ = some (.int .i64 m) := Blk.cell b_39.out 2
  have z_48 : (w_34).cell? ⟨w.heap.size + 1, 3, none⟩ = some (.int .i64 i) := Blk.cell b_39.out 3
  go_wp2_with fail
  refine (alive_ok _).mono ?_
  rintro e w_49 ⟨rfl, hb⟩
  clear z_43 z_44 z_45 z_46 z_47 z_48
  have bel_50 := Lib.hid (Below.trans bel_36.out (Below.mono hb (bel_36.out.size)))
  clear bel_36
  have rd_51 := Lib.hid (RdB.below rd_37.out hb)
  clear rd_37
  have s_52 := Lib.hid (Blk.keep s_38.out hb)
  clear s_38
  have b_53 := Lib.hid (Blk.keep b_39.out hb)
  clear b_39
  have ownz_54 := Lib.hid (owns_below ownz_40.out hb)
  clear ownz_40
  have z_55 := Lib.hid (RdI.below z_41.out hb)
  clear z_41
  have owny_56 := Lib.hid (owns_below ow_35.out hb)
  clear ow_35
  have y_57 := Lib.hid (RdI.below y_42.out hb)
  clear y_42
  clear hb
  go_wp2_with fail
  refine (Same_yes Az Ay Z.length cz Z.length cy Z _ z_55.out y_57.out (by unfold maxLen; omega)).mono ?_
  rintro e w_58 ⟨rfl, hb⟩
  have bel_59 := Lib.hid (Below.trans bel_50.out (Below.mono hb (bel_50.out.size)))
  clear bel_50
  have rd_60 := Lib.hid (RdB.below rd_51.out hb)
  clear rd_51
  have s_61 := Lib.hid (Blk.keep s_52.out hb)
  clear s_52
  have b_62 := Lib.hid (Blk.keep b_53.out hb)
  clear b_53
  have ownz_63 := Lib.hid (owns_below ownz_54.out hb)
  clear ownz_54
  have z_64 := Lib.hid (RdI.below z_55.out hb)
  clear z_55
  have owny_65 := Lib.hid (owns_below owny_56.out hb)
  clear owny_56
  have y_66 := Lib.hid (RdI.below y_57.out hb)
  clear y_57
  clear hb
  go_wp2
  go_ret
  exact ⟨rfl, bel_59.out⟩

theorem changedV_length {P : Int} {l : List Bnd} {x : Bnd} {a : Int} : (changedV P l x a).1.length ≤ 100000 := by
  unfold changedV
  by_cases h : withC P l x = 0
  · obtain ⟨h1, -⟩ := withC_ok h
    obtain ⟨hp1, hp2, -, -⟩ := chk_ok h1
    rw [if_pos h]
    split
    · have := chgL_length (endsL l P.toNat a.toNat) (endsL (l ++ [x]) P.toNat a.toNat) P.toNat
      dsimp only
      omega
    · simp
  · rw [if_neg h]; simp

theorem ch_walk (w : World) (P : Int) (A : Option Addr) (n k : Nat) (l : List Bnd) (_ : (Lit.int .i64 P).wf = true) (hr : RdB w A n k l) (hn : n ≤ maxLen) (f t m i a : Int) (_ : (Lit.int .i64 a).wf = true) :
    Calls Try.prog 10 #[.agg #[.int .i64 P, .slice A n k], .agg #[.int .i64 f, .int .i64 t, .int .i64 m, .int .i64 i], .int .i64 a] w fun e w' => e = .returned (.bool true) ∧ Below w.heap.size w w' := by
  cases hw : (decide (P ≤ 9) && decide (n ≤ 20))
  · exact ch_w P a f t m i A n k l w hr hn hw
  · exact ch_ok P a f t m i A n k l w hr hn hw (by simp at hw; omega) _ changedV_length _ (Lib.hid rfl)

set_option maxRecDepth 100000 in
theorem gaugeChanged_lifted (os : Os) (started : os.Started) (H : Type) (enc : TypeId × Value → H) :
    ReturnsInHanded {} Try.checked os 10 .any (Rows.gaugeChangedSpec.pre6 enc Try.prog Try.f10 Rows.gaugeChangedRow.domain false) (Rows.gaugeChangedSpec.post enc Try.prog Try.f10 false true false false) := by
  refine returnsInHanded_of_change (C := Try.checked) Law.own started (by kernel_rfl) Try.func10
    (ChangeSpec.witness6 (enc := enc) (C := Try.checked) false ⟨#[], #[.agg #[.int .i64 0, .slice none 0 0], .agg #[.int .i64 0, .int .i64 0, .int .i64 0, .int .i64 0], .int .i64 0], []⟩ 8 (by kernel_rfl) (by kernel_rfl) (by kernel_rfl) (by kernel_rfl)) ?_
  intro W base args ds gs before hval0 hW hcnd _
  have hval : ∀ (j : Nat) t v, Try.f10.params[j]? = some t → args[j]? = some v → Value.okWide Try.prog W .any base t v := hval0
  have hW' := hW
  obtain ⟨p, q, hA0, hV, rfl, hfz, hnd⟩ := hW
  have hA : DataW.TrodAll enc Try.prog W 0 (fun _ => true) true Try.f10.params.toList args.toList ds p := hA0
  rw [Try.params10] at hA hval
  obtain ⟨v0, vs0, d0, ds0, p0, q0, hargs, rfl, rfl, h0, r0⟩ := trodAll_cons hA
  obtain ⟨v1, vs1, d1, ds1, p1, q1, rfl, rfl, rfl, h1, r1⟩ := trodAll_cons r0
  obtain ⟨v2, vs2, d2, ds2, p2, q2, rfl, rfl, rfl, h2, r2⟩ := trodAll_cons r1
  obtain ⟨rfl, rfl, rfl⟩ := trodAll_nil r2
  obtain rfl : args = #[v0, v1, v2] := by cases args; simp_all
  obtain ⟨rfl, rfl⟩ := trodVars_none hV
  have k0 := h0
  have lt0 : ∀ x ∈ p0, x.block < W.heap.size := by obtain ⟨m, hm⟩ := k0; exact DataW.trod_lt m _ _ _ hm
  obtain ⟨P0, A0, n0, c0, l0, rfl, w0, rd0, mx0⟩ := open_sys (hval 0 24 v0 rfl rfl) h0
  have k1 := h1
  have lt1 : ∀ x ∈ p1, x.block < W.heap.size := by obtain ⟨m, hm⟩ := k1; exact DataW.trod_lt m _ _ _ hm
  obtain ⟨f1, t1, m1, i1, rfl⟩ := open_bound (hval 1 54 v1 rfl rfl) h1
  obtain ⟨a2, rfl, rfl, rfl, w2⟩ := open_int Try.underlying3 (hval 2 3 v2 rfl rfl) h2
  clear hA0 hval0
  refine (ch_walk W P0 A0 n0 c0 l0 w0 rd0 mx0 f1 t1 m1 i1 a2 w2).mono fun e W' ⟨he, bel⟩ => ?_
  subst he
  exact ⟨_, rfl, _, _, _, [], _, [], hW', trodAll_mk1 (shut_bool Try.underlying4 _), (trodAll_cons_mk (Below.trod Law.laidOut (by kernel_rfl) (of_decide_eq_true (by kernel_rfl)) k0 bel lt0) (trodAll_cons_mk (Below.trod Law.laidOut (by kernel_rfl) (of_decide_eq_true (by kernel_rfl)) k1 bel lt1) (trodAll_cons_mk (shut_int Try.underlying3 w2) trodAll_mk0))), rfl, bel.frame _, fun h => by cases h⟩

theorem gaugeChanged_over : Rows.gaugeChangedRow.holds Try.pinned (OpenSpec.ofChange Rows.gaugeChangedSpec) :=
  OpenClaim.holds_of_wide 10 Try.f10 rfl rfl rfl rfl rfl rfl rfl ⟨rfl, rfl, rfl, rfl, rfl⟩ rfl rfl rfl rfl rfl (by kernel_rfl) Try.func10 (by kernel_rfl)
    (of_decide_eq_true (by kernel_rfl)) (by unfold Func.isWrapper; first | (rw [if_pos (by decide +kernel)]; kernel_rfl) | (rw [if_neg (by decide +kernel)]; exact ⟨rfl, rfl⟩))
    (fun os started H enc _ => gaugeChanged_lifted os started H enc)

theorem gaugeChanged_proved : Rows.GaugeChangedSaid := gaugeChanged_over
end Go.Proofs.Ythlnialipjihdaa
