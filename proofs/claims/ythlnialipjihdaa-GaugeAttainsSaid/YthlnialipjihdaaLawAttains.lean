/- For every system, two points and number GaugeAttains returns true: Attain returns what the reference returns. No condition. -/
import Derived.Test.YthlnialipjihdaaRows
import Derived.Test.YthlnialipjihdaaRAttain
import Derived.Test.YthlnialipjihdaaShz
set_option linter.unusedSimpArgs false
set_option linter.unusedVariables false
namespace Go.Proofs.Ythlnialipjihdaa
open Go.ChangeShapes Go.WideShapes Go.ChangeAt Go.RowKit

set_option maxRecDepth 100000 in
set_option maxHeartbeats 4000000 in
theorem at_w1 (P a b N : Int) (A : Option Addr) (n k : Nat) (l : List Bnd) (w : World) (hr : RdB w A n k l) (hn : n ≤ maxLen) (hw : ¬ n ≤ 403) :
    Calls Try.prog 8 #[.agg #[.int .i64 P, .slice A n k], .int .i64 a, .int .i64 b, .int .i64 N] w fun e w' => e = .returned (.bool true) ∧ Below w.heap.size w w' := by
  go_enter Try.func8, Try.ntmps8
  have bel_1 := Lib.hid (show Below w.heap.size w w from Below.refl _ w)
  have rd_2 := Lib.hid (hr)
  clear hr
  have bel_3 := Lib.hid (Below.alloc bel_1.out (bel_1.out.size) (.cells #[.int .i64 P, .slice A n k] 24))
  clear bel_1
  have rd_4 := Lib.hid (RdB.alloc rd_2.out (.cells #[.int .i64 P, .slice A n k] 24))
  clear rd_2
  have srd_5 := Lib.hid (Blk.new w 24 #[.int .i64 P, .slice A n k])
  have hc := (show Calls Try.prog 18 #[.agg #[.int .i64 P, .slice A n k]] ((w.alloc (.cells #[.int .i64 P, .slice A n k] 24))) fun e w' => e = .returned (.bool false) ∧ Below ((w.alloc (.cells #[.int .i64 P, .slice A n k] 24))).heap.size ((w.alloc (.cells #[.int .i64 P, .slice A n k] 24))) w' from by have h := wide_any P A n k ((w.alloc (.cells #[.int .i64 P, .slice A n k] 24))); rw [show decide (n ≤ 403) = false from by simpa using hw] at h; exact h)
  have HC := Lib.hid hc; clear hc
  go_wp2_with fail
  refine HC.out.mono ?_
  rintro e w_6 ⟨rfl, hb⟩
  clear HC
  have bel_7 := Lib.hid (Below.trans bel_3.out (Below.mono hb (bel_3.out.size)))
  clear bel_3
  have rd_8 := Lib.hid (RdB.below rd_4.out hb)
  clear rd_4
  have srd_9 := Lib.hid (Blk.keep srd_5.out hb)
  clear srd_5
  clear hb
  have z_10 : (w_6).cell? ⟨w.heap.size, 0, none⟩ = some (.int .i64 P) := Blk.cell srd_9.out 0
  have z_11 : (w_6).cell? ⟨w.heap.size, 1, none⟩ = some (.slice A n k) := Blk.cell srd_9.out 1
  go_wp2_with fail
  refine (alive_ok _).mono ?_
  rintro e w_12 ⟨rfl, hb⟩
  clear z_10 z_11
  have bel_13 := Lib.hid (Below.trans bel_7.out (Below.mono hb (bel_7.out.size)))
  clear bel_7
  have rd_14 := Lib.hid (RdB.below rd_8.out hb)
  clear rd_8
  have srd_15 := Lib.hid (Blk.keep srd_9.out hb)
  clear srd_9
  clear hb
  go_wp2
  go_ret
  exact ⟨rfl, bel_13.out⟩

set_option maxRecDepth 100000 in
set_option maxHeartbeats 4000000 in
theorem at_ok (P a b N : Int) (A : Option Addr) (n k : Nat) (l : List Bnd) (w : World) (hr : RdB w A n k l) (hn : n ≤ maxLen) (hw : n ≤ 403) (Z : List Int) (hZ : Z.length ≤ 60) (t : Bool) (q : Int) (E1 : Hid (attainV P l a b N = (Z, t, q))) :
    Calls Try.prog 8 #[.agg #[.int .i64 P, .slice A n k], .int .i64 a, .int .i64 b, .int .i64 N] w fun e w' => e = .returned (.bool true) ∧ Below w.heap.size w w' := by
  go_enter Try.func8, Try.ntmps8
  have bel_1 := Lib.hid (show Below w.heap.size w w from Below.refl _ w)
  have rd_2 := Lib.hid (hr)
  clear hr
  have bel_3 := Lib.hid (Below.alloc bel_1.out (bel_1.out.size) (.cells #[.int .i64 P, .slice A n k] 24))
  clear bel_1
  have rd_4 := Lib.hid (RdB.alloc rd_2.out (.cells #[.int .i64 P, .slice A n k] 24))
  clear rd_2
  have srd_5 := Lib.hid (Blk.new w 24 #[.int .i64 P, .slice A n k])
  have hc := (show Calls Try.prog 18 #[.agg #[.int .i64 P, .slice A n k]] ((w.alloc (.cells #[.int .i64 P, .slice A n k] 24))) fun e w' => e = .returned (.bool true) ∧ Below ((w.alloc (.cells #[.int .i64 P, .slice A n k] 24))).heap.size ((w.alloc (.cells #[.int .i64 P, .slice A n k] 24))) w' from by have h := wide_any P A n k ((w.alloc (.cells #[.int .i64 P, .slice A n k] 24))); rw [show decide (n ≤ 403) = true from by simpa using hw] at h; exact h)
  have HC := Lib.hid hc; clear hc
  go_wp2_with fail
  refine HC.out.mono ?_
  rintro e w_6 ⟨rfl, hb⟩
  clear HC
  have bel_7 := Lib.hid (Below.trans bel_3.out (Below.mono hb (bel_3.out.size)))
  clear bel_3
  have rd_8 := Lib.hid (RdB.below rd_4.out hb)
  clear rd_4
  have srd_9 := Lib.hid (Blk.keep srd_5.out hb)
  clear srd_5
  clear hb
  have z_10 : (w_6).cell? ⟨w.heap.size, 0, none⟩ = some (.int .i64 P) := Blk.cell srd_9.out 0
  have z_11 : (w_6).cell? ⟨w.heap.size, 1, none⟩ = some (.slice A n k) := Blk.cell srd_9.out 1
  have hc := Attain_any P a b N A n k l _ rd_8.out hn
  rw [E1.out] at hc
  unfold RetI at hc; dsimp only at hc
  have HC := Lib.hid hc; clear hc
  go_wp2_with fail
  refine HC.out.mono ?_
  rintro e w_12 ⟨Az, nz, cz, rfl, ho, hb⟩
  clear HC
  clear z_10 z_11
  have ow_13 := Lib.hid (owns_base ho (bel_7.out.size))
  have bel_14 := Lib.hid (Below.trans bel_7.out (Below.mono hb (bel_7.out.size)))
  clear bel_7
  have rd_15 := Lib.hid (RdB.below rd_8.out hb)
  clear rd_8
  have srd_16 := Lib.hid (Blk.keep srd_9.out hb)
  clear srd_9
  have z_17 := Lib.hid ((OwnI.rd ho).1)
  obtain rfl : nz = Z.length := z_17.out.len.symm
  clear ho hb
  have z_18 : (w_12).cell? ⟨w.heap.size, 0, none⟩ = some (.int .i64 P) := Blk.cell srd_16.out 0
  have z_19 : (w_12).cell? ⟨w.heap.size, 1, none⟩ = some (.slice A n k) := Blk.cell srd_16.out 1
  have hc := rAttain_any P a b N A n k l _ rd_15.out hn
  rw [E1.out] at hc
  unfold RetI at hc; dsimp only at hc
  have HC := Lib.hid hc; clear hc
  go_wp2_with fail
  refine HC.out.mono ?_
  rintro e w_20 ⟨Ay, ny, cy, rfl, ho, hb⟩
  clear HC
  clear z_18 z_19
  have ow_21 := Lib.hid (owns_base ho (bel_14.out.size))
  have bel_22 := Lib.hid (Below.trans bel_14.out (Below.mono hb (bel_14.out.size)))
  clear bel_14
  have rd_23 := Lib.hid (RdB.below rd_15.out hb)
  clear rd_15
  have srd_24 := Lib.hid (Blk.keep srd_16.out hb)
  clear srd_16
  have ownz_25 := Lib.hid (owns_below ow_13.out hb)
  clear ow_13
  have z_26 := Lib.hid (RdI.below z_17.out hb)
  clear z_17
  have y_27 := Lib.hid ((OwnI.rd ho).1)
  obtain rfl : ny = Z.length := y_27.out.len.symm
  clear ho hb
  have z_28 : (w_20).cell? ⟨w.heap.size, 0, none⟩ = some (.int .i64 P) := Blk.cell srd_24.out 0
  have z_29 : (w_20).cell? ⟨w.heap.size, 1, none⟩ = some (.slice A n k) := Blk.cell srd_24.out 1
  go_wp2_with fail
  refine (alive_ok _).mono ?_
  rintro e w_30 ⟨rfl, hb⟩
  clear z_28 z_29
  have bel_31 := Lib.hid (Below.trans bel_22.out (Below.mono hb (bel_22.out.size)))
  clear bel_22
  have rd_32 := Lib.hid (RdB.below rd_23.out hb)
  clear rd_23
  have srd_33 := Lib.hid (Blk.keep srd_24.out hb)
  clear srd_24
  have ownz_34 := Lib.hid (owns_below ownz_25.out hb)
  clear ownz_25
  have z_35 := Lib.hid (RdI.below z_26.out hb)
  clear z_26
  have owny_36 := Lib.hid (owns_below ow_21.out hb)
  clear ow_21
  have y_37 := Lib.hid (RdI.below y_27.out hb)
  clear y_27
  clear hb
  go_wp2_with fail
  refine (Same_yes Az Ay Z.length cz Z.length cy Z _ z_35.out y_37.out (by unfold maxLen; omega)).mono ?_
  rintro e w_38 ⟨rfl, hb⟩
  have bel_39 := Lib.hid (Below.trans bel_31.out (Below.mono hb (bel_31.out.size)))
  clear bel_31
  have rd_40 := Lib.hid (RdB.below rd_32.out hb)
  clear rd_32
  have srd_41 := Lib.hid (Blk.keep srd_33.out hb)
  clear srd_33
  have ownz_42 := Lib.hid (owns_below ownz_34.out hb)
  clear ownz_34
  have z_43 := Lib.hid (RdI.below z_35.out hb)
  clear z_35
  have owny_44 := Lib.hid (owns_below owny_36.out hb)
  clear owny_36
  have y_45 := Lib.hid (RdI.below y_37.out hb)
  clear y_37
  clear hb
  go_wp2
  go_ret
  exact ⟨rfl, bel_39.out⟩

theorem attainV_length {P : Int} {l : List Bnd} {a b N : Int} : (attainV P l a b N).1.length ≤ 60 := by
  unfold attainV
  by_cases hg : gcode P l [a, b] = 0
  · obtain ⟨hk, -⟩ := gcode_ok hg
    obtain ⟨hp1, hp2, -, -⟩ := chk_ok hk
    rw [if_neg (by simpa using hg)]
    split
    · simp
    · split
      · simp
      · cases settle (l ++ tieB a b N) P.toNat zeros with
        | none => simp
        | some z => simp only [List.length_take]; omega
  · rw [if_pos hg]; simp

theorem at_walk (w : World) (P : Int) (A : Option Addr) (n k : Nat) (l : List Bnd) (_ : (Lit.int .i64 P).wf = true) (hr : RdB w A n k l) (hn : n ≤ maxLen) (a : Int) (_ : (Lit.int .i64 a).wf = true) (b : Int) (_ : (Lit.int .i64 b).wf = true) (N : Int) (_ : (Lit.int .i64 N).wf = true) :
    Calls Try.prog 8 #[.agg #[.int .i64 P, .slice A n k], .int .i64 a, .int .i64 b, .int .i64 N] w fun e w' => e = .returned (.bool true) ∧ Below w.heap.size w w' := by
  by_cases hw : n ≤ 403
  · exact at_ok P a b N A n k l w hr hn hw _ attainV_length _ _ (Lib.hid rfl)
  · exact at_w1 P a b N A n k l w hr hn hw

set_option maxRecDepth 100000 in
theorem gaugeAttains_lifted (os : Os) (started : os.Started) (H : Type) (enc : TypeId × Value → H) :
    ReturnsInHanded {} Try.checked os 8 .any (Rows.gaugeAttainsSpec.pre6 enc Try.prog Try.f8 Rows.gaugeAttainsRow.domain false) (Rows.gaugeAttainsSpec.post enc Try.prog Try.f8 false true false false) := by
  refine returnsInHanded_of_change (C := Try.checked) Law.own started (by kernel_rfl) Try.func8
    (ChangeSpec.witness6 (enc := enc) (C := Try.checked) false ⟨#[], #[.agg #[.int .i64 0, .slice none 0 0], .int .i64 0, .int .i64 0, .int .i64 0], []⟩ 8 (by kernel_rfl) (by kernel_rfl) (by kernel_rfl) (by kernel_rfl)) ?_
  intro W base args ds gs before hval0 hW hcnd _
  have hval : ∀ (j : Nat) t v, Try.f8.params[j]? = some t → args[j]? = some v → Value.okWide Try.prog W .any base t v := hval0
  have hW' := hW
  obtain ⟨p, q, hA0, hV, rfl, hfz, hnd⟩ := hW
  have hA : DataW.TrodAll enc Try.prog W 0 (fun _ => true) true Try.f8.params.toList args.toList ds p := hA0
  rw [Try.params8] at hA hval
  obtain ⟨v0, vs0, d0, ds0, p0, q0, hargs, rfl, rfl, h0, r0⟩ := trodAll_cons hA
  obtain ⟨v1, vs1, d1, ds1, p1, q1, rfl, rfl, rfl, h1, r1⟩ := trodAll_cons r0
  obtain ⟨v2, vs2, d2, ds2, p2, q2, rfl, rfl, rfl, h2, r2⟩ := trodAll_cons r1
  obtain ⟨v3, vs3, d3, ds3, p3, q3, rfl, rfl, rfl, h3, r3⟩ := trodAll_cons r2
  obtain ⟨rfl, rfl, rfl⟩ := trodAll_nil r3
  obtain rfl : args = #[v0, v1, v2, v3] := by cases args; simp_all
  obtain ⟨rfl, rfl⟩ := trodVars_none hV
  have k0 := h0
  have lt0 : ∀ x ∈ p0, x.block < W.heap.size := by obtain ⟨m, hm⟩ := k0; exact DataW.trod_lt m _ _ _ hm
  obtain ⟨P0, A0, n0, c0, l0, rfl, w0, rd0, mx0⟩ := open_sys (hval 0 24 v0 rfl rfl) h0
  obtain ⟨a1, rfl, rfl, rfl, w1⟩ := open_int Try.underlying3 (hval 1 3 v1 rfl rfl) h1
  obtain ⟨a2, rfl, rfl, rfl, w2⟩ := open_int Try.underlying3 (hval 2 3 v2 rfl rfl) h2
  obtain ⟨a3, rfl, rfl, rfl, w3⟩ := open_int Try.underlying3 (hval 3 3 v3 rfl rfl) h3
  clear hA0 hval0
  refine (at_walk W P0 A0 n0 c0 l0 w0 rd0 mx0 a1 w1 a2 w2 a3 w3).mono fun e W' ⟨he, bel⟩ => ?_
  subst he
  exact ⟨_, rfl, _, _, _, [], _, [], hW', trodAll_mk1 (shut_bool Try.underlying4 _), (trodAll_cons_mk (Below.trod Law.laidOut (by kernel_rfl) (of_decide_eq_true (by kernel_rfl)) k0 bel lt0) (trodAll_cons_mk (shut_int Try.underlying3 w1) (trodAll_cons_mk (shut_int Try.underlying3 w2) (trodAll_cons_mk (shut_int Try.underlying3 w3) trodAll_mk0)))), rfl, bel.frame _, fun h => by cases h⟩

theorem gaugeAttains_over : Rows.gaugeAttainsRow.holds Try.pinned (OpenSpec.ofChange Rows.gaugeAttainsSpec) :=
  OpenClaim.holds_of_wide 8 Try.f8 rfl rfl rfl rfl rfl rfl rfl ⟨rfl, rfl, rfl, rfl, rfl⟩ rfl rfl rfl rfl rfl (by kernel_rfl) Try.func8 (by kernel_rfl)
    (of_decide_eq_true (by kernel_rfl)) (by unfold Func.isWrapper; first | (rw [if_pos (by decide +kernel)]; kernel_rfl) | (rw [if_neg (by decide +kernel)]; exact ⟨rfl, rfl⟩))
    (fun os started H enc _ => gaugeAttains_lifted os started H enc)

theorem gaugeAttains_proved : Rows.GaugeAttainsSaid := gaugeAttains_over
end Go.Proofs.Ythlnialipjihdaa
