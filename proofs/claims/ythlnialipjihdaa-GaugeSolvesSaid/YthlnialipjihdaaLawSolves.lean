/- For every system GaugeSolves returns true: Solve returns what the reference returns. No condition. -/
import Derived.Test.YthlnialipjihdaaRows
import Derived.Test.YthlnialipjihdaaRSolve
import Derived.Test.YthlnialipjihdaaShz
set_option linter.unusedSimpArgs false
set_option linter.unusedVariables false
namespace Go.Proofs.Ythlnialipjihdaa
open Go.ChangeShapes Go.WideShapes Go.ChangeAt Go.RowKit

set_option maxRecDepth 100000 in
set_option maxHeartbeats 4000000 in
theorem so_w1 (P : Int) (A : Option Addr) (n k : Nat) (l : List Bnd) (w : World) (hr : RdB w A n k l) (hn : n ≤ maxLen) (hw : ¬ n ≤ 403) :
    Calls Try.prog 4 #[.agg #[.int .i64 P, .slice A n k]] w fun e w' => e = .returned (.bool true) ∧ Below w.heap.size w w' := by
  go_enter Try.func4, Try.ntmps4
  have bel_1 := Lib.hid (show Below w.heap.size w w from Below.refl _ w)
  have rd_2 := Lib.hid (hr)
  clear hr
  have bel_3 := Lib.hid (Below.alloc bel_1.out (bel_1.out.size) (.cells #[.int .i64 P, .slice A n k] 24))
  clear bel_1
  have rd_4 := Lib.hid (RdB.alloc rd_2.out (.cells #[.int .i64 P, .slice A n k] 24))
  clear rd_2
  have srd_5 := Lib.hid (Blk.new w 24 #[.int .i64 P, .slice A n k])
  have hc := (show Calls Try.prog 18 #[.agg #[.int .i64 P, .slice A n k]] ((w.alloc (.cells #[.int .i64 P, .slice A n k] 24))) fun e w' => e = .returned (.bool false) ∧ Below ((w.alloc (.cells #[.int .i64 P, .slice A n k] 24))).heap.size ((w.alloc (.cells #[.int .i64 P, .slice A n k] 24))) w' from by have h := wide_any P A n k ((w.alloc (.cells #[.int .i64 P, .slice A n k] 24))); rw [show decide (n ≤ 403) = false from by simpa using hw] at h; exact h)
  have HC := Lib.hid hc; clear hc
  go_wp2_with fail
  refine HC.out.mono ?_
  rintro e w_6 ⟨rfl, hb⟩
  clear HC
  have bel_7 := Lib.hid (Below.trans bel_3.out (Below.mono hb (bel_3.out.size)))
  clear bel_3
  have rd_8 := Lib.hid (RdB.below rd_4.out hb)
  clear rd_4
  have srd_9 := Lib.hid (Blk.keep srd_5.out hb)
  clear srd_5
  clear hb
  have z_10 : (w_6).cell? ⟨w.heap.size, 0, none⟩ = some (.int .i64 P) := Blk.cell srd_9.out 0
  have z_11 : (w_6).cell? ⟨w.heap.size, 1, none⟩ = some (.slice A n k) := Blk.cell srd_9.out 1
  go_wp2_with fail
  refine (alive_ok _).mono ?_
  rintro e w_12 ⟨rfl, hb⟩
  clear z_10 z_11
  have bel_13 := Lib.hid (Below.trans bel_7.out (Below.mono hb (bel_7.out.size)))
  clear bel_7
  have rd_14 := Lib.hid (RdB.below rd_8.out hb)
  clear rd_8
  have srd_15 := Lib.hid (Blk.keep srd_9.out hb)
  clear srd_9
  clear hb
  go_wp2
  go_ret
  exact ⟨rfl, bel_13.out⟩

set_option maxRecDepth 100000 in
set_option maxHeartbeats 4000000 in
theorem so_ok (P : Int) (A : Option Addr) (n k : Nat) (l : List Bnd) (w : World) (hr : RdB w A n k l) (hn : n ≤ maxLen) (hw : n ≤ 403) (Z : List Int) (hZ : Z.length ≤ 60) (b : Bool) (q : Int) (E1 : Hid (solveV P l = (Z, b, q))) :
    Calls Try.prog 4 #[.agg #[.int .i64 P, .slice A n k]] w fun e w' => e = .returned (.bool true) ∧ Below w.heap.size w w' := by
  go_enter Try.func4, Try.ntmps4
  have bel_1 := Lib.hid (show Below w.heap.size w w from Below.refl _ w)
  have rd_2 := Lib.hid (hr)
  clear hr
  have bel_3 := Lib.hid (Below.alloc bel_1.out (bel_1.out.size) (.cells #[.int .i64 P, .slice A n k] 24))
  clear bel_1
  have rd_4 := Lib.hid (RdB.alloc rd_2.out (.cells #[.int .i64 P, .slice A n k] 24))
  clear rd_2
  have srd_5 := Lib.hid (Blk.new w 24 #[.int .i64 P, .slice A n k])
  have hc := (show Calls Try.prog 18 #[.agg #[.int .i64 P, .slice A n k]] ((w.alloc (.cells #[.int .i64 P, .slice A n k] 24))) fun e w' => e = .returned (.bool true) ∧ Below ((w.alloc (.cells #[.int .i64 P, .slice A n k] 24))).heap.size ((w.alloc (.cells #[.int .i64 P, .slice A n k] 24))) w' from by have h := wide_any P A n k ((w.alloc (.cells #[.int .i64 P, .slice A n k] 24))); rw [show decide (n ≤ 403) = true from by simpa using hw] at h; exact h)
  have HC := Lib.hid hc; clear hc
  go_wp2_with fail
  refine HC.out.mono ?_
  rintro e w_6 ⟨rfl, hb⟩
  clear HC
  have bel_7 := Lib.hid (Below.trans bel_3.out (Below.mono hb (bel_3.out.size)))
  clear bel_3
  have rd_8 := Lib.hid (RdB.below rd_4.out hb)
  clear rd_4
  have srd_9 := Lib.hid (Blk.keep srd_5.out hb)
  clear srd_5
  clear hb
  have z_10 : (w_6).cell? ⟨w.heap.size, 0, none⟩ = some (.int .i64 P) := Blk.cell srd_9.out 0
  have z_11 : (w_6).cell? ⟨w.heap.size, 1, none⟩ = some (.slice A n k) := Blk.cell srd_9.out 1
  have hc := Solve_any P A n k l _ rd_8.out hn
  rw [E1.out] at hc
  unfold RetI at hc; dsimp only at hc
  have HC := Lib.hid hc; clear hc
  go_wp2_with fail
  refine HC.out.mono ?_
  rintro e w_12 ⟨Az, nz, cz, rfl, ho, hb⟩
  clear HC
  clear z_10 z_11
  have ow_13 := Lib.hid (owns_base ho (bel_7.out.size))
  have bel_14 := Lib.hid (Below.trans bel_7.out (Below.mono hb (bel_7.out.size)))
  clear bel_7
  have rd_15 := Lib.hid (RdB.below rd_8.out hb)
  clear rd_8
  have srd_16 := Lib.hid (Blk.keep srd_9.out hb)
  clear srd_9
  have z_17 := Lib.hid ((OwnI.rd ho).1)
  obtain rfl : nz = Z.length := z_17.out.len.symm
  clear ho hb
  have z_18 : (w_12).cell? ⟨w.heap.size, 0, none⟩ = some (.int .i64 P) := Blk.cell srd_16.out 0
  have z_19 : (w_12).cell? ⟨w.heap.size, 1, none⟩ = some (.slice A n k) := Blk.cell srd_16.out 1
  have hc := rSolve_any P A n k l _ rd_15.out hn
  rw [E1.out] at hc
  unfold RetI at hc; dsimp only at hc
  have HC := Lib.hid hc; clear hc
  go_wp2_with fail
  refine HC.out.mono ?_
  rintro e w_20 ⟨Ay, ny, cy, rfl, ho, hb⟩
  clear HC
  clear z_18 z_19
  have ow_21 := Lib.hid (owns_base ho (bel_14.out.size))
  have bel_22 := Lib.hid (Below.trans bel_14.out (Below.mono hb (bel_14.out.size)))
  clear bel_14
  have rd_23 := Lib.hid (RdB.below rd_15.out hb)
  clear rd_15
  have srd_24 := Lib.hid (Blk.keep srd_16.out hb)
  clear srd_16
  have ownz_25 := Lib.hid (owns_below ow_13.out hb)
  clear ow_13
  have z_26 := Lib.hid (RdI.below z_17.out hb)
  clear z_17
  have y_27 := Lib.hid ((OwnI.rd ho).1)
  obtain rfl : ny = Z.length := y_27.out.len.symm
  clear ho hb
  have z_28 : (w_20).cell? ⟨w.heap.size, 0, none⟩ = some (.int .i64 P) := Blk.cell srd_24.out 0
  have z_29 : (w_20).cell? ⟨w.heap.size, 1, none⟩ = some (.slice A n k) := Blk.cell srd_24.out 1
  go_wp2_with fail
  refine (alive_ok _).mono ?_
  rintro e w_30 ⟨rfl, hb⟩
  clear z_28 z_29
  have bel_31 := Lib.hid (Below.trans bel_22.out (Below.mono hb (bel_22.out.size)))
  clear bel_22
  have rd_32 := Lib.hid (RdB.below rd_23.out hb)
  clear rd_23
  have srd_33 := Lib.hid (Blk.keep srd_24.out hb)
  clear srd_24
  have ownz_34 := Lib.hid (owns_below ownz_25.out hb)
  clear ownz_25
  have z_35 := Lib.hid (RdI.below z_26.out hb)
  clear z_26
  have owny_36 := Lib.hid (owns_below ow_21.out hb)
  clear ow_21
  have y_37 := Lib.hid (RdI.below y_27.out hb)
  clear y_27
  clear hb
  go_wp2_with fail
  refine (Same_yes Az Ay Z.length cz Z.length cy Z _ z_35.out y_37.out (by unfold maxLen; omega)).mono ?_
  rintro e w_38 ⟨rfl, hb⟩
  have bel_39 := Lib.hid (Below.trans bel_31.out (Below.mono hb (bel_31.out.size)))
  clear bel_31
  have rd_40 := Lib.hid (RdB.below rd_32.out hb)
  clear rd_32
  have srd_41 := Lib.hid (Blk.keep srd_33.out hb)
  clear srd_33
  have ownz_42 := Lib.hid (owns_below ownz_34.out hb)
  clear ownz_34
  have z_43 := Lib.hid (RdI.below z_35.out hb)
  clear z_35
  have owny_44 := Lib.hid (owns_below owny_36.out hb)
  clear owny_36
  have y_45 := Lib.hid (RdI.below y_37.out hb)
  clear y_37
  clear hb
  go_wp2
  go_ret
  exact ⟨rfl, bel_39.out⟩

theorem solveV_length {P : Int} {l : List Bnd} : (solveV P l).1.length ≤ 60 := by
  unfold solveV
  by_cases hg : gcode P l [] = 0
  · obtain ⟨hk, -⟩ := gcode_ok hg
    obtain ⟨hp1, hp2, -, -⟩ := chk_ok hk
    rw [if_pos hg]
    cases settle l P.toNat zeros with
    | none => simp
    | some z => simp only [List.length_take]; omega
  · rw [if_neg hg]; simp

theorem so_walk (w : World) (P : Int) (A : Option Addr) (n k : Nat) (l : List Bnd) (_ : (Lit.int .i64 P).wf = true) (hr : RdB w A n k l) (hn : n ≤ maxLen) :
    Calls Try.prog 4 #[.agg #[.int .i64 P, .slice A n k]] w fun e w' => e = .returned (.bool true) ∧ Below w.heap.size w w' := by
  by_cases hw : n ≤ 403
  · exact so_ok P A n k l w hr hn hw _ solveV_length _ _ (Lib.hid rfl)
  · exact so_w1 P A n k l w hr hn hw

set_option maxRecDepth 100000 in
theorem gaugeSolves_lifted (os : Os) (started : os.Started) (H : Type) (enc : TypeId × Value → H) :
    ReturnsInHanded {} Try.checked os 4 .any (Rows.gaugeSolvesSpec.pre6 enc Try.prog Try.f4 Rows.gaugeSolvesRow.domain false) (Rows.gaugeSolvesSpec.post enc Try.prog Try.f4 false true false false) := by
  refine returnsInHanded_of_change (C := Try.checked) Law.own started (by kernel_rfl) Try.func4
    (ChangeSpec.witness6 (enc := enc) (C := Try.checked) false ⟨#[], #[.agg #[.int .i64 0, .slice none 0 0]], []⟩ 8 (by kernel_rfl) (by kernel_rfl) (by kernel_rfl) (by kernel_rfl)) ?_
  intro W base args ds gs before hval0 hW hcnd _
  have hval : ∀ (j : Nat) t v, Try.f4.params[j]? = some t → args[j]? = some v → Value.okWide Try.prog W .any base t v := hval0
  have hW' := hW
  obtain ⟨p, q, hA0, hV, rfl, hfz, hnd⟩ := hW
  have hA : DataW.TrodAll enc Try.prog W 0 (fun _ => true) true Try.f4.params.toList args.toList ds p := hA0
  rw [Try.params4] at hA hval
  obtain ⟨v0, vs0, d0, ds0, p0, q0, hargs, rfl, rfl, h0, r0⟩ := trodAll_cons hA
  obtain ⟨rfl, rfl, rfl⟩ := trodAll_nil r0
  obtain rfl : args = #[v0] := by cases args; simp_all
  obtain ⟨rfl, rfl⟩ := trodVars_none hV
  have k0 := h0
  have lt0 : ∀ x ∈ p0, x.block < W.heap.size := by obtain ⟨m, hm⟩ := k0; exact DataW.trod_lt m _ _ _ hm
  obtain ⟨P0, A0, n0, c0, l0, rfl, w0, rd0, mx0⟩ := open_sys (hval 0 24 v0 rfl rfl) h0
  clear hA0 hval0
  refine (so_walk W P0 A0 n0 c0 l0 w0 rd0 mx0).mono fun e W' ⟨he, bel⟩ => ?_
  subst he
  exact ⟨_, rfl, _, _, _, [], _, [], hW', trodAll_mk1 (shut_bool Try.underlying4 _), (trodAll_cons_mk (Below.trod Law.laidOut (by kernel_rfl) (of_decide_eq_true (by kernel_rfl)) k0 bel lt0) trodAll_mk0), rfl, bel.frame _, fun h => by cases h⟩

theorem gaugeSolves_over : Rows.gaugeSolvesRow.holds Try.pinned (OpenSpec.ofChange Rows.gaugeSolvesSpec) :=
  OpenClaim.holds_of_wide 4 Try.f4 rfl rfl rfl rfl rfl rfl rfl ⟨rfl, rfl, rfl, rfl, rfl⟩ rfl rfl rfl rfl rfl (by kernel_rfl) Try.func4 (by kernel_rfl)
    (of_decide_eq_true (by kernel_rfl)) (by unfold Func.isWrapper; first | (rw [if_pos (by decide +kernel)]; kernel_rfl) | (rw [if_neg (by decide +kernel)]; exact ⟨rfl, rfl⟩))
    (fun os started H enc _ => gaugeSolves_lifted os started H enc)

theorem gaugeSolves_proved : Rows.GaugeSolvesSaid := gaugeSolves_over
end Go.Proofs.Ythlnialipjihdaa
