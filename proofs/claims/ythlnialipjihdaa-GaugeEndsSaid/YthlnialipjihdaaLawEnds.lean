/- For every system and two points GaugeEnds returns true: Greatest, Least and Fixed return what the reference returns. No condition. -/
import Derived.Test.YthlnialipjihdaaRows
import Derived.Test.YthlnialipjihdaaREnds
import Derived.Test.YthlnialipjihdaaShz
set_option linter.unusedSimpArgs false
set_option linter.unusedVariables false
namespace Go.Proofs.Ythlnialipjihdaa
open Go.ChangeShapes Go.WideShapes Go.ChangeAt Go.RowKit

set_option maxRecDepth 100000 in
set_option maxHeartbeats 4000000 in
theorem en_w1 (P a b : Int) (A : Option Addr) (n k : Nat) (l : List Bnd) (w : World) (hr : RdB w A n k l) (hn : n ≤ maxLen) (hw : ¬ n ≤ 403) :
    Calls Try.prog 6 #[.agg #[.int .i64 P, .slice A n k], .int .i64 a, .int .i64 b] w fun e w' => e = .returned (.bool true) ∧ Below w.heap.size w w' := by
  go_enter Try.func6, Try.ntmps6
  have bel_1 := Lib.hid (show Below w.heap.size w w from Below.refl _ w)
  have rd_2 := Lib.hid (hr)
  clear hr
  have bel_3 := Lib.hid (Below.alloc bel_1.out (bel_1.out.size) (.cells #[.int .i64 P, .slice A n k] 24))
  clear bel_1
  have rd_4 := Lib.hid (RdB.alloc rd_2.out (.cells #[.int .i64 P, .slice A n k] 24))
  clear rd_2
  have srd_5 := Lib.hid (Blk.new w 24 #[.int .i64 P, .slice A n k])
  have hc := (show Calls Try.prog 18 #[.agg #[.int .i64 P, .slice A n k]] ((w.alloc (.cells #[.int .i64 P, .slice A n k] 24))) fun e w' => e = .returned (.bool false) ∧ Below ((w.alloc (.cells #[.int .i64 P, .slice A n k] 24))).heap.size ((w.alloc (.cells #[.int .i64 P, .slice A n k] 24))) w' from by have h := wide_any P A n k ((w.alloc (.cells #[.int .i64 P, .slice A n k] 24))); rw [show decide (n ≤ 403) = false from by simpa using hw] at h; exact h)
  have HC := Lib.hid hc; clear hc
  go_wp2_with fail
  refine HC.out.mono ?_
  rintro e w_6 ⟨rfl, hb⟩
  clear HC
  have bel_7 := Lib.hid (Below.trans bel_3.out (Below.mono hb (bel_3.out.size)))
  clear bel_3
  have rd_8 := Lib.hid (RdB.below rd_4.out hb)
  clear rd_4
  have srd_9 := Lib.hid (Blk.keep srd_5.out hb)
  clear srd_5
  clear hb
  have z_10 : (w_6).cell? ⟨w.heap.size, 0, none⟩ = some (.int .i64 P) := Blk.cell srd_9.out 0
  have z_11 : (w_6).cell? ⟨w.heap.size, 1, none⟩ = some (.slice A n k) := Blk.cell srd_9.out 1
  go_wp2_with fail
  refine (alive_ok _).mono ?_
  rintro e w_12 ⟨rfl, hb⟩
  clear z_10 z_11
  have bel_13 := Lib.hid (Below.trans bel_7.out (Below.mono hb (bel_7.out.size)))
  clear bel_7
  have rd_14 := Lib.hid (RdB.below rd_8.out hb)
  clear rd_8
  have srd_15 := Lib.hid (Blk.keep srd_9.out hb)
  clear srd_9
  clear hb
  go_wp2
  go_ret
  exact ⟨rfl, bel_13.out⟩

set_option maxRecDepth 100000 in
set_option maxHeartbeats 4000000 in
theorem en_ok (P a b : Int) (A : Option Addr) (n k : Nat) (l : List Bnd) (w : World) (hr : RdB w A n k l) (hn : n ≤ maxLen) (hw : n ≤ 403) (x1 x2 x3 q1 q2 q3 : Int) (t1 t2 t3 : Bool)
    (E1 : Hid (∀ x t q, endV P l a b true = .tuple #[.int .i64 x, .bool t, .int .i64 q] → x = x1 ∧ t = t1 ∧ q = q1)) (R1 : Hid (tup (greatT P l a b) = .tuple #[.int .i64 x1, .bool t1, .int .i64 q1]))
    (E2 : Hid (∀ x t q, endV P l a b false = .tuple #[.int .i64 x, .bool t, .int .i64 q] → x = x2 ∧ t = t2 ∧ q = q2)) (R2 : Hid (tup (leastT P l a b) = .tuple #[.int .i64 x2, .bool t2, .int .i64 q2]))
    (E3 : Hid (fixedV P l a b = (x3, t3, q3))) (R3 : Hid (tup (fixedV P l a b) = .tuple #[.int .i64 x3, .bool t3, .int .i64 q3])) :
    Calls Try.prog 6 #[.agg #[.int .i64 P, .slice A n k], .int .i64 a, .int .i64 b] w fun e w' => e = .returned (.bool true) ∧ Below w.heap.size w w' := by
  go_enter Try.func6, Try.ntmps6
  have bel_1 := Lib.hid (show Below w.heap.size w w from Below.refl _ w)
  have rd_2 := Lib.hid (hr)
  clear hr
  have bel_3 := Lib.hid (Below.alloc bel_1.out (bel_1.out.size) (.cells #[.int .i64 P, .slice A n k] 24))
  clear bel_1
  have rd_4 := Lib.hid (RdB.alloc rd_2.out (.cells #[.int .i64 P, .slice A n k] 24))
  clear rd_2
  have srd_5 := Lib.hid (Blk.new w 24 #[.int .i64 P, .slice A n k])
  have hc := (show Calls Try.prog 18 #[.agg #[.int .i64 P, .slice A n k]] ((w.alloc (.cells #[.int .i64 P, .slice A n k] 24))) fun e w' => e = .returned (.bool true) ∧ Below ((w.alloc (.cells #[.int .i64 P, .slice A n k] 24))).heap.size ((w.alloc (.cells #[.int .i64 P, .slice A n k] 24))) w' from by have h := wide_any P A n k ((w.alloc (.cells #[.int .i64 P, .slice A n k] 24))); rw [show decide (n ≤ 403) = true from by simpa using hw] at h; exact h)
  have HC := Lib.hid hc; clear hc
  go_wp2_with fail
  refine HC.out.mono ?_
  rintro e w_6 ⟨rfl, hb⟩
  clear HC
  have bel_7 := Lib.hid (Below.trans bel_3.out (Below.mono hb (bel_3.out.size)))
  clear bel_3
  have rd_8 := Lib.hid (RdB.below rd_4.out hb)
  clear rd_4
  have srd_9 := Lib.hid (Blk.keep srd_5.out hb)
  clear srd_5
  clear hb
  have z_10 : (w_6).cell? ⟨w.heap.size, 0, none⟩ = some (.int .i64 P) := Blk.cell srd_9.out 0
  have z_11 : (w_6).cell? ⟨w.heap.size, 1, none⟩ = some (.slice A n k) := Blk.cell srd_9.out 1
  go_wp2_with fail
  refine (Greatest_any P a b A n k l _ rd_8.out hn).mono ?_
  rintro e w_12 ⟨x_, t_, q_, rfl, hv_, hb⟩
  clear z_10 z_11
  have bel_13 := Lib.hid (Below.trans bel_7.out (Below.mono hb (bel_7.out.size)))
  clear bel_7
  have rd_14 := Lib.hid (RdB.below rd_8.out hb)
  clear rd_8
  have srd_15 := Lib.hid (Blk.keep srd_9.out hb)
  clear srd_9
  clear hb
  obtain ⟨rfl, rfl, rfl⟩ := E1.out _ _ _ hv_; clear hv_
  have z_16 : (w_12).cell? ⟨w.heap.size, 0, none⟩ = some (.int .i64 P) := Blk.cell srd_15.out 0
  have z_17 : (w_12).cell? ⟨w.heap.size, 1, none⟩ = some (.slice A n k) := Blk.cell srd_15.out 1
  have hc := rGreatest_any P a b A n k l _ rd_14.out hn
  rw [R1.out] at hc
  try dsimp only at hc
  have HC := Lib.hid hc; clear hc
  go_wp2_with fail
  refine HC.out.mono ?_
  rintro e w_18 ⟨rfl, hb⟩
  clear HC
  clear z_16 z_17
  have bel_19 := Lib.hid (Below.trans bel_13.out (Below.mono hb (bel_13.out.size)))
  clear bel_13
  have rd_20 := Lib.hid (RdB.below rd_14.out hb)
  clear rd_14
  have srd_21 := Lib.hid (Blk.keep srd_15.out hb)
  clear srd_15
  clear hb
  have z_22 : (w_18).cell? ⟨w.heap.size, 0, none⟩ = some (.int .i64 P) := Blk.cell srd_21.out 0
  have z_23 : (w_18).cell? ⟨w.heap.size, 1, none⟩ = some (.slice A n k) := Blk.cell srd_21.out 1
  go_wp2_with fail
  refine (Least_any P a b A n k l _ rd_20.out hn).mono ?_
  rintro e w_24 ⟨x_, t_, q_, rfl, hv_, hb⟩
  clear z_22 z_23
  have bel_25 := Lib.hid (Below.trans bel_19.out (Below.mono hb (bel_19.out.size)))
  clear bel_19
  have rd_26 := Lib.hid (RdB.below rd_20.out hb)
  clear rd_20
  have srd_27 := Lib.hid (Blk.keep srd_21.out hb)
  clear srd_21
  clear hb
  obtain ⟨rfl, rfl, rfl⟩ := E2.out _ _ _ hv_; clear hv_
  have z_28 : (w_24).cell? ⟨w.heap.size, 0, none⟩ = some (.int .i64 P) := Blk.cell srd_27.out 0
  have z_29 : (w_24).cell? ⟨w.heap.size, 1, none⟩ = some (.slice A n k) := Blk.cell srd_27.out 1
  have hc := rLeast_any P a b A n k l _ rd_26.out hn
  rw [R2.out] at hc
  try dsimp only at hc
  have HC := Lib.hid hc; clear hc
  go_wp2_with fail
  refine HC.out.mono ?_
  rintro e w_30 ⟨rfl, hb⟩
  clear HC
  clear z_28 z_29
  have bel_31 := Lib.hid (Below.trans bel_25.out (Below.mono hb (bel_25.out.size)))
  clear bel_25
  have rd_32 := Lib.hid (RdB.below rd_26.out hb)
  clear rd_26
  have srd_33 := Lib.hid (Blk.keep srd_27.out hb)
  clear srd_27
  clear hb
  have z_34 : (w_30).cell? ⟨w.heap.size, 0, none⟩ = some (.int .i64 P) := Blk.cell srd_33.out 0
  have z_35 : (w_30).cell? ⟨w.heap.size, 1, none⟩ = some (.slice A n k) := Blk.cell srd_33.out 1
  have hc := Fixed_any P a b A n k l _ rd_32.out hn
  rw [E3.out] at hc
  try dsimp only at hc
  have HC := Lib.hid hc; clear hc
  go_wp2_with fail
  refine HC.out.mono ?_
  rintro e w_36 ⟨rfl, hb⟩
  clear HC
  clear z_34 z_35
  have bel_37 := Lib.hid (Below.trans bel_31.out (Below.mono hb (bel_31.out.size)))
  clear bel_31
  have rd_38 := Lib.hid (RdB.below rd_32.out hb)
  clear rd_32
  have srd_39 := Lib.hid (Blk.keep srd_33.out hb)
  clear srd_33
  clear hb
  have z_40 : (w_36).cell? ⟨w.heap.size, 0, none⟩ = some (.int .i64 P) := Blk.cell srd_39.out 0
  have z_41 : (w_36).cell? ⟨w.heap.size, 1, none⟩ = some (.slice A n k) := Blk.cell srd_39.out 1
  have hc := rFixed_any P a b A n k l _ rd_38.out hn
  rw [R3.out] at hc
  try dsimp only at hc
  have HC := Lib.hid hc; clear hc
  go_wp2_with fail
  refine HC.out.mono ?_
  rintro e w_42 ⟨rfl, hb⟩
  clear HC
  clear z_40 z_41
  have bel_43 := Lib.hid (Below.trans bel_37.out (Below.mono hb (bel_37.out.size)))
  clear bel_37
  have rd_44 := Lib.hid (RdB.below rd_38.out hb)
  clear rd_38
  have srd_45 := Lib.hid (Blk.keep srd_39.out hb)
  clear srd_39
  clear hb
  have z_46 : (w_42).cell? ⟨w.heap.size, 0, none⟩ = some (.int .i64 P) := Blk.cell srd_45.out 0
  have z_47 : (w_42).cell? ⟨w.heap.size, 1, none⟩ = some (.slice A n k) := Blk.cell srd_45.out 1
  go_wp2_with fail
  refine (alive_ok _).mono ?_
  rintro e w_48 ⟨rfl, hb⟩
  clear z_46 z_47
  have bel_49 := Lib.hid (Below.trans bel_43.out (Below.mono hb (bel_43.out.size)))
  clear bel_43
  have rd_50 := Lib.hid (RdB.below rd_44.out hb)
  clear rd_44
  have srd_51 := Lib.hid (Blk.keep srd_45.out hb)
  clear srd_45
  clear hb
  go_wp2
  go_ret
  exact ⟨rfl, bel_49.out⟩

theorem en_walk (w : World) (P : Int) (A : Option Addr) (n k : Nat) (l : List Bnd) (_ : (Lit.int .i64 P).wf = true) (hr : RdB w A n k l) (hn : n ≤ maxLen) (a : Int) (_ : (Lit.int .i64 a).wf = true) (b : Int) (_ : (Lit.int .i64 b).wf = true) :
    Calls Try.prog 6 #[.agg #[.int .i64 P, .slice A n k], .int .i64 a, .int .i64 b] w fun e w' => e = .returned (.bool true) ∧ Below w.heap.size w w' := by
  by_cases hw : n ≤ 403
  · exact en_ok P a b A n k l w hr hn hw _ _ _ _ _ _ _ _ _ (Lib.hid fun x t q h => tup_inj (endV_great P l a b ▸ h)) (Lib.hid rfl) (Lib.hid fun x t q h => tup_inj (endV_least P l a b ▸ h)) (Lib.hid rfl) (Lib.hid rfl) (Lib.hid rfl)
  · exact en_w1 P a b A n k l w hr hn hw

set_option maxRecDepth 100000 in
theorem gaugeEnds_lifted (os : Os) (started : os.Started) (H : Type) (enc : TypeId × Value → H) :
    ReturnsInHanded {} Try.checked os 6 .any (Rows.gaugeEndsSpec.pre6 enc Try.prog Try.f6 Rows.gaugeEndsRow.domain false) (Rows.gaugeEndsSpec.post enc Try.prog Try.f6 false true false false) := by
  refine returnsInHanded_of_change (C := Try.checked) Law.own started (by kernel_rfl) Try.func6
    (ChangeSpec.witness6 (enc := enc) (C := Try.checked) false ⟨#[], #[.agg #[.int .i64 0, .slice none 0 0], .int .i64 0, .int .i64 0], []⟩ 8 (by kernel_rfl) (by kernel_rfl) (by kernel_rfl) (by kernel_rfl)) ?_
  intro W base args ds gs before hval0 hW hcnd _
  have hval : ∀ (j : Nat) t v, Try.f6.params[j]? = some t → args[j]? = some v → Value.okWide Try.prog W .any base t v := hval0
  have hW' := hW
  obtain ⟨p, q, hA0, hV, rfl, hfz, hnd⟩ := hW
  have hA : DataW.TrodAll enc Try.prog W 0 (fun _ => true) true Try.f6.params.toList args.toList ds p := hA0
  rw [Try.params6] at hA hval
  obtain ⟨v0, vs0, d0, ds0, p0, q0, hargs, rfl, rfl, h0, r0⟩ := trodAll_cons hA
  obtain ⟨v1, vs1, d1, ds1, p1, q1, rfl, rfl, rfl, h1, r1⟩ := trodAll_cons r0
  obtain ⟨v2, vs2, d2, ds2, p2, q2, rfl, rfl, rfl, h2, r2⟩ := trodAll_cons r1
  obtain ⟨rfl, rfl, rfl⟩ := trodAll_nil r2
  obtain rfl : args = #[v0, v1, v2] := by cases args; simp_all
  obtain ⟨rfl, rfl⟩ := trodVars_none hV
  have k0 := h0
  have lt0 : ∀ x ∈ p0, x.block < W.heap.size := by obtain ⟨m, hm⟩ := k0; exact DataW.trod_lt m _ _ _ hm
  obtain ⟨P0, A0, n0, c0, l0, rfl, w0, rd0, mx0⟩ := open_sys (hval 0 24 v0 rfl rfl) h0
  obtain ⟨a1, rfl, rfl, rfl, w1⟩ := open_int Try.underlying3 (hval 1 3 v1 rfl rfl) h1
  obtain ⟨a2, rfl, rfl, rfl, w2⟩ := open_int Try.underlying3 (hval 2 3 v2 rfl rfl) h2
  clear hA0 hval0
  refine (en_walk W P0 A0 n0 c0 l0 w0 rd0 mx0 a1 w1 a2 w2).mono fun e W' ⟨he, bel⟩ => ?_
  subst he
  exact ⟨_, rfl, _, _, _, [], _, [], hW', trodAll_mk1 (shut_bool Try.underlying4 _), (trodAll_cons_mk (Below.trod Law.laidOut (by kernel_rfl) (of_decide_eq_true (by kernel_rfl)) k0 bel lt0) (trodAll_cons_mk (shut_int Try.underlying3 w1) (trodAll_cons_mk (shut_int Try.underlying3 w2) trodAll_mk0))), rfl, bel.frame _, fun h => by cases h⟩

theorem gaugeEnds_over : Rows.gaugeEndsRow.holds Try.pinned (OpenSpec.ofChange Rows.gaugeEndsSpec) :=
  OpenClaim.holds_of_wide 6 Try.f6 rfl rfl rfl rfl rfl rfl rfl ⟨rfl, rfl, rfl, rfl, rfl⟩ rfl rfl rfl rfl rfl (by kernel_rfl) Try.func6 (by kernel_rfl)
    (of_decide_eq_true (by kernel_rfl)) (by unfold Func.isWrapper; first | (rw [if_pos (by decide +kernel)]; kernel_rfl) | (rw [if_neg (by decide +kernel)]; exact ⟨rfl, rfl⟩))
    (fun os started H enc _ => gaugeEnds_lifted os started H enc)

theorem gaugeEnds_proved : Rows.GaugeEndsSaid := gaugeEnds_over
end Go.Proofs.Ythlnialipjihdaa
