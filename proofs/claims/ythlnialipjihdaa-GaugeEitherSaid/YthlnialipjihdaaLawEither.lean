/- For every system, list of numbers and list of indices GaugeEither returns true: there is a solution or a circle that contradicts itself, never both. No condition. -/
import Derived.Test.YthlnialipjihdaaRows
import Derived.Test.YthlnialipjihdaaEither
set_option linter.unusedSimpArgs false
set_option linter.unusedVariables false
namespace Go.Proofs.Ythlnialipjihdaa
open Go.ChangeShapes Go.WideShapes Go.ChangeAt Go.RowKit

theorem circleL_length {l : List Bnd} {P : Nat} : (circleL l P).length ≤ P := by
  unfold circleL circleO
  rw [List.length_map]
  cases hsc : scanR l P P 0 with
  | none => exact Nat.zero_le _
  | some z =>
    have := scanR_some hsc
    simp only [Option.map_some, Option.getD_some, backL_length]
    omega

theorem keeps_code {p : Int} {l : List Bnd} {x : List Int} (hk : chk p l = 0) : (keepsV p l x).2 = 0 ∨ (keepsV p l x).2 = 1 := by
  unfold keepsV breaksV
  rw [if_neg (by simpa using hk)]
  by_cases hn : nums p x = false
  · rw [if_pos hn]; exact .inr rfl
  · rw [if_neg hn]
    cases l.findIdx? (fun b => !keepB x b) with
    | some i => exact .inl rfl
    | none => exact .inl rfl

theorem ei_walk (w : World) (P : Int) (A : Option Addr) (n k : Nat) (l : List Bnd) (_ : (Lit.int .i64 P).wf = true) (hr : RdB w A n k l) (hn : n ≤ maxLen) (B : Option Addr) (m d : Nat) (x : List Int) (hx : RdI w B m d x) (hm : m ≤ maxLen) (_ : ∀ v ∈ x, (Lit.int .i64 v).wf = true)
    (C : Option Addr) (m2 d2 : Nat) (y : List Int) (hy : RdI w C m2 d2 y) (hm2 : m2 ≤ maxLen) (_ : ∀ v ∈ y, (Lit.int .i64 v).wf = true) :
    Calls Try.prog 11 #[.agg #[.int .i64 P, .slice A n k], .slice B m d, .slice C m2 d2] w fun e w' => e = .returned (.bool true) ∧ Below w.heap.size w w' := by
  by_cases hw : n ≤ 403
  · by_cases h7 : m ≤ 70
    · by_cases h8 : m2 ≤ 70
      · by_cases hg : gcode P l [] = 0
        · obtain ⟨hk, -⟩ := gcode_ok hg
          obtain ⟨hp1, hp2, hlen, -⟩ := chk_ok hk
          cases hz : settle l P.toNat zeros with
          | some z =>
            obtain ⟨hzl, -⟩ := sol_spec hk hz
            have e1 : solveV P l = (z.take P.toNat, true, 0) := by unfold solveV; rw [if_pos hg, hz]
            have ho := no_circle hk hz
            have e2 : circleV P l = ([], false, 0) := by unfold circleV circleL; rw [if_pos hg, ho]; rfl
            exact ei_sol P A n k l w hr hn B m d x hx hm C m2 d2 y hy hm2 hw h7 h8 (z.take P.toNat) (by rw [List.length_take]; omega) (Lib.hid e1) (Lib.hid e2) (Lib.hid (sol_kept hk hz)) (Lib.hid (circle_no y hk hz))
          | none =>
            have e1 : solveV P l = ([], false, 0) := by unfold solveV; rw [if_pos hg, hz]
            cases ho : circleO l P.toNat with
            | none =>
              have := solution_of hk ho
              rw [hz] at this
              cases this
            | some r =>
              have e2 : circleV P l = (circleL l P.toNat, true, 0) := by unfold circleV; rw [if_pos hg, ho]; rfl
              have e3 : checkCircleV P l (circleL l P.toNat) = (true, 0) := by
                have := circle_ok hk ho
                unfold circleL
                rw [ho]
                exact this
              have e4 := kept_no (y := x) e3
              have hL : (circleL l P.toNat).length ≤ 60 := by have := circleL_length (l := l) (P := P.toNat); omega
              rcases keeps_code (x := x) hk with h | h
              · exact ei_circ0 P A n k l w hr hn B m d x hx hm C m2 d2 y hy hm2 hw h7 h8 _ hL (Lib.hid e1) (Lib.hid e2) (Lib.hid e3) (Lib.hid (Prod.ext e4 h))
              · exact ei_circ1 P A n k l w hr hn B m d x hx hm C m2 d2 y hy hm2 hw h7 h8 _ hL (Lib.hid e1) (Lib.hid e2) (Lib.hid e3) (Lib.hid (Prod.ext e4 h))
        · exact ei_err P A n k l w hr hn B m d x hx hm C m2 d2 y hy hm2 hw h7 h8 (gcode P l []) (by simpa using hg) (Lib.hid (by unfold solveV; rw [if_neg hg])) (Lib.hid (by unfold circleV; rw [if_neg hg]))
      · exact ei_w3 P A n k l w hr hn B m d x hx hm C m2 d2 y hy hm2 hw h7 (by omega)
    · exact ei_w2 P A n k l w hr hn B m d x hx hm C m2 d2 y hy hm2 hw (by omega)
  · exact ei_w1 P A n k l w hr hn B m d x hx hm C m2 d2 y hy hm2 hw

set_option maxRecDepth 100000 in
theorem gaugeEither_lifted (os : Os) (started : os.Started) (H : Type) (enc : TypeId × Value → H) :
    ReturnsInHanded {} Try.checked os 11 .any (Rows.gaugeEitherSpec.pre6 enc Try.prog Try.f11 Rows.gaugeEitherRow.domain false) (Rows.gaugeEitherSpec.post enc Try.prog Try.f11 false true false false) := by
  refine returnsInHanded_of_change (C := Try.checked) Law.own started (by kernel_rfl) Try.func11
    (ChangeSpec.witness6 (enc := enc) (C := Try.checked) false ⟨#[], #[.agg #[.int .i64 0, .slice none 0 0], .slice none 0 0, .slice none 0 0], []⟩ 8 (by kernel_rfl) (by kernel_rfl) (by kernel_rfl) (by kernel_rfl)) ?_
  intro W base args ds gs before hval0 hW hcnd _
  have hval : ∀ (j : Nat) t v, Try.f11.params[j]? = some t → args[j]? = some v → Value.okWide Try.prog W .any base t v := hval0
  have hW' := hW
  obtain ⟨p, q, hA0, hV, rfl, hfz, hnd⟩ := hW
  have hA : DataW.TrodAll enc Try.prog W 0 (fun _ => true) true Try.f11.params.toList args.toList ds p := hA0
  rw [Try.params11] at hA hval
  obtain ⟨v0, vs0, d0, ds0, p0, q0, hargs, rfl, rfl, h0, r0⟩ := trodAll_cons hA
  obtain ⟨v1, vs1, d1, ds1, p1, q1, rfl, rfl, rfl, h1, r1⟩ := trodAll_cons r0
  obtain ⟨v2, vs2, d2, ds2, p2, q2, rfl, rfl, rfl, h2, r2⟩ := trodAll_cons r1
  obtain ⟨rfl, rfl, rfl⟩ := trodAll_nil r2
  obtain rfl : args = #[v0, v1, v2] := by cases args; simp_all
  obtain ⟨rfl, rfl⟩ := trodVars_none hV
  have k0 := h0
  have lt0 : ∀ x ∈ p0, x.block < W.heap.size := by obtain ⟨m, hm⟩ := k0; exact DataW.trod_lt m _ _ _ hm
  obtain ⟨P0, A0, n0, c0, l0, rfl, w0, rd0, mx0⟩ := open_sys (hval 0 24 v0 rfl rfl) h0
  have k1 := h1
  have lt1 : ∀ x ∈ p1, x.block < W.heap.size := by obtain ⟨m, hm⟩ := k1; exact DataW.trod_lt m _ _ _ hm
  obtain ⟨A1, n1, c1, l1, rfl, rd1, mx1, w1⟩ := open_nums (hval 1 33 v1 rfl rfl) h1
  have k2 := h2
  have lt2 : ∀ x ∈ p2, x.block < W.heap.size := by obtain ⟨m, hm⟩ := k2; exact DataW.trod_lt m _ _ _ hm
  obtain ⟨A2, n2, c2, l2, rfl, rd2, mx2, w2⟩ := open_nums (hval 2 33 v2 rfl rfl) h2
  clear hA0 hval0
  refine (ei_walk W P0 A0 n0 c0 l0 w0 rd0 mx0 A1 n1 c1 l1 rd1 mx1 w1 A2 n2 c2 l2 rd2 mx2 w2).mono fun e W' ⟨he, bel⟩ => ?_
  subst he
  exact ⟨_, rfl, _, _, _, [], _, [], hW', trodAll_mk1 (shut_bool Try.underlying4 _), (trodAll_cons_mk (Below.trod Law.laidOut (by kernel_rfl) (of_decide_eq_true (by kernel_rfl)) k0 bel lt0) (trodAll_cons_mk (Below.trod Law.laidOut (by kernel_rfl) (of_decide_eq_true (by kernel_rfl)) k1 bel lt1) (trodAll_cons_mk (Below.trod Law.laidOut (by kernel_rfl) (of_decide_eq_true (by kernel_rfl)) k2 bel lt2) trodAll_mk0))), rfl, bel.frame _, fun h => by cases h⟩

theorem gaugeEither_over : Rows.gaugeEitherRow.holds Try.pinned (OpenSpec.ofChange Rows.gaugeEitherSpec) :=
  OpenClaim.holds_of_wide 11 Try.f11 rfl rfl rfl rfl rfl rfl rfl ⟨rfl, rfl, rfl, rfl, rfl⟩ rfl rfl rfl rfl rfl (by kernel_rfl) Try.func11 (by kernel_rfl)
    (of_decide_eq_true (by kernel_rfl)) (by unfold Func.isWrapper; first | (rw [if_pos (by decide +kernel)]; kernel_rfl) | (rw [if_neg (by decide +kernel)]; exact ⟨rfl, rfl⟩))
    (fun os started H enc _ => gaugeEither_lifted os started H enc)

theorem gaugeEither_proved : Rows.GaugeEitherSaid := gaugeEither_over
end Go.Proofs.Ythlnialipjihdaa
