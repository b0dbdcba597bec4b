/- For every system and three points GaugeTriangles returns true: the least difference is the greatest one the other way round, and differences by way of a third point are at most the sums. No condition. -/
import Derived.Test.YthlnialipjihdaaRows
import Derived.Test.YthlnialipjihdaaTri
import Derived.Test.YthlnialipjihdaaShz
set_option linter.unusedSimpArgs false
set_option linter.unusedVariables false
namespace Go.Proofs.Ythlnialipjihdaa
open Go.ChangeShapes Go.WideShapes Go.ChangeAt Go.RowKit

theorem fin_low {n : Int} (h : n = Inf ∨ (-6000000000 ≤ n ∧ n ≤ 6000000000)) : -6000000000 ≤ fin n ∧ fin n ≤ 6000000000 := by
  unfold fin
  split
  · omega
  · omega

theorem tri_walk (w : World) (P : Int) (A : Option Addr) (n k : Nat) (l : List Bnd) (_ : (Lit.int .i64 P).wf = true) (hr : RdB w A n k l) (hn : n ≤ maxLen) (a : Int) (_ : (Lit.int .i64 a).wf = true) (b : Int) (_ : (Lit.int .i64 b).wf = true) (c : Int) (_ : (Lit.int .i64 c).wf = true) :
    Calls Try.prog 13 #[.agg #[.int .i64 P, .slice A n k], .int .i64 a, .int .i64 b, .int .i64 c] w fun e w' => e = .returned (.bool true) ∧ Below w.heap.size w w' := by
  by_cases hw : n ≤ 403
  · by_cases h1 : scode P l [a, b] = 0
    · by_cases h2 : scode P l [b, c] = 0
      · by_cases h3 : scode P l [a, c] = 0
        · obtain ⟨hk, ab, hs⟩ := scode_ok h1
          obtain ⟨-, bc, -⟩ := scode_ok h2
          simp only [List.all_cons, List.all_nil, Bool.and_true, Bool.and_eq_true, isPt, decide_eq_true_eq] at ab bc
          have h4 : scode P l [b, a] = 0 := code_pts hk (by simp [isPt]; omega) hs
          obtain ⟨hp1, hp2, -, -⟩ := chk_ok hk
          have hok := okB_of hk
          have b1 := dist_bd (p := P.toNat) (a := a.toNat) (b := b.toNat) hok (by omega) (by omega) (by omega)
          have b2 := dist_bd (p := P.toNat) (a := b.toNat) (b := c.toNat) hok (by omega) (by omega) (by omega)
          have E1 := Lib.hid (fun x t q => endV_yes (x := x) (t := t) (q := q) h1)
          have E2 := Lib.hid (fun x t q => endV_yes (x := x) (t := t) (q := q) h2)
          have E3 := Lib.hid (fun x t q => endV_yes (x := x) (t := t) (q := q) h3)
          have E4 := Lib.hid (fun x t q => endV_low (x := x) (t := t) (q := q) h4)
          have tr := dist_tri (a := a.toNat) (b := b.toNat) (c := c.toNat) hk hs (by omega) (by omega) (by omega)
          have f1 := fin_low b1
          have f2 := fin_low b2
          by_cases d1 : dist l P.toNat a.toNat b.toNat = Inf
          · have i1 : isF (dist l P.toNat a.toNat b.toNat) = false := by simp [isF, d1]
            rw [i1] at E1 E4
            exact tri_n1 P a b c A n k l w hr hn hw _ _ _ _ _ E1 E2 E3 E4 f1.1 f1.2 f2.1 f2.2
          · have i1 : isF (dist l P.toNat a.toNat b.toNat) = true := by simp [isF, d1]
            rw [i1] at E1 E4
            by_cases d2 : dist l P.toNat b.toNat c.toNat = Inf
            · have i2 : isF (dist l P.toNat b.toNat c.toNat) = false := by simp [isF, d2]
              rw [i2] at E2
              exact tri_n2 P a b c A n k l w hr hn hw _ _ _ _ E1 E2 E3 E4 f1.1 f1.2 f2.1 f2.2
            · have i2 : isF (dist l P.toNat b.toNat c.toNat) = true := by simp [isF, d2]
              rw [i2] at E2
              obtain ⟨d3, le⟩ := tr d1 d2
              have i3 : isF (dist l P.toNat a.toNat c.toNat) = true := by simp [isF, d3]
              rw [i3] at E3
              exact tri_all P a b c A n k l w hr hn hw _ _ _ E1 E2 E3 E4 f1.1 f1.2 f2.1 f2.2 (by unfold fin; rw [if_neg d1, if_neg d2, if_neg d3]; exact le)
        · exact tri_g P a b c A n k l w hr hn hw (Lib.hid fun x t q e => (endV_yes h1 e).2.2) (Lib.hid fun x t q e => (endV_yes h2 e).2.2) (Lib.hid fun x t q e => (endV_no h3 e).2.2.2)
      · exact tri_f P a b c A n k l w hr hn hw (Lib.hid fun x t q e => (endV_yes h1 e).2.2) (Lib.hid fun x t q e => (endV_no h2 e).2.2.2)
    · exact tri_e P a b c A n k l w hr hn hw (Lib.hid fun x t q e => (endV_no h1 e).2.2.2)
  · exact tri_wide P a b c A n k l w hr hn hw

set_option maxRecDepth 100000 in
theorem gaugeTriangles_lifted (os : Os) (started : os.Started) (H : Type) (enc : TypeId × Value → H) :
    ReturnsInHanded {} Try.checked os 13 .any (Rows.gaugeTrianglesSpec.pre6 enc Try.prog Try.f13 Rows.gaugeTrianglesRow.domain false) (Rows.gaugeTrianglesSpec.post enc Try.prog Try.f13 false true false false) := by
  refine returnsInHanded_of_change (C := Try.checked) Law.own started (by kernel_rfl) Try.func13
    (ChangeSpec.witness6 (enc := enc) (C := Try.checked) false ⟨#[], #[.agg #[.int .i64 0, .slice none 0 0], .int .i64 0, .int .i64 0, .int .i64 0], []⟩ 8 (by kernel_rfl) (by kernel_rfl) (by kernel_rfl) (by kernel_rfl)) ?_
  intro W base args ds gs before hval0 hW hcnd _
  have hval : ∀ (j : Nat) t v, Try.f13.params[j]? = some t → args[j]? = some v → Value.okWide Try.prog W .any base t v := hval0
  have hW' := hW
  obtain ⟨p, q, hA0, hV, rfl, hfz, hnd⟩ := hW
  have hA : DataW.TrodAll enc Try.prog W 0 (fun _ => true) true Try.f13.params.toList args.toList ds p := hA0
  rw [Try.params13] at hA hval
  obtain ⟨v0, vs0, d0, ds0, p0, q0, hargs, rfl, rfl, h0, r0⟩ := trodAll_cons hA
  obtain ⟨v1, vs1, d1, ds1, p1, q1, rfl, rfl, rfl, h1, r1⟩ := trodAll_cons r0
  obtain ⟨v2, vs2, d2, ds2, p2, q2, rfl, rfl, rfl, h2, r2⟩ := trodAll_cons r1
  obtain ⟨v3, vs3, d3, ds3, p3, q3, rfl, rfl, rfl, h3, r3⟩ := trodAll_cons r2
  obtain ⟨rfl, rfl, rfl⟩ := trodAll_nil r3
  obtain rfl : args = #[v0, v1, v2, v3] := by cases args; simp_all
  obtain ⟨rfl, rfl⟩ := trodVars_none hV
  have k0 := h0
  have lt0 : ∀ x ∈ p0, x.block < W.heap.size := by obtain ⟨m, hm⟩ := k0; exact DataW.trod_lt m _ _ _ hm
  obtain ⟨P0, A0, n0, c0, l0, rfl, w0, rd0, mx0⟩ := open_sys (hval 0 24 v0 rfl rfl) h0
  obtain ⟨a1, rfl, rfl, rfl, w1⟩ := open_int Try.underlying3 (hval 1 3 v1 rfl rfl) h1
  obtain ⟨a2, rfl, rfl, rfl, w2⟩ := open_int Try.underlying3 (hval 2 3 v2 rfl rfl) h2
  obtain ⟨a3, rfl, rfl, rfl, w3⟩ := open_int Try.underlying3 (hval 3 3 v3 rfl rfl) h3
  clear hA0 hval0
  refine (tri_walk W P0 A0 n0 c0 l0 w0 rd0 mx0 a1 w1 a2 w2 a3 w3).mono fun e W' ⟨he, bel⟩ => ?_
  subst he
  exact ⟨_, rfl, _, _, _, [], _, [], hW', trodAll_mk1 (shut_bool Try.underlying4 _), (trodAll_cons_mk (Below.trod Law.laidOut (by kernel_rfl) (of_decide_eq_true (by kernel_rfl)) k0 bel lt0) (trodAll_cons_mk (shut_int Try.underlying3 w1) (trodAll_cons_mk (shut_int Try.underlying3 w2) (trodAll_cons_mk (shut_int Try.underlying3 w3) trodAll_mk0)))), rfl, bel.frame _, fun h => by cases h⟩

theorem gaugeTriangles_over : Rows.gaugeTrianglesRow.holds Try.pinned (OpenSpec.ofChange Rows.gaugeTrianglesSpec) :=
  OpenClaim.holds_of_wide 13 Try.f13 rfl rfl rfl rfl rfl rfl rfl ⟨rfl, rfl, rfl, rfl, rfl⟩ rfl rfl rfl rfl rfl (by kernel_rfl) Try.func13 (by kernel_rfl)
    (of_decide_eq_true (by kernel_rfl)) (by unfold Func.isWrapper; first | (rw [if_pos (by decide +kernel)]; kernel_rfl) | (rw [if_neg (by decide +kernel)]; exact ⟨rfl, rfl⟩))
    (fun os started H enc _ => gaugeTriangles_lifted os started H enc)

theorem gaugeTriangles_proved : Rows.GaugeTrianglesSaid := gaugeTriangles_over
end Go.Proofs.Ythlnialipjihdaa
