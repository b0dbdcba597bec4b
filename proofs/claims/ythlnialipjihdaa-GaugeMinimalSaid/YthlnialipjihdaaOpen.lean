/- Opening what comes in: a system, a list of numbers, a bound; for the laws of layer 1. -/
import Derived.Test.YthlnialipjihdaaAlive
import Derived.ProofKit
import Derived.OpenShut
import Derived.ChangeOld
import Derived.Deep.Slices
import Derived.Deep.Fields
import Derived.ChangeSame
import Derived.Lib.SmallJoins
set_option linter.unusedSimpArgs false
set_option linter.unusedVariables false
namespace Go.Proofs.Ythlnialipjihdaa
open Go.ChangeShapes Go.WideShapes Go.ChangeAt Go.RowKit

set_option maxRecDepth 100000
theorem Law.own : ownKnob Try.prog.godebug = none := by kernel_rfl
theorem Law.laidOut : laidOutB Try.prog = true := by kernel_rfl

theorem alive_ok (w : World) : Calls Try.prog 19 #[] w fun e w' => e = .returned (.bool true) ∧ Below w.heap.size w w' := alive_any w

theorem add_flat (b o k : Nat) : (⟨b, o, none⟩ : Addr).add k = ⟨b, o + k, none⟩ := by
  unfold Addr.add
  split
  · rename_i h; subst h; rfl
  · rfl

section
variable {H : Type} {enc : TypeId × Value → H} {W : World} {base : Nat} {sp : Nat → Bool} {held : Bool}

theorem cell_low {a : Addr} {v : Value} (h : W.cell? a = some v) : a.block < W.heap.size := by
  by_cases hb : a.block < W.heap.size
  · exact hb
  · exfalso
    have e : W.heap[a.block]? = none := by simp; omega
    simp [World.cell?, e] at h

theorem one_bound {m : Nat} {cs : List Value} {x : DataW H × List MemPlace} (h : DataW.trod enc Try.prog W base sp held m 54 cs = some x) (hl : cs.length = 4) : ∃ b : Bnd, cs = b.cells := by
  obtain ⟨y0, y1, y2, y3, k, -, -, h0, h1, h2, h3⟩ := Go.Joins.trod_struct4 Try.underlying54 h
  match cs, hl with
  | [c0, c1, c2, c3], _ =>
    have k1 : Try.prog.cellsOf 3 = 1 := by kernel_rfl
    simp only [k1, List.drop_zero, List.take_succ_cons, List.take_zero, List.drop_succ_cons] at h0 h1 h2 h3
    obtain ⟨a0, e0, -, -⟩ := DataW.trod_int Try.underlying3 h0
    obtain ⟨a1, e1, -, -⟩ := DataW.trod_int Try.underlying3 h1
    obtain ⟨a2, e2, -, -⟩ := DataW.trod_int Try.underlying3 h2
    obtain ⟨a3, e3, -, -⟩ := DataW.trod_int Try.underlying3 h3
    simp only [List.cons.injEq, and_true] at e0 e1 e2 e3
    subst e0 e1 e2 e3
    exact ⟨⟨a0, a1, a2, a3⟩, rfl⟩

theorem open_bounds {m : Nat} {v : Value} {x : DataW H × List MemPlace} (h : DataW.trod enc Try.prog W base sp held m 22 [v] = some x) : ∃ A n c l, v = .slice A n c ∧ RdB W A n c l ∧ n ≤ maxLen := by
  have hC : Try.prog.cellsOf 54 = 4 := by kernel_rfl
  rcases Go.Deep.open_slice Try.underlying22 h with ⟨hcs, -⟩ | ⟨a, len, cap, m', n, D, Pl, hcs, hb, hl, hm, hmm, hx, hi⟩
  · simp only [List.cons.injEq, and_true] at hcs
    exact ⟨none, 0, 0, [], hcs, ⟨rfl, Nat.le_refl _, fun _ => ⟨rfl, rfl⟩, .inl rfl⟩, Nat.zero_le _⟩
  · simp only [List.cons.injEq, and_true] at hcs
    have hle : len ≤ m' := by rw [hmm]; split <;> omega
    rw [hC] at hi
    obtain ⟨X, hX⟩ := Go.Deep.choose_lt (α := Bnd) (n := len) (p := fun i b => ∀ j, j < 4 → W.cell? (a.add (i * 4 + j)) = b.cells[j]?) (fun i hil => by
      obtain ⟨cs', g1, g2⟩ := hi i (by omega)
      obtain ⟨-, g3, g4⟩ := World.cells?_some g1
      obtain ⟨b, rfl⟩ := one_bound g2 g3
      refine ⟨b, fun j hj => ?_⟩
      have := g4 j hj
      rw [Go.Deep.add_add] at this
      exact this)
    refine ⟨some a, len, cap, (List.range len).map X, hcs, ⟨by simp, hl, (fun h => by cases h), ?_⟩, by omega⟩
    by_cases h0 : len = 0
    · subst h0; exact .inl rfl
    · obtain ⟨ab, ao, asp⟩ := a
      have z := hX 0 (by omega) 0 (by omega)
      have hs : asp = none := by simpa [Addr.add] using World.cell?_spot (z.trans (show (X 0).cells[0]? = some (.int .i64 (X 0).f) from rfl))
      subst hs
      have hlt : ab < W.heap.size := by simpa [Addr.add] using cell_low (z.trans (show (X 0).cells[0]? = some (.int .i64 (X 0).f) from rfl))
      refine .inr ⟨ab, ao, rfl, hlt, fun j u hu => ?_⟩
      have hj : j < len * 4 := by
        have := (List.getElem?_eq_some_iff.1 hu).1
        rw [bcells_length] at this
        simpa using this
      have e : j / 4 * 4 + j % 4 = j := by omega
      have hlk : ((List.range len).map X)[j / 4]? = some (X (j / 4)) := by
        rw [List.getElem?_map, List.getElem?_range (by omega)]
        rfl
      have h1 := bcells_get ((List.range len).map X) (j / 4) (j % 4) _ hlk (Nat.mod_lt _ (by omega))
      rw [e] at h1
      have h2 := hX (j / 4) (by omega) (j % 4) (Nat.mod_lt _ (by omega))
      rw [e, add_flat] at h2
      rw [h2, ← h1, hu]

theorem open_sys {r : Reach} {b0 : Nat} {v : Value} {d : DataW H} {p : List MemPlace} (hv : Value.okWide Try.prog W r b0 24 v) (h : DataW.Trod enc Try.prog W base sp held 24 v d p) :
    ∃ P A n c l, v = .agg #[.int .i64 P, .slice A n c] ∧ (Lit.int .i64 P).wf = true ∧ RdB W A n c l ∧ n ≤ maxLen := by
  obtain ⟨v0, v1, y0, y1, m, rfl, -, -, h0, h1⟩ := Go.Joins.open_agg2 Try.underlying24 (by kernel_rfl) (by kernel_rfl) hv h
  obtain ⟨P, e0, -, wp⟩ := DataW.trod_int Try.underlying3 h0
  simp only [List.cons.injEq, and_true] at e0
  obtain ⟨A, n, c, l, rfl, hr, hm⟩ := open_bounds h1
  exact ⟨P, A, n, c, l, by rw [e0], wp, hr, hm⟩

theorem open_nums {v : Value} {d : DataW H} {p : List MemPlace} {r : Reach} {b0 : Nat} (hv : Value.okWide Try.prog W r b0 33 v) (h : DataW.Trod enc Try.prog W base sp held 33 v d p) :
    ∃ A n c l, v = .slice A n c ∧ RdI W A n c l ∧ n ≤ maxLen ∧ ∀ x ∈ l, (Lit.int .i64 x).wf = true := by
  obtain ⟨a, len, cap, rfl⟩ := okWide_slice Try.underlying33 hv
  obtain ⟨fuel, hf⟩ := h
  rcases open_ints Try.underlying33 Try.underlying3 (by kernel_rfl) hf with ⟨hcs, -⟩ | ⟨x, l, c, zs, hcs, -, hl, hm, hz, -, hcell, hwz⟩
  · simp [Value.cells] at hcs
    obtain ⟨rfl, rfl, rfl⟩ := hcs
    exact ⟨none, 0, 0, [], rfl, ⟨rfl, Nat.le_refl _, fun _ => ⟨rfl, rfl⟩, .inl rfl⟩, Nat.zero_le _, by simp⟩
  · simp [Value.cells] at hcs
    obtain ⟨rfl, rfl, rfl⟩ := hcs
    have hle : len ≤ zs.length := by rw [hz]; split <;> omega
    refine ⟨some x, len, cap, zs.take len, rfl, ⟨by simp; omega, hl, (fun h => by cases h), ?_⟩, by omega, fun y hy => hwz y (List.mem_of_mem_take hy)⟩
    by_cases h0 : len = 0
    · subst h0; exact .inl rfl
    · obtain ⟨xb, xo, xs⟩ := x
      have z := hcell 0 (by omega)
      have hs : xs = none := by simpa [Addr.add] using World.cell?_spot z
      subst hs
      have hlt : xb < W.heap.size := by simpa [Addr.add] using cell_low z
      refine .inr ⟨xb, xo, rfl, hlt, fun j u hu => ?_⟩
      obtain ⟨y, hy, rfl⟩ := List.mem_map.1 (List.mem_of_getElem? hu)
      have hj : j < len := by
        have := (List.getElem?_eq_some_iff.1 hu).1
        simp at this; omega
      have h1 := hcell j (by omega)
      rw [add_flat] at h1
      rw [h1]
      rw [List.getElem?_map, List.getElem?_take, if_pos hj, List.getElem?_eq_getElem (by omega)] at hu
      simp only [Option.map_some, Option.some.injEq, Value.int.injEq, true_and] at hu
      rw [List.getD_eq_getElem?_getD, List.getElem?_eq_getElem (by omega)]
      simp [hu]
end
end Go.Proofs.Ythlnialipjihdaa
