import Derived.Test.YtjjmifcjailpaaaGreatTEStcabd
set_option linter.unusedSimpArgs false
set_option linter.unusedVariables false
namespace Go.Proofs.YtjjmifcjailpaaaGreat
open Go.ChangeShapes Go.WideShapes Go.ChangeAt Go.RowKit
set_option maxRecDepth 100000
section
variable {H : Type} {enc : TypeId × Value → H} {W : World} {base : Nat} {sp : Nat → Bool} {held : Bool}
theorem open_flaw {r : Reach} {b0 : Nat} {v : Value} {d : DataW H} {p : List MemPlace} (hv : Value.okWide Tryz.prog W r b0 40 v) (h : DataW.Trod enc Tryz.prog W base sp held 40 v d p) :
 ∃ t A n c l, v = .agg #[.bool t, .slice A n c] ∧ RdI W A n c l ∧ n ≤ maxLen := by
 obtain ⟨v0, v1, y0, y1, m, rfl, -, -, h0, h1⟩ := Go.Joins.open_agg2 Tryz.underlying40 (by kernel_rfl) (by kernel_rfl) hv h
 obtain ⟨t, e0, -⟩ := DataW.trod_bool Tryz.underlying4 h0
 simp only [List.cons.injEq, and_true] at e0
 obtain ⟨A, n, c, l, rfl, hr, hm, -⟩ := open_nums_ h1
 exact ⟨t, A, n, c, l, by rw [e0], hr, hm⟩
end
end Go.Proofs.YtjjmifcjailpaaaGreat
