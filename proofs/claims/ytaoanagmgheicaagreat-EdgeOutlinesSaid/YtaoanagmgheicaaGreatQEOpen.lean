import Derived.Shelf.SlSortCmp.NoneTotal
import Derived.Test.YtaoanagmgheicaaGreatQELongest
set_option linter.unusedSimpArgs false
set_option linter.unusedVariables false
namespace Go.Proofs.YtaoanagmgheicaaGreat
open Go.ChangeShapes Go.WideShapes Go.ChangeAt Go.RowKit
set_option maxRecDepth 100000
section
variable {H : Type} {enc : TypeId × Value → H} {W : World} {base : Nat} {sp : Nat → Bool} {held : Bool}
theorem open_outl {r : Reach} {b0 : Nat} {v : Value} {d : DataW H} {p : List MemPlace} (hv : Value.okWide Tryz.prog W r b0 24 v) (h : DataW.Trod enc Tryz.prog W base sp held 24 v d p) :
 ∃ c A n k B m j ws ts, v = .agg #[.int .i64 c, .slice A n k, .slice B m j] ∧ (Lit.int .i64 c).wf = true ∧ RdB W A n k ws ∧ RdB W B m j ts ∧ n ≤ maxLen ∧ m ≤ maxLen := by
 obtain ⟨v0, v1, v2, y0, y1, y2, fu, rfl, -, -, h0, h1, h2⟩ := Go.Joins.open_agg3 Tryz.underlying24 (by kernel_rfl) (by kernel_rfl) hv h
 obtain ⟨P, e0, -, wp⟩ := DataW.trod_int Tryz.underlying3 h0
 simp only [List.cons.injEq, and_true] at e0
 obtain ⟨A, n, k, ws, rfl, hr, hm⟩ := open_bounds h1
 obtain ⟨B, m, j, ts, rfl, hr2, hm2⟩ := open_bounds h2
 exact ⟨P, A, n, k, B, m, j, ws, ts, by rw [e0], wp, hr, hr2, hm, hm2⟩
end
end Go.Proofs.YtaoanagmgheicaaGreat
