import Derived.Test.YtaoanagmgheicaaGreatQChn
import Derived.Test.YtaoanagmgheicaaGreatQClosed
set_option linter.unusedSimpArgs false
set_option linter.unusedVariables false
namespace Go.Proofs.YtaoanagmgheicaaGreat
open Go.RowKit
theorem IsWalk.append {l : List Bnd} : ∀ {r1 r2 : List Nat} {a c b s1 s2 : Int}, IsWalk l r1 a c s1 → IsWalk l r2 c b s2 → IsWalk l (r1 ++ r2) a b (s1 + s2)
 | [], r2, a, c, b, s1, s2, h1, h2 => by
  obtain ⟨rfl, rfl⟩ := h1
  rw [List.nil_append, Int.zero_add]; exact h2
 | i :: r1, r2, a, c, b, s1, s2, h1, h2 => by
  obtain ⟨x, hx, hf, h1⟩ := h1
  have := IsWalk.append h1 h2
  exact ⟨x, hx, hf, by rw [show s1 + s2 - x.m = s1 - x.m + s2 from by omega]; exact this⟩
theorem atB_set (L : List Bool) (i j : Nat) (h : i ≠ j) : atB (L.set i true) j = atB L j := by
 simp [atB, List.getD_eq_getElem?_getD, List.getElem?_set_ne h]
theorem noB_at (i : Nat) : atB noB i = false := by
 unfold atB noB
 rw [List.getD_eq_getElem?_getD, List.getElem?_replicate]
 split <;> rfl
end Go.Proofs.YtaoanagmgheicaaGreat
