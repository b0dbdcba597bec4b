import Derived.Deep.OwnRows
import Derived.Test.YtaoanagmgheicaaGreatQGraph
set_option linter.unusedSimpArgs false
set_option linter.unusedVariables false
namespace Go.Proofs.YtaoanagmgheicaaGreat
open Go.RowKit
def IsWalk (l : List Bnd) : List Nat → Int → Int → Int → Prop
 | [], a, b, s => a = b ∧ s = 0
 | i :: r, a, b, s => ∃ c, l[i]? = some c ∧ c.f = a ∧ IsWalk l r c.t b (s - c.m)
theorem IsWalk.split {l : List Bnd} : ∀ {r1 r2 : List Nat} {a b s : Int}, IsWalk l (r1 ++ r2) a b s → ∃ c s1, IsWalk l r1 a c s1 ∧ IsWalk l r2 c b (s - s1)
 | [], r2, a, b, s, h => ⟨a, 0, ⟨rfl, rfl⟩, by rw [Int.sub_zero]; exact h⟩
 | i :: r1, r2, a, b, s, h => by
  obtain ⟨x, hx, hf, h⟩ := h
  obtain ⟨c, s1, h1, h2⟩ := IsWalk.split h
  exact ⟨c, s1 + x.m, ⟨x, hx, hf, by rw [show s1 + x.m - x.m = s1 from by omega]; exact h1⟩, by rw [show s - (s1 + x.m) = s - x.m - s1 from by omega]; exact h2⟩
theorem edges60 {p : Int} {l : List Bnd} (hk : chk p l = 0) : ∀ c ∈ l, 0 ≤ c.f ∧ c.f < p.toNat ∧ 0 ≤ c.t ∧ c.t < p.toNat ∧ c.f ≠ c.t ∧ -1000000 ≤ c.m ∧ c.m ≤ 1000000 := fun c hc => by
 obtain ⟨h1, h2, _, h⟩ := chk_ok hk
 have := of_decide_eq_true (h c hc)
 omega
end Go.Proofs.YtaoanagmgheicaaGreat
