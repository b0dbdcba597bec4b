/- The reference's sums come to ours. -/
import Derived.Test.YthlnialipjihdaaClosed
import Derived.Test.YthlnialipjihdaaSharpM
import Derived.Test.YthlnialipjihdaaSums
set_option linter.unusedSimpArgs false
set_option linter.unusedVariables false
namespace Go.Proofs.Ythlnialipjihdaa
open Go.RowKit

/-- Bounds of a system of p points that was checked, or tied. -/
def OkP (p : Nat) (l : List Bnd) : Prop := ∀ c ∈ l, 0 ≤ c.f ∧ c.f < p ∧ 0 ≤ c.t ∧ c.t < p ∧ c.f ≠ c.t ∧ -100000000 ≤ c.m ∧ c.m ≤ 100000000
theorem okP_of {p : Int} {l : List Bnd} (hk : chk p l = 0) : OkP p.toNat l := fun c hc => by have := edges60 hk c hc; omega
theorem okP_tie {p : Nat} {l : List Bnd} (h : OkP p l) {a b : Nat} {N : Int} (ha : a < p) (hb : b < p) (hab : a ≠ b) (hN : -100000000 ≤ N ∧ N ≤ 100000000) : OkP p (l ++ tieB a b N) := fun c hc => by
  rcases tie_mem hc with h1 | rfl | rfl
  · exact h c h1
  · simp; omega
  · simp; omega

def solL (l : List Bnd) (p : Nat) : List Int := ((settle l p zeros).map (·.take p)).getD []

theorem at_repl {p : Nat} {x : Int} {v : Nat} (hv : v < p) : at_ (List.replicate p x) v = x := by
  simp [at_, List.getD_eq_getElem?_getD, hv]
theorem at_take {x : List Int} {v n : Nat} (hv : v < n) : at_ (x.take n) v = at_ x v := by
  simp [at_, List.getD_eq_getElem?_getD, List.getElem?_take, hv]

/-- The reference's solution. -/
theorem rsolve_eq {p : Nat} {l : List Bnd} (hp1 : 1 ≤ p) (hp : p ≤ 60) (he : OkP p l) : rsums 1000000000 l (p + 1) (List.replicate p 0) = (settle l p zeros).map (·.take p) := by
  have hg : ∀ c ∈ l, c.f.toNat < p ∧ c.t.toNat < p := fun c hc => by have := he c hc; omega
  cases hz : settle l p zeros with
  | some z =>
    obtain ⟨hst, hzz, hl, hle⟩ := stable_settle hg (by rw [zeros_length]; omega) hz
    rw [zeros_length] at hl
    obtain ⟨k, -, e, hfix⟩ := settle_some hz
    have hlim := limit_soon (l := l) (x := zeros) hp1 hg (by rw [zeros_length]; omega) (fun v => by rw [at_zeros]; unfold Inf; omega) (n := k) (by rw [← e]; exact hfix)
    rw [← e] at hlim
    have h0 : ∀ v, at_ z v ≤ 0 := fun v => by have := hle v; rw [at_zeros] at this; exact this
    obtain ⟨y, h1, h2, h3⟩ := rsums_eq (far := 1000000000) (l := l) (p := p) (x := zeros) (y := List.replicate p 0) hp1 hg (by rw [zeros_length]; omega) (by simp) (fun v hv => by rw [at_repl hv, at_zeros]; unfold conv Inf; rw [if_neg (by omega)]) (fun k v _ _ _ => by have := rounds_le0 l zeros v k; rw [at_zeros] at this; omega) (by unfold Inf; omega) (by rw [hlim]; exact hzz)
    rw [h1, Option.map_some]
    congr 1
    apply ext_at (by rw [h2, List.length_take]; omega)
    intro v hv
    rw [h2] at hv
    rw [h3 v hv, hlim, at_take hv]
    unfold conv
    rw [if_neg (by have := h0 v; unfold Inf; omega)]
  | none =>
    cases hr : rsums 1000000000 l (p + 1) (List.replicate p 0) with
    | none => rfl
    | some y =>
      exfalso
      obtain ⟨k, -, e, hfix⟩ := rsums_some hr
      have hlen : y.length = p := by rw [e, rrounds_length, List.length_replicate]
      have hle : ∀ k v, at_ (rrounds 1000000000 l k (List.replicate p 0)) v ≤ 0 := by
        intro k
        induction k with
        | zero =>
          intro v
          by_cases hv : v < p
          · show at_ (List.replicate p 0) v ≤ 0; rw [at_repl hv]; exact Int.le_refl _
          · show at_ (List.replicate p 0) v ≤ 0; rw [at_out (by simp; omega)]; exact Int.le_refl _
        | succ k ih => intro v; exact Int.le_trans (rfold_le _ _ _ _) (ih v)
      have h0 : ∀ v, at_ y v ≤ 0 := fun v => by rw [e]; exact hle k v
      have hst : Stable l y := fun c hc _ => by
        have := rfold_edge 1000000000 (c := c) (A := at_ y c.f.toNat) (by have := h0 c.f.toNat; omega) l y hc (Int.le_refl _) (by rw [hlen]; exact (hg c hc).2)
        have hf : l.foldl (rrelax 1000000000) y = y := hfix
        rw [hf] at this
        exact this
      obtain ⟨h, -⟩ := settle_of_stable (p := p) (x := zeros) (y := y) hp1 hg (by rw [zeros_length]; omega) (fun v => by rw [at_zeros]; unfold Inf; omega) hst (fun v => by rw [at_zeros]; exact h0 v)
      rw [hz] at h
      cases h

theorem rounds_top {p : Int} {l : List Bnd} {a : Nat} (hk : chk p l = 0) (ha : a < 60) : ∀ (k v : Nat), at_ (rounds l k (startL a)) v = Inf ∨ at_ (rounds l k (startL a)) v ≤ k * 1000000
  | 0, v => by
    show at_ (startL a) v = Inf ∨ at_ (startL a) v ≤ ((0 : Nat) : Int) * 1000000
    by_cases hv : v < 60
    · rw [at_startL ha v hv]
      split
      · exact .inr (by omega)
      · exact .inl rfl
    · rw [at_out (by rw [startL_length]; omega)]; exact .inr (by omega)
  | k + 1, v => by
    show at_ (longer l (rounds l k (startL a))) v = Inf ∨ at_ (longer l (rounds l k (startL a))) v ≤ ((k + 1 : Nat) : Int) * 1000000
    rcases longer_cases l (rounds l k (startL a)) v with h | ⟨c, hc, h1, -, h⟩
    · rw [h]
      rcases rounds_top hk ha k v with q | q
      · exact .inl q
      · exact .inr (by omega)
    · rw [h]
      rw [look_eq] at h1 ⊢
      have := edges60 hk c hc
      rcases rounds_top hk ha k c.f.toNat with q | q
      · exact absurd q h1
      · exact .inr (by omega)

/-- The reference's sums from a point. -/
theorem rfrom_eq {p : Int} {l : List Bnd} {a : Nat} (hk : chk p l = 0) (hs : (settle l p.toNat zeros).isSome = true) (ha : a < p.toNat) :
    ∃ z, rsums 1000000000 l (p.toNat + 1) ((List.replicate p.toNat 1000000000).set a 0) = some z ∧ z.length = p.toNat ∧ ∀ v, v < p.toNat → at_ z v = conv 1000000000 (dist l p.toNat a v) := by
  obtain ⟨hp1, hp2, -, -⟩ := chk_ok hk
  obtain ⟨e, hst, hfix⟩ := dist_rounds (a := a) hk hs (by omega)
  obtain ⟨y, h1, h2, h3⟩ := rsums_eq (far := 1000000000) (l := l) (p := p.toNat) (x := startL a) (y := (List.replicate p.toNat 1000000000).set a 0) (by omega) (edges_of hk) (by rw [startL_length]; omega) (by simp) (fun v hv => by
      rw [at_set _ _ _ _ (by rw [List.length_replicate]; exact ha), at_startL (by omega) _ (by omega)]
      by_cases hav : a = v
      · rw [if_pos hav, if_pos hav]; unfold conv Inf; rw [if_neg (by omega)]
      · rw [if_neg hav, if_neg hav, at_repl hv]; unfold conv; rw [if_pos rfl]) (fun k v hv hI hkp => by
      rcases rounds_top hk (a := a) (by omega) k v with q | q
      · exact absurd q hI
      · omega) (by unfold Inf; omega) hfix
  refine ⟨y, h1, h2, fun v hv => ?_⟩
  rw [h3 v hv]
  unfold dist
  rw [e]
theorem dist_top {p : Int} {l : List Bnd} {a v : Nat} (hk : chk p l = 0) (hs : (settle l p.toNat zeros).isSome = true) (ha : a < 60) (h : dist l p.toNat a v ≠ Inf) : dist l p.toNat a v ≤ 60000000 := by
  obtain ⟨hp1, hp2, -, -⟩ := chk_ok hk
  obtain ⟨e, -⟩ := dist_rounds (a := a) hk hs ha
  unfold dist at h ⊢
  rw [e] at h ⊢
  rcases rounds_top hk ha (p.toNat - 1) v with q | q
  · exact absurd q h
  · omega
end Go.Proofs.Ythlnialipjihdaa
