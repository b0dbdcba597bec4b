/- Sums of least paths: each one is that of a walk; reversed bounds; fewer bounds. -/
import Derived.Test.YthlnialipjihdaaSharpM
import Derived.Test.YthlnialipjihdaaChg
import Derived.Test.YthlnialipjihdaaPath
set_option linter.unusedSimpArgs false
set_option linter.unusedVariables false
namespace Go.Proofs.Ythlnialipjihdaa
open Go.RowKit

theorem startL_self {a : Nat} (ha : a < 60) : look (startL a) (a : Int) = 0 := by rw [look_at, at_startL ha _ ha, if_pos rfl]

/-- A LEAST SUM IS THAT OF A WALK. -/
theorem dist_path {p : Int} {l : List Bnd} {a b : Nat} (hk : chk p l = 0) (hs : (settle l p.toNat zeros).isSome = true) (ha : a < 60) (hb : b < 60) (hD : dist l p.toNat a b ≠ Inf) :
    ∃ r : List Nat, IsWalk l r a b (dist l p.toNat a b) ∧ r.length ≤ 60 := by
  obtain ⟨hp1, hp2, -, -⟩ := chk_ok hk
  have hok := okB_of hk
  obtain ⟨e, hst, hfix⟩ := dist_rounds (a := a) hk hs ha
  have hd : dist l p.toNat a b = at_ (rounds l (p.toNat - 1) (startL a)) b := by unfold dist; rw [e]
  obtain ⟨hk1, hk2, hk3⟩ := lowK_spec (l := l) (x0 := startL a) (b := b) (most := dist l p.toNat a b) (p.toNat - 1) 0 (by rw [Nat.zero_add, hd]; exact Int.le_refl _) (fun j hj => absurd hj (Nat.not_lt_zero j))
  obtain ⟨K, hK⟩ : ∃ K, lowK l (startL a) b (dist l p.toNat a b) (p.toNat - 1) 0 = K := ⟨_, rfl⟩
  rw [hK] at hk1 hk2 hk3
  have hlenK : (backL l (startL a) K b).length = K := backL_length _ _ _ _
  have hge : dist l p.toNat a b ≤ at_ (rounds l K (startL a)) b := by
    rw [hd]
    have := rounds_le l (startL a) b K (p.toNat - 1 - K)
    rw [show K + (p.toNat - 1 - K) = p.toNat - 1 from by omega] at this
    exact this
  have heq : at_ (rounds l K (startL a)) b = dist l p.toNat a b := by omega
  obtain ⟨a', a0, a1, aI, hw⟩ := backL_spec (startL_length a) hok K b (by omega) (by omega) (by rw [look_at, heq]; exact hD) (fun j hj => by rw [look_at, look_at, heq]; exact hk3 j (by omega))
  have haa : a' = a := by
    rw [look_eq, at_startL ha _ (by omega)] at aI
    by_cases e : a = a'.toNat
    · omega
    · rw [if_neg e] at aI; exact absurd rfl aI
  subst haa
  rw [startL_self ha, Int.sub_zero, look_at, heq] at hw
  exact ⟨_, hw, by rw [hlenK]; omega⟩

theorem IsWalk.rev {l : List Bnd} : ∀ {r : List Nat} {a b s : Int}, IsWalk l r a b s → IsWalk (revL l) r.reverse b a s
  | [], a, b, s, h => ⟨h.1.symm, h.2⟩
  | i :: r, a, b, s, h => by
    obtain ⟨c, hc, rfl, hw⟩ := h
    rw [List.reverse_cons]
    have hi : (revL l)[i]? = some (revB c) := by unfold revL; rw [List.getElem?_map, hc]; rfl
    have := IsWalk.snoc (l := revL l) (i := i) (c := revB c) (a := b) (s := s - c.m) (r := r.reverse) (IsWalk.rev hw) hi
    rw [show s - c.m + (revB c).m = s from by show s - c.m + c.m = s; omega] at this
    exact this

/-- Fewer bounds have a solution too. -/
theorem sub_solved {p : Int} {l l2 : List Bnd} (h1 : chk p l = 0) (h2 : chk p l2 = 0) (hsub : ∀ c ∈ l, c ∈ l2) (hs : (settle l2 p.toNat zeros).isSome = true) : (settle l p.toNat zeros).isSome = true := by
  obtain ⟨hp1, hp2, -, -⟩ := chk_ok h1
  obtain ⟨z, hz⟩ := Option.isSome_iff_exists.1 hs
  obtain ⟨za, zb, zc, zd⟩ := sol_spec h2 hz
  obtain ⟨h, -⟩ := settle_of_stable (p := p.toNat) (x := zeros) (by omega) (edges_of h1) (by rw [zeros_length]; omega) (fun v => by rw [at_zeros]; unfold Inf; omega) (show Stable l z from fun c hc _ => zb c (hsub c hc)) (fun v => by rw [at_zeros]; exact zc v)
  rw [h]; rfl

/-- Fewer bounds make no least sum less. -/
theorem dist_sub {p : Int} {l l2 : List Bnd} {a : Nat} (h1 : chk p l = 0) (h2 : chk p l2 = 0) (hsub : ∀ c ∈ l, c ∈ l2) (hs : (settle l2 p.toNat zeros).isSome = true) (ha : a < 60) (b : Nat) : dist l2 p.toNat a b ≤ dist l p.toNat a b := by
  obtain ⟨e1, -, -⟩ := dist_rounds h1 (sub_solved h1 h2 hsub hs) ha
  obtain ⟨e2, st, -⟩ := dist_rounds h2 hs ha
  unfold dist
  rw [e1, e2]
  exact rounds_ge (show Stable l _ from fun c hc => st c (hsub c hc)) (fun v => rounds_le0 l2 (startL a) v _) (startL_le ha) _ b

theorem chk_rev {p : Int} {l : List Bnd} (hk : chk p l = 0) : chk p (revL l) = 0 := by
  obtain ⟨h1, h2, h3, h4⟩ := chk_ok hk
  unfold chk
  rw [if_neg (by simp [revL]; omega), if_neg (by omega), if_pos]
  rw [List.all_eq_true]
  intro x hx
  obtain ⟨c, hc, rfl⟩ := List.mem_map.1 hx
  have := of_decide_eq_true (h4 c hc)
  exact decide_eq_true (by simp only [revB]; omega)
theorem settle_rev {p : Int} {l : List Bnd} (hk : chk p l = 0) (hs : (settle l p.toNat zeros).isSome = true) : (settle (revL l) p.toNat zeros).isSome = true := by
  obtain ⟨hp1, hp2, -, -⟩ := chk_ok hk
  obtain ⟨z, hz⟩ := Option.isSome_iff_exists.1 hs
  obtain ⟨za, zb, zc, zd⟩ := sol_spec hk hz
  have he := edges60 hk
  obtain ⟨h, -⟩ := settle_of_stable (l := revL l) (p := p.toNat) (x := zeros) (y := vec (fun v => -at_ z v - 60000000)) (by omega) (edges_of (chk_rev hk)) (by rw [zeros_length]; omega) (fun v => by rw [at_zeros]; unfold Inf; omega) (fun c hc _ => by
    obtain ⟨d, hd, rfl⟩ := List.mem_map.1 hc
    have h1 := zb d hd
    have h2 := he d hd
    rw [look_eq, look_eq] at h1
    show look _ d.f ≤ look _ d.t + d.m
    rw [look_eq, look_eq, at_vec _ (by omega), at_vec _ (by omega)]
    omega) (fun v => by
    rw [at_zeros]
    by_cases hv : v < 60
    · rw [at_vec _ hv]; have := zd v; omega
    · rw [at_vec_out _ (by omega)]; exact Int.le_refl _)
  rw [h]; rfl
theorem revL_revL (l : List Bnd) : revL (revL l) = l := by
  unfold revL
  rw [List.map_map]
  conv => rhs; rw [← List.map_id l]
  exact List.map_congr_left (fun c _ => rfl)
theorem dist_rev_le {p : Int} {l : List Bnd} {a b : Nat} (hk : chk p l = 0) (hs : (settle l p.toNat zeros).isSome = true) (ha : a < 60) (hb : b < 60) : dist (revL l) p.toNat a b ≤ dist l p.toNat b a := by
  obtain ⟨hp1, hp2, -, -⟩ := chk_ok hk
  by_cases hD : dist l p.toNat b a = Inf
  · rw [hD]
    rcases dist_bd (p := p.toNat) (a := a) (b := b) (okB_of (chk_rev hk)) (by omega) ha hb with h | h
    · rw [h]; exact Int.le_refl _
    · unfold Inf; omega
  · obtain ⟨r, hr, hl⟩ := dist_path hk hs hb ha hD
    have := dist_walk (chk_rev hk) (settle_rev hk hs) (by omega) hr.rev (by rw [List.length_reverse]; omega)
    rw [Int.toNat_natCast, Int.toNat_natCast] at this
    exact this
/-- REVERSED BOUNDS, REVERSED SUMS. -/
theorem dist_rev {p : Int} {l : List Bnd} {a b : Nat} (hk : chk p l = 0) (hs : (settle l p.toNat zeros).isSome = true) (ha : a < 60) (hb : b < 60) : dist (revL l) p.toNat a b = dist l p.toNat b a := by
  have h1 := dist_rev_le hk hs ha hb
  have h2 := dist_rev_le (chk_rev hk) (settle_rev hk hs) hb ha
  rw [revL_revL] at h2
  exact Int.le_antisymm h1 h2
end Go.Proofs.Ythlnialipjihdaa
