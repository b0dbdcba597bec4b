import Derived.Test.YtaoanagmgheicaaGreatSPath
import Derived.Test.YtaoanagmgheicaaGreatSChn
set_option linter.unusedSimpArgs false
set_option linter.unusedVariables false
namespace Go.Proofs.YtaoanagmgheicaaGreat
open Go.RowKit
def IsWalk (l : List Bnd) : List Nat → Int → Int → Int → Prop
 | [], a, b, s => a = b ∧ s = 0
 | i :: r, a, b, s => ∃ c, l[i]? = some c ∧ c.f = a ∧ IsWalk l r c.t b (s - c.m)
theorem IsWalk.append {l : List Bnd} : ∀ {r1 r2 : List Nat} {a c b s1 s2 : Int}, IsWalk l r1 a c s1 → IsWalk l r2 c b s2 → IsWalk l (r1 ++ r2) a b (s1 + s2)
 | [], r2, a, c, b, s1, s2, h1, h2 => by
  obtain ⟨rfl, rfl⟩ := h1
  rw [List.nil_append, Int.zero_add]; exact h2
 | i :: r1, r2, a, c, b, s1, s2, h1, h2 => by
  obtain ⟨x, hx, hf, h1⟩ := h1
  have := IsWalk.append h1 h2
  exact ⟨x, hx, hf, by rw [show s1 + s2 - x.m = s1 - x.m + s2 from by omega]; exact this⟩
theorem IsWalk.snoc {l : List Bnd} {r : List Nat} {a s : Int} {i : Nat} {c : Bnd} (h : IsWalk l r a c.f s) (hi : l[i]? = some c) : IsWalk l (r ++ [i]) a c.t (s + c.m) :=
 h.append ⟨c, hi, rfl, rfl, by omega⟩
theorem IsWalk.split {l : List Bnd} : ∀ {r1 r2 : List Nat} {a b s : Int}, IsWalk l (r1 ++ r2) a b s → ∃ c s1, IsWalk l r1 a c s1 ∧ IsWalk l r2 c b (s - s1)
 | [], r2, a, b, s, h => ⟨a, 0, ⟨rfl, rfl⟩, by rw [Int.sub_zero]; exact h⟩
 | i :: r1, r2, a, b, s, h => by
  obtain ⟨x, hx, hf, h⟩ := h
  obtain ⟨c, s1, h1, h2⟩ := IsWalk.split h
  exact ⟨c, s1 + x.m, ⟨x, hx, hf, by rw [show s1 + x.m - x.m = s1 from by omega]; exact h1⟩, by rw [show s - (s1 + x.m) = s - x.m - s1 from by omega]; exact h2⟩
theorem frm_of {l : List Bnd} {i : Nat} {c : Bnd} (h : l[i]? = some c) : frm l i = c.f := by unfold frm; rw [h]
theorem backL_spec {l : List Bnd} {x0 : List Int} (hx : x0.length = 60) (hok : OkB l) : ∀ (k : Nat) (b : Int), 0 ≤ b → b < 60 → look (rounds l k x0) b ≠ Inf → (∀ j, k = j + 1 → look (rounds l k x0) b < look (rounds l j x0) b) →
 ∃ a, 0 ≤ a ∧ a < 60 ∧ look x0 a ≠ Inf ∧ IsWalk l (backL l x0 k b) a b (look (rounds l k x0) b - look x0 a)
 | 0, b, h0, h1, hI, _ => ⟨b, h0, h1, hI, rfl, by show look x0 b - look x0 b = 0; omega⟩
 | k + 1, b, h0, h1, hI, hlt => by
  have hl := hlt k rfl
  obtain ⟨c, hc, rfl, hfI, hv⟩ := step_spec (l := l) (x := rounds l k x0) hok h0 hl
  have hm := List.mem_of_getElem? hc
  obtain ⟨f0, f1, t0, t1, m0, m1⟩ := hok c hm
  have hfr := frm_of hc
  obtain ⟨a, a0, a1, aI, hw⟩ := backL_spec hx hok k c.f f0 f1 hfI (fun j hj => by subst hj; exact strict_next hx hok hm hfI hv hl)
  refine ⟨a, a0, a1, aI, ?_⟩
  unfold backL
  have e : stepL l (rounds l k x0) c.t (look (rounds l (k + 1) x0) c.t) = stepL l (rounds l k x0) c.t (look (longer l (rounds l k x0)) c.t) := rfl
  rw [e, hfr]
  have := hw.snoc hc
  rw [show look (rounds l (k + 1) x0) c.t - look x0 a = look (rounds l k x0) c.f - look x0 a + c.m from by have : look (rounds l (k + 1) x0) c.t = _ := hv.symm; omega]
  exact this
theorem edges60 {p : Int} {l : List Bnd} (hk : chk p l = 0) : ∀ c ∈ l, 0 ≤ c.f ∧ c.f < p.toNat ∧ 0 ≤ c.t ∧ c.t < p.toNat ∧ c.f ≠ c.t ∧ -1000000 ≤ c.m ∧ c.m ≤ 1000000 := fun c hc => by
 obtain ⟨h1, h2, _, h⟩ := chk_ok hk
 have := of_decide_eq_true (h c hc)
 omega
theorem sol_spec {p : Int} {l : List Bnd} {z : List Int} (hk : chk p l = 0) (hz : settle l p.toNat zeros = some z) :
 z.length = 60 ∧ (∀ c ∈ l, look z c.t ≤ look z c.f + c.m) ∧ (∀ v, at_ z v ≤ 0) ∧ ∀ v, -60000000 ≤ at_ z v := by
 obtain ⟨hp1, hp2, hlen, -⟩ := chk_ok hk
 have he := edges60 hk
 obtain ⟨hst, -, hl, hle⟩ := stable_settle (edges_of hk) (by rw [zeros_length]; omega) hz
 rw [zeros_length] at hl
 have h0 : ∀ v, at_ z v ≤ 0 := fun v => by have := hle v; rw [at_zeros] at this; exact this
 refine ⟨hl, fun c hc => hst c hc (by rw [look_eq]; have := h0 c.f.toNat; unfold Inf; omega), h0, fun v => ?_⟩
 obtain ⟨k, hkp, rfl, -⟩ := settle_some hz
 have key : ∀ j : Nat, ∀ v, -((j : Int) * 1000000) ≤ at_ (rounds l j zeros) v := by
  intro j
  induction j with
  | zero => intro v; rw [show rounds l 0 zeros = zeros from rfl, at_zeros]; omega
  | succ j ih =>
   intro v
   rcases longer_cases l (rounds l j zeros) v with h | ⟨c, hc, _, _, h⟩
   · have := ih v
     show _ ≤ at_ (longer l (rounds l j zeros)) v
     rw [h]; omega
   · have := ih c.f.toNat
     have := he c hc
     show _ ≤ at_ (longer l (rounds l j zeros)) v
     rw [h, look_eq]; omega
 have := key k v
 omega
end Go.Proofs.YtaoanagmgheicaaGreat
