import Derived.Test.YtaoanagmgheicaaGreatSClosed
import Derived.Test.YtaoanagmgheicaaGreatSOpen
import Derived.Test.YtaoanagmgheicaaGreatSChn
set_option linter.unusedSimpArgs false
set_option linter.unusedVariables false
namespace Go.Proofs.YtaoanagmgheicaaGreat
open Go.RowKit
def vec (f : Nat → Int) : List Int := (List.range 60).map f
theorem vec_length (f : Nat → Int) : (vec f).length = 60 := by simp [vec]
theorem at_vec (f : Nat → Int) {v : Nat} (hv : v < 60) : at_ (vec f) v = f v := by
 unfold vec at_
 rw [List.getD_eq_getElem?_getD, List.getElem?_map, List.getElem?_range hv]
 rfl
theorem at_vec_out (f : Nat → Int) {v : Nat} (hv : 60 ≤ v) : at_ (vec f) v = 0 := at_out (by rw [vec_length]; exact hv)
theorem dist_rounds {p : Int} {l : List Bnd} {a : Nat} (hk : chk p l = 0) (hs : (settle l p.toNat zeros).isSome = true) (ha : a < 60) :
 setL l p.toNat (startL a) = rounds l (p.toNat - 1) (startL a) ∧ Stable l (rounds l (p.toNat - 1) (startL a)) ∧ longer l (rounds l (p.toNat - 1) (startL a)) = rounds l (p.toNat - 1) (startL a) := by
 obtain ⟨hp1, hp2, hlen, -⟩ := chk_ok hk
 obtain ⟨h1, h2⟩ := from_settled hk hs ha
 obtain ⟨h3, -⟩ := stable_settle (edges_of hk) (by rw [startL_length]; omega) h1
 exact ⟨by unfold setL; rw [h1]; rfl, h3, h2⟩
theorem dist_ge {p : Int} {l : List Bnd} {a b : Nat} {y : List Int} (hk : chk p l = 0) (hs : (settle l p.toNat zeros).isSome = true) (ha : a < 60) (hb : b < 60) (hy : ∀ c ∈ l, look y c.t ≤ look y c.f + c.m)
 (hbd : ∀ v, v < 60 → -1000000000000 ≤ at_ y v ∧ at_ y v ≤ 1000000000000) : at_ y b - at_ y a ≤ dist l p.toNat a b := by
 have he := edges60 hk
 obtain ⟨hp1, hp2, hlen, -⟩ := chk_ok hk
 obtain ⟨e, -⟩ := dist_rounds hk hs ha
 have h := rounds_ge (l := l) (x := startL a) (y := vec (fun v => at_ y v - at_ y a)) (fun c hc _ => by
  have h1 := hy c hc
  have h2 := he c hc
  rw [look_eq, look_eq] at h1
  rw [look_eq, look_eq, at_vec _ (by omega), at_vec _ (by omega)]
  omega) (fun v => by
  by_cases hv : v < 60
  · rw [at_vec _ hv, at_startL ha v hv]
    have := hbd v hv
    have := hbd a ha
    split
    · rename_i h; subst h; omega
    · unfold Inf; omega
  · rw [at_vec_out _ (by omega), at_out (by rw [startL_length]; omega)]
    exact Int.le_refl _) (startL_le ha) (p.toNat - 1) b
 unfold dist
 rw [e]
 rw [at_vec _ hb] at h
 exact h
theorem dist_low {p : Int} {l : List Bnd} {a b : Nat} {z : List Int} (hk : chk p l = 0) (hz : settle l p.toNat zeros = some z) (ha : a < 60) (hb : b < 60) : -60000000 ≤ dist l p.toNat a b := by
 obtain ⟨h1, h2, h3, h4⟩ := sol_spec hk hz
 have := dist_ge (y := z) hk (by rw [hz]; rfl) ha hb h2 (fun v _ => by have := h3 v; have := h4 v; omega)
 have := h3 a
 have := h4 b
 omega
theorem tie_mem {l : List Bnd} {a b N : Int} {c : Bnd} (h : c ∈ l ++ tieB a b N) : c ∈ l ∨ c = ⟨a, b, N, 0⟩ ∨ c = ⟨b, a, -N, 0⟩ := by
 rcases List.mem_append.1 h with h | h
 · exact .inl h
 · unfold tieB at h
   simp only [List.mem_cons, List.not_mem_nil, or_false] at h
   exact .inr h
theorem attain_vec {p : Int} {l : List Bnd} {a b : Nat} {N : Int} {z : List Int} (hk : chk p l = 0) (hz : settle l p.toNat zeros = some z) (ha : a < 60) (hb : b < 60) (hN : -100000000 ≤ N ∧ N ≤ 100000000)
 (h1 : N ≤ dist l p.toNat a b) (h2 : -N ≤ dist l p.toNat b a) :
 ∃ Y : List Int, Y.length = 60 ∧ (∀ c ∈ l ++ tieB a b N, look Y c.t ≤ look Y c.f + c.m) ∧ ∀ v, -400000000 ≤ at_ Y v ∧ at_ Y v ≤ 0 := by
 have he := edges60 hk
 obtain ⟨hp1, hp2, hlen, -⟩ := chk_ok hk
 have hs : (settle l p.toNat zeros).isSome = true := by rw [hz]; rfl
 obtain ⟨z1, z2, z3, z4⟩ := sol_spec hk hz
 obtain ⟨ea, sa, -⟩ := dist_rounds hk hs ha
 obtain ⟨eb, sb, -⟩ := dist_rounds hk hs hb
 have la := fun v hv => dist_low (a := a) (b := v) hk hz ha hv
 have lb := fun v hv => dist_low (a := b) (b := v) hk hz hb hv
 have da := dist_self hk hs ha
 have db := dist_self hk hs hb
 unfold dist at h1 h2 la lb da db
 rw [ea] at h1 la da
 rw [eb] at h2 lb db
 generalize rounds l (p.toNat - 1) (startL a) = X at *
 generalize rounds l (p.toNat - 1) (startL b) = W at *
 have hat : ∀ v, v < 60 → at_ (vec (fun v => min (min (at_ X v) (N + at_ W v)) (160000000 + at_ z v) - 160000000)) v = min (min (at_ X v) (N + at_ W v)) (160000000 + at_ z v) - 160000000 := fun v hv => at_vec _ hv
 refine ⟨vec (fun v => min (min (at_ X v) (N + at_ W v)) (160000000 + at_ z v) - 160000000), vec_length _, fun c hc => ?_, fun v => ?_⟩
 · rcases tie_mem hc with h | rfl | rfl
   · have h3 := he c h
     have h4 := sa c h
     have h5 := sb c h
     have h6 := z2 c h
     rw [look_eq, look_eq] at h4 h5 h6 ⊢
     rw [hat _ (by omega), hat _ (by omega)]
     have h7 := z3 c.f.toNat
     have h8 := z4 c.f.toNat
     unfold Inf at h4 h5
     by_cases q1 : at_ X c.f.toNat = 9223372036854775807
     · by_cases q2 : at_ W c.f.toNat = 9223372036854775807
       · omega
       · have := h5 q2; omega
     · have := h4 q1
       by_cases q2 : at_ W c.f.toNat = 9223372036854775807
       · omega
       · have := h5 q2; omega
   · simp only [look_at]
     rw [hat _ ha, hat _ hb]
     have := z3 a; have := z4 a; have := z3 b; have := z4 b
     omega
   · simp only [look_at]
     rw [hat _ ha, hat _ hb]
     have := z3 a; have := z4 a; have := z3 b; have := z4 b
     omega
 · by_cases hv : v < 60
   · rw [hat v hv]
     have := la v hv; have := lb v hv; have := z3 v; have := z4 v
     omega
   · rw [at_vec_out _ (by omega)]; omega
theorem edges_tie {p : Int} {l : List Bnd} {a b : Nat} {N : Int} (hk : chk p l = 0) (ha : a < p.toNat) (hb : b < p.toNat) : ∀ c ∈ l ++ tieB a b N, c.f.toNat < p.toNat ∧ c.t.toNat < p.toNat := fun c hc => by
 rcases tie_mem hc with h | rfl | rfl
 · exact edges_of hk c h
 · simp; omega
 · simp; omega
theorem attain_yes {p : Int} {l : List Bnd} {a b : Nat} {N : Int} {z : List Int} (hk : chk p l = 0) (hz : settle l p.toNat zeros = some z) (ha : a < p.toNat) (hb : b < p.toNat) (hN : -100000000 ≤ N ∧ N ≤ 100000000)
 (h1 : N ≤ dist l p.toNat a b) (h2 : -N ≤ dist l p.toNat b a) : (settle (l ++ tieB a b N) p.toNat zeros).isSome = true := by
 obtain ⟨hp1, hp2, hlen, -⟩ := chk_ok hk
 obtain ⟨Y, y0, y1, y2⟩ := attain_vec hk hz (by omega) (by omega) hN h1 h2
 obtain ⟨h, -⟩ := settle_of_stable (l := l ++ tieB a b N) (p := p.toNat) (x := zeros) (y := Y) (by omega) (edges_tie hk ha hb) (by rw [zeros_length]; omega) (fun v => by rw [at_zeros]; unfold Inf; omega) (fun c hc _ => y1 c hc) (fun v => by rw [at_zeros]; exact (y2 v).2)
 rw [h]; rfl
theorem tie_spec {p : Int} {l : List Bnd} {a b : Nat} {N : Int} {x : List Int} (hk : chk p l = 0) (ha : a < p.toNat) (hb : b < p.toNat) (hN : -100000000 ≤ N ∧ N ≤ 100000000) (hx : settle (l ++ tieB a b N) p.toNat zeros = some x) :
 x.length = 60 ∧ (∀ c ∈ l, look x c.t ≤ look x c.f + c.m) ∧ at_ x b - at_ x a = N ∧ (∀ v, at_ x v ≤ 0) ∧ ∀ v, v < 60 → -1000000000000 ≤ at_ x v ∧ at_ x v ≤ 1000000000000 := by
 obtain ⟨hp1, hp2, hlen, -⟩ := chk_ok hk
 have hok := okB_tie (okB_of hk) (a := (a : Int)) (b := (b : Int)) (N := N) (by omega) (by omega) hN
 obtain ⟨x1, -, x2, x3⟩ := stable_settle (edges_tie hk ha hb) (by rw [zeros_length]; omega) hx
 have h0 : ∀ v, at_ x v ≤ 0 := fun v => by have := x3 v; rw [at_zeros] at this; exact this
 have hst : ∀ c ∈ l ++ tieB a b N, look x c.t ≤ look x c.f + c.m := fun c hc => x1 c hc (by rw [look_eq]; have := h0 c.f.toNat; unfold Inf; omega)
 have hwd := wd_setL (p := p.toNat) (wd_zeros (Int.le_refl 0)) hok (Int.le_refl 0) (by omega)
 have hzz : setL (l ++ tieB a b N) p.toNat zeros = x := by unfold setL; rw [hx]; rfl
 rw [hzz] at hwd
 have t1 := hst ⟨a, b, N, 0⟩ (List.mem_append_right _ (by simp [tieB]))
 have t2 := hst ⟨b, a, -N, 0⟩ (List.mem_append_right _ (by simp [tieB]))
 simp only [look_at] at t1 t2
 refine ⟨by rw [x2]; rfl, fun c hc => hst c (List.mem_append_left _ hc), by omega, h0, fun v hv => ?_⟩
 have := h0 v
 rcases hwd.2 v hv with h | h
 · unfold Inf at h; omega
 · omega
theorem kept_spec {p : Int} {l : List Bnd} {x : List Int} {q : Int} (h : keepsV p l x = (true, q)) : chk p l = 0 ∧ nums p x = true ∧ ∀ c ∈ l, look x c.t ≤ look x c.f + c.m := by
 unfold keepsV at h
 injection h with h _
 rw [Bool.and_eq_true, decide_eq_true_eq] at h
 obtain ⟨h1, h2⟩ := h
 unfold breaksV at h1 h2
 by_cases hk : chk p l = 0
 · rw [if_neg (by simpa using hk)] at h1 h2
   by_cases hn : nums p x = false
   · rw [if_pos hn] at h1; cases h1
   · rw [if_neg hn] at h1 h2
     refine ⟨hk, by simpa using hn, fun c hc => ?_⟩
     cases hf : l.findIdx? (fun b => !keepB x b) with
     | some i => rw [hf] at h2; cases h2
     | none =>
      rw [List.findIdx?_eq_none_iff] at hf
      have := hf c hc
      unfold keepB at this
      simp only [Bool.not_eq_false', decide_eq_true_eq] at this
      omega
 · rw [if_pos hk] at h1; exact absurd h1 hk
end Go.Proofs.YtaoanagmgheicaaGreat
