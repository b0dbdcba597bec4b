import Derived.Test.YtjjmifcjailpaaaGreatTEPlaces
set_option linter.unusedSimpArgs false
set_option linter.unusedVariables false
namespace Go.Proofs.YtjjmifcjailpaaaGreat
open Go.RowKit
def plNear (x : List Int) (P : Int) : Bool := x.all near1 && decide ((x.length : Int) = P)
theorem kept_ref {P : Int} {l : List Bnd} {x : List Int} (hk : chk P l = 0) : keptV P l x = (plNear x P && l.all (keepB x)) := by
 rw [Bool.eq_iff_iff]
 unfold keptV plNear
 simp only [Bool.and_eq_true, decide_eq_true_eq]
 constructor
 · rintro ⟨h1, h2⟩
   obtain ⟨-, hn, hc⟩ := kept_spec (q := (keepsV P l x).2) (Prod.ext h2 rfl)
   refine ⟨⟨h1, (nums_at hn).1⟩, List.all_eq_true.2 fun b hb => ?_⟩
   have := hc b hb
   simp only [keepB, decide_eq_true_eq]
   omega
 · rintro ⟨⟨h1, h2⟩, h3⟩
   refine ⟨h1, ?_⟩
   have hn : nums P x = true := by
    unfold nums
    rw [Bool.and_eq_true, decide_eq_true_eq]
    refine ⟨h2, List.all_eq_true.2 fun v hv => ?_⟩
    have := List.all_eq_true.1 h1 v hv
    simp only [near1, decide_eq_true_eq] at this
    simp [isNum]
    omega
   have hb : l.findIdx? (fun b => !keepB x b) = none := brk_none fun j hj b hb => List.all_eq_true.1 h3 b (List.mem_of_getElem? hb)
   unfold keepsV breaksV
   rw [if_neg (by simpa using hk), if_neg (by rw [hn]; simp), hb]
   rfl
theorem plNear_at {x : List Int} {P : Int} (h : plNear x P = true) : (x.length : Int) = P ∧ ∀ i, i < x.length → -100000000 ≤ at_ x i ∧ at_ x i ≤ 100000000 := by
 unfold plNear at h
 rw [Bool.and_eq_true, decide_eq_true_eq] at h
 refine ⟨h.2, fun i hi => ?_⟩
 have := List.all_eq_true.1 h.1 (x[i]) (List.getElem_mem hi)
 simp only [near1, decide_eq_true_eq] at this
 simpa [at_, List.getD_eq_getElem?_getD, List.getElem?_eq_getElem hi] using this
end Go.Proofs.YtjjmifcjailpaaaGreat
