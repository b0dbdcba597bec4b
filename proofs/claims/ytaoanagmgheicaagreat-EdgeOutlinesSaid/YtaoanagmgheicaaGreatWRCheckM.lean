import Derived.Test.YtaoanagmgheicaaGreatWClosed
import Derived.Test.YtaoanagmgheicaaGreatWRWalk
set_option linter.unusedSimpArgs false
set_option linter.unusedVariables false
namespace Go.Proofs.YtaoanagmgheicaaGreat
open Go.RowKit
def frL (l : List Bnd) (x : List Int) : List Int := x.map (fun i => (bnd l i).f)
def toL (l : List Bnd) (x : List Int) : List Int := x.map (fun i => (bnd l i).t)
def lastT (l : List Bnd) (x : List Int) : Int := (bnd l (at_ x (x.length - 1))).t
theorem bnd_of {l : List Bnd} {i : Int} {b : Bnd} (h : l[i.toNat]? = some b) : bnd l i = b := by unfold bnd; rw [List.getD_eq_getElem?_getD, h]; rfl
def qNe (q : Option Int) (f : Int) : Bool := match q with | some t => decide (t ≠ f) | none => false
theorem chainG_in {l : List Bnd} {i : Int} {b : Bnd} {r : List Int} {L : List Bool} {q : Option Int} {s : Int} (h0 : 0 ≤ i) (h : l[i.toNat]? = some b) {g : Bool} (hg : qNe q b.f = g) :
 chainG l (i :: r) L q s = if (atB L b.f.toNat || g) = true then (0, false) else chainG l r (L.set b.f.toNat true) (some b.t) (s + b.m) := by
 have hk := (List.getElem?_eq_some_iff.1 h).1
 subst hg
 rw [chainG, if_pos (by omega)]
 simp only [h]
 cases q <;> rfl
theorem chainG_out {l : List Bnd} {i : Int} {r : List Int} {L : List Bool} {q : Option Int} {s : Int} (h : ¬ (0 ≤ i ∧ i < l.length)) : chainG l (i :: r) L q s = (0, false) := by
 rw [chainG, if_neg (by omega)]
theorem atB_same (L : List Bool) (i : Nat) (h : i < L.length) : atB (L.set i true) i = true := by
 simp [atB, List.getD_eq_getElem?_getD, h]
theorem walkR_chain {l : List Bnd} (hok : OkB l) : ∀ (x F T : List Int) (L : List Bool) (q : Option Int) (s : Int), L.length = 60 → (∀ v : Int, 0 ≤ v → v < 60 → F.contains v = atB L v.toNat) → T.getLast? = q → T.Nodup →
 walkR l x F T s = if (chainG l x L q s).2 = true ∧ (T ++ toL l x).Nodup then chainG l x L q s else (0, false)
 | [], F, T, L, q, s, _, _, _, hT => by
  rw [show toL l [] = [] from rfl, List.append_nil, if_pos ⟨rfl, hT⟩]
  rfl
 | i :: r, F, T, L, q, s, hL, hF, hq, hT => by
  by_cases hi : 0 ≤ i ∧ i < l.length
  · obtain ⟨k, rfl⟩ := Int.eq_ofNat_of_zero_le hi.1
    obtain ⟨b, hb⟩ : ∃ b, l[k]? = some b := ⟨l[k]'(by omega), List.getElem?_eq_getElem _⟩
    obtain ⟨f0, f1, -, -, -, -⟩ := hok b (List.mem_of_getElem? hb)
    have hb' : l[(k : Int).toNat]? = some b := by rw [Int.toNat_natCast]; exact hb
    have hln : qNe q b.f = lastNe T b.f := by rw [← hq]; rfl
    rw [walkR_in hb, chainG_in hi.1 hb' hln, hF b.f f0 f1]
    by_cases hc : (atB L b.f.toNat || lastNe T b.f) = true
    · have hW : (atB L b.f.toNat || T.contains b.t || lastNe T b.f) = true := by
       rw [Bool.or_eq_true] at hc
       rcases hc with h | h
       · rw [h]; rfl
       · rw [h, Bool.or_true]
      rw [if_pos hc, if_pos hW]
      exact (if_neg (fun h => by cases h.1)).symm
    · rw [if_neg hc]
      have htl : toL l ((k : Int) :: r) = b.t :: toL l r := by unfold toL; rw [List.map_cons, bnd_of hb']
      rw [htl]
      by_cases ht : T.contains b.t = true
      · rw [if_pos (show (atB L b.f.toNat || T.contains b.t || lastNe T b.f) = true from by rw [ht]; simp), if_neg (by
         rintro ⟨_, h⟩
         rw [List.nodup_append] at h
         exact h.2.2 b.t (by simpa using ht) b.t (List.mem_cons_self ..) rfl)]
      · have ht' : T.contains b.t = false := by simpa using ht
        simp only [Bool.not_eq_true, Bool.or_eq_false_iff] at hc
        rw [if_neg (show ¬ (atB L b.f.toNat || T.contains b.t || lastNe T b.f) = true from by rw [hc.1, ht', hc.2]; simp)]
        have ih := walkR_chain hok r (F ++ [b.f]) (T ++ [b.t]) (L.set b.f.toNat true) (some b.t) (s + b.m) (by rw [List.length_set]; exact hL) (fun v v0 v1 => by
         by_cases hv : v = b.f
         · subst hv
           rw [atB_same _ _ (by omega)]
           simp
         · rw [atB_set _ _ _ (by omega), ← hF v v0 v1]
           simp [hv]) (by simp) (by
         rw [List.nodup_append]
         exact ⟨hT, by simp, fun a ha c hc2 => by
          rw [List.mem_singleton] at hc2
          subst hc2
          intro e
          subst e
          exact ht (by simpa using ha)⟩)
        rw [ih, List.append_assoc]
        rfl
  · rw [walkR_out hi, chainG_out hi, if_neg (by rintro ⟨h, _⟩; cases h)]
theorem walkR_eq {l : List Bnd} (hok : OkB l) (x : List Int) : walkR l x [] [] 0 = if (chainV l x).2 = true ∧ (toL l x).Nodup then chainV l x else (0, false) := by
 have := walkR_chain hok x [] [] noB none 0 rfl (fun v _ _ => by rw [noB_at]; rfl) rfl List.nodup_nil
 rw [List.nil_append] at this
 exact this
theorem chain_lists {l : List Bnd} (hok : OkB l) : ∀ {x : List Int} {L : List Bool} {q : Option Int} {s z : Int}, L.length = 60 → chainG l x L q s = (z, true) →
 (frL l x).Nodup ∧ (∀ v ∈ frL l x, 0 ≤ v ∧ v < 60 ∧ atB L v.toNat = false) ∧ (x ≠ [] → toL l x = (frL l x).tail ++ [lastT l x]) ∧ (∀ t, q = some t → x ≠ [] → (frL l x).head? = some t)
 | [], _, _, _, _, _, _ => ⟨List.nodup_nil, (by intro v hv; simp [frL] at hv), fun h => absurd rfl h, fun _ _ h => absurd rfl h⟩
 | i :: r, L, q, s, z, hL, h => by
  by_cases hi : 0 ≤ i ∧ i < l.length
  · obtain ⟨k, rfl⟩ := Int.eq_ofNat_of_zero_le hi.1
    obtain ⟨b, hb⟩ : ∃ b, l[k]? = some b := ⟨l[k]'(by omega), List.getElem?_eq_getElem _⟩
    obtain ⟨f0, f1, -, -, -, -⟩ := hok b (List.mem_of_getElem? hb)
    have hb' : l[(k : Int).toNat]? = some b := by rw [Int.toNat_natCast]; exact hb
    obtain ⟨g, hg⟩ : ∃ g, qNe q b.f = g := ⟨_, rfl⟩
    rw [chainG_in hi.1 hb' hg] at h
    by_cases hc : (atB L b.f.toNat || g) = true
    · rw [if_pos hc] at h; injection h with _ h; cases h
    · rw [if_neg hc] at h
      simp only [Bool.not_eq_true, Bool.or_eq_false_iff] at hc
      obtain ⟨h1, h2, h3, h4⟩ := chain_lists hok (by rw [List.length_set]; exact hL) h
      have hfl : frL l ((k : Int) :: r) = b.f :: frL l r := by unfold frL; rw [List.map_cons, bnd_of hb']
      have htl : toL l ((k : Int) :: r) = b.t :: toL l r := by unfold toL; rw [List.map_cons, bnd_of hb']
      rw [hfl, htl]
      refine ⟨?_, ?_, fun _ => ?_, fun t ht _ => ?_⟩
      · rw [List.nodup_cons]
        refine ⟨fun hm => ?_, h1⟩
        have := (h2 _ hm).2.2
        rw [atB_same _ _ (by omega)] at this
        cases this
      · intro v hv
        rcases List.mem_cons.1 hv with rfl | hv
        · exact ⟨f0, f1, hc.1⟩
        · obtain ⟨v0, v1, v2⟩ := h2 v hv
          refine ⟨v0, v1, ?_⟩
          by_cases e : v = b.f
          · subst e; exact hc.1
          · rw [atB_set _ _ _ (by omega)] at v2; exact v2
      · by_cases hr : r = []
        · subst hr
          show [b.t] = [lastT l [(k : Int)]]
          unfold lastT
          rw [show at_ [(k : Int)] ([(k : Int)].length - 1) = (k : Int) from rfl, bnd_of hb']
        · have e1 := h3 hr
          have e2 := h4 _ rfl hr
          have e3 : lastT l ((k : Int) :: r) = lastT l r := by
           unfold lastT
           obtain ⟨j, r', rfl⟩ := List.exists_cons_of_ne_nil hr
           simp [at_]
          rw [e3, e1, List.tail_cons]
          obtain ⟨y, ys, hy⟩ := List.exists_cons_of_ne_nil (show frL l r ≠ [] from by unfold frL; simpa using hr)
          rw [hy] at e2 ⊢
          rw [List.head?_cons] at e2
          injection e2 with e2
          rw [List.tail_cons, e2]
          rfl
      · subst ht
        rw [List.head?_cons]
        rw [← hg] at hc
        unfold qNe at hc
        simp only [ne_eq, decide_eq_false_iff_not, Decidable.not_not] at hc
        rw [hc.2]
  · rw [chainG_out hi] at h; injection h with _ h; cases h
theorem fr_head {l : List Bnd} {x : List Int} (hx : x ≠ []) : frL l x = (bnd l (at_ x 0)).f :: (frL l x).tail := by
 obtain ⟨i, r, rfl⟩ := List.exists_cons_of_ne_nil hx
 rfl
def rcircV (l : List Bnd) (x : List Int) : Bool := (walkR l x [] [] 0).2 && decide (2 ≤ x.length) && decide ((walkR l x [] [] 0).1 < 0) && decide ((bnd l (at_ x 0)).f = lastT l x)
theorem rcirc_eq {p : Int} {l : List Bnd} {x : List Int} (hk : chk p l = 0) : checkCircleV p l x = (rcircV l x, 0) := by
 have hok := okB_of hk
 have hg : gcode p l [] = 0 := by unfold gcode; simp [hk]
 unfold checkCircleV rcircV
 rw [if_pos hg, walkR_eq hok]
 obtain ⟨V, hV⟩ : ∃ V, chainV l x = V := ⟨_, rfl⟩
 obtain ⟨s, ok⟩ := V
 rw [hV]
 cases ok
 · simp
 · by_cases h2 : x.length < 2
   · simp [h2]; omega
   · have hx : x ≠ [] := fun e => by rw [e] at h2; exact h2 (by decide)
     obtain ⟨l1, l2, l3, -⟩ := chain_lists hok rfl (show chainG l x noB none 0 = (s, true) from hV)
     rw [if_neg (by simp), if_neg h2]
     by_cases hcl : lastT l x = (bnd l (at_ x 0)).f
     · have hnd : (toL l x).Nodup := by
        rw [l3 hx, hcl]
        refine ((List.perm_append_singleton _ _).nodup_iff).2 ?_
        rw [← fr_head hx]; exact l1
       rw [if_pos ⟨rfl, hnd⟩]
       unfold lastT at hcl
       simp only [hcl]
       unfold lastT
       simp only [hcl]
       simp
       omega
     · have h3 : ¬ (bnd l (at_ x (x.length - 1))).t = (bnd l (at_ x 0)).f := hcl
       have h4 : ¬ (bnd l (at_ x 0)).f = lastT l x := fun e => hcl e.symm
       simp [h3, h4]
end Go.Proofs.YtaoanagmgheicaaGreat
