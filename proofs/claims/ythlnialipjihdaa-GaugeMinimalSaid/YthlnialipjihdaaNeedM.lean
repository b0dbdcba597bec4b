/- What rests on what: leaving out by index comes to the same as leaving out by Id. -/
import Derived.Test.YthlnialipjihdaaRst
import Derived.Test.YthlnialipjihdaaShort
set_option linter.unusedSimpArgs false
set_option linter.unusedVariables false
namespace Go.Proofs.Ythlnialipjihdaa
open Go.RowKit

def allL (l : List Bnd) : List Int := l.foldl (fun acc x => if 0 < x.b then insU x.b acc else acc) []
def onlyL (l : List Bnd) (S : List Int) : List Bnd := l.filter (fun x => S.contains x.b || decide (x.b = 0))
/-- The reference's loop: so many indices are left. -/
def lessLoop (holds : List Bnd → Bool) (l : List Bnd) : Nat → List Int → List Int
  | 0, kept => kept
  | i + 1, kept => lessLoop holds l i (if holds (onlyL l (kept.eraseIdx i)) = true then kept.eraseIdx i else kept)

theorem sorted_ext : ∀ {a b : List Int}, a.Pairwise (· < ·) → b.Pairwise (· < ·) → (∀ x, x ∈ a ↔ x ∈ b) → a = b
  | [], [], _, _, _ => rfl
  | [], y :: b, _, _, h => by have := (h y).2 (List.mem_cons_self ..); cases this
  | x :: a, [], _, _, h => by have := (h x).1 (List.mem_cons_self ..); cases this
  | x :: a, y :: b, ha, hb, h => by
    obtain ⟨hx, ha'⟩ := List.pairwise_cons.1 ha
    obtain ⟨hy, hb'⟩ := List.pairwise_cons.1 hb
    have e : x = y := by
      rcases List.mem_cons.1 ((h x).1 (List.mem_cons_self ..)) with e | e
      · exact e
      · rcases List.mem_cons.1 ((h y).2 (List.mem_cons_self ..)) with e2 | e2
        · exact e2.symm
        · have := hx y e2; have := hy x e; omega
    subst e
    congr 1
    refine sorted_ext ha' hb' (fun z => ⟨fun hz => ?_, fun hz => ?_⟩)
    · rcases List.mem_cons.1 ((h z).1 (List.mem_cons_of_mem _ hz)) with e | e
      · subst e; have := hx z hz; omega
      · exact e
    · rcases List.mem_cons.1 ((h z).2 (List.mem_cons_of_mem _ hz)) with e | e
      · subst e; have := hy z hz; omega
      · exact e
theorem allL_spec : ∀ (l : List Bnd) (acc : List Int), acc.Pairwise (· < ·) → (l.foldl (fun acc x => if 0 < x.b then insU x.b acc else acc) acc).Pairwise (· < ·) ∧ ∀ z, z ∈ l.foldl (fun acc x => if 0 < x.b then insU x.b acc else acc) acc ↔ z ∈ acc ∨ (0 < z ∧ ∃ x ∈ l, x.b = z)
  | [], acc, h => ⟨h, fun z => by simp⟩
  | x :: l, acc, h => by
    rw [List.foldl_cons]
    by_cases hx : 0 < x.b
    · rw [if_pos hx]
      obtain ⟨h1, h2⟩ := allL_spec l (insU x.b acc) (insU_sorted _ _ h)
      refine ⟨h1, fun z => ?_⟩
      rw [h2, mem_insU]
      constructor
      · rintro ((rfl | hz) | ⟨h0, y, hy, rfl⟩)
        · exact .inr ⟨hx, x, List.mem_cons_self .., rfl⟩
        · exact .inl hz
        · exact .inr ⟨h0, y, List.mem_cons_of_mem _ hy, rfl⟩
      · rintro (hz | ⟨h0, y, hy, rfl⟩)
        · exact .inl (.inr hz)
        · rcases List.mem_cons.1 hy with rfl | hy
          · exact .inl (.inl rfl)
          · exact .inr ⟨h0, y, hy, rfl⟩
    · rw [if_neg hx]
      obtain ⟨h1, h2⟩ := allL_spec l acc h
      refine ⟨h1, fun z => ?_⟩
      rw [h2]
      constructor
      · rintro (hz | ⟨h0, y, hy, rfl⟩)
        · exact .inl hz
        · exact .inr ⟨h0, y, List.mem_cons_of_mem _ hy, rfl⟩
      · rintro (hz | ⟨h0, y, hy, rfl⟩)
        · exact .inl hz
        · rcases List.mem_cons.1 hy with rfl | hy
          · exact absurd h0 hx
          · exact .inr ⟨h0, y, hy, rfl⟩
theorem allL_idsL {l : List Bnd} (h : ∀ x ∈ l, 0 ≤ x.b) : allL l = idsL l := by
  obtain ⟨h1, h2⟩ := allL_spec l [] List.Pairwise.nil
  refine sorted_ext h1 (idsL_sorted l) (fun z => ?_)
  show z ∈ l.foldl _ [] ↔ _
  rw [h2, mem_idsL]
  constructor
  · rintro (hz | ⟨h0, y, hy, e⟩)
    · cases hz
    · exact ⟨by omega, y, hy, e⟩
  · rintro ⟨h0, y, hy, e⟩
    have := h y hy
    exact .inr ⟨by omega, y, hy, e⟩

theorem only_all (l : List Bnd) : onlyL l (idsL l) = l := by
  unfold onlyL
  rw [List.filter_eq_self]
  intro x hx
  by_cases h : x.b = 0
  · simp [h]
  · have : x.b ∈ idsL l := mem_idsL.2 ⟨h, x, hx, rfl⟩
    simp [this]
theorem drop_only {l : List Bnd} {A B : List Int} {id : Int} (h0 : id ≠ 0) (hA : id ∉ A) (hB : id ∉ B) : dropL (onlyL l (A ++ id :: B)) [id] = onlyL l (A ++ B) := by
  unfold dropL onlyL
  rw [List.filter_filter]
  apply List.filter_congr
  intro x _
  by_cases hx : x.b = id
  · simp [hx, h0, hA, hB]
  · simp [hx]

/-- BY INDEX AS BY ID. -/
theorem needed_loop (holds : List Bnd → Bool) (l : List Bnd) : ∀ (n : Nat) (pre post : List Int), pre.length = n → (pre ++ post).Nodup → (0 : Int) ∉ pre ++ post →
    ((pre.reverse).foldl (dropStep holds) (onlyL l (pre ++ post), post.reverse)).2.reverse = lessLoop holds l n (pre ++ post)
  | 0, pre, post, hn, _, _ => by
    have : pre = [] := List.length_eq_zero_iff.1 hn
    subst this
    simp [lessLoop]
  | n + 1, pre, post, hn, hd, h0 => by
    have hne : pre ≠ [] := fun e => by rw [e] at hn; simp at hn
    obtain ⟨pre', id, rfl⟩ : ∃ r i, pre = r ++ [i] := ⟨pre.dropLast, pre.getLast hne, (List.dropLast_concat_getLast hne).symm⟩
    have hl : pre'.length = n := by simp at hn; exact hn
    rw [List.append_assoc, List.singleton_append] at hd h0 ⊢
    have hid0 : id ≠ 0 := fun e => h0 (by rw [e]; simp)
    obtain ⟨d1, d2, d3⟩ := List.nodup_append.1 hd
    have hA : id ∉ pre' := fun h => d3 id h id (List.mem_cons_self ..) rfl
    have hB : id ∉ post := (List.nodup_cons.1 d2).1
    have hE : (pre' ++ id :: post).eraseIdx n = pre' ++ post := by
      rw [List.eraseIdx_append_of_length_le (by omega), hl, Nat.sub_self, List.eraseIdx_cons_zero]
    have hsub : (pre' ++ post).Nodup := by
      rw [← hE]
      exact hd.sublist (List.eraseIdx_sublist ..)
    rw [List.reverse_append, List.reverse_singleton, List.singleton_append, List.foldl_cons]
    unfold lessLoop
    rw [hE]
    unfold dropStep
    dsimp only
    rw [drop_only hid0 hA hB]
    by_cases hh : holds (onlyL l (pre' ++ post)) = true
    · rw [if_pos hh, if_pos hh]
      exact needed_loop holds l n pre' post hl hsub (fun h => h0 (by rcases List.mem_append.1 h with h | h; exact List.mem_append_left _ h; exact List.mem_append_right _ (List.mem_cons_of_mem _ h)))
    · rw [if_neg hh, if_neg hh, ← List.reverse_cons]
      exact needed_loop holds l n pre' (id :: post) hl hd h0
theorem sorted_nodup {L : List Int} (h : L.Pairwise (· < ·)) : L.Nodup := h.imp (fun h => by omega)
theorem neededV_loop (holds : List Bnd → Bool) (l : List Bnd) : neededV holds l = lessLoop holds l (idsL l).length (idsL l) := by
  have h := needed_loop holds l (idsL l).length (idsL l) [] rfl (by rw [List.append_nil]; exact sorted_nodup (idsL_sorted l)) (by rw [List.append_nil]; exact fun h => (mem_idsL.1 h).1 rfl)
  rw [List.append_nil, only_all] at h
  exact h
theorem lessLoop_length (holds : List Bnd → Bool) (l : List Bnd) : ∀ (n : Nat) (kept : List Int), (lessLoop holds l n kept).length ≤ kept.length
  | 0, _ => Nat.le_refl _
  | n + 1, kept => by
    unfold lessLoop
    refine Nat.le_trans (lessLoop_length holds l n _) ?_
    split
    · exact List.length_eraseIdx_le ..
    · exact Nat.le_refl _
theorem onlyL_sub {l : List Bnd} {S : List Int} : ∀ c ∈ onlyL l S, c ∈ l := fun _ hc => (List.mem_filter.1 hc).1
theorem chk_only {p : Int} {l : List Bnd} (hk : chk p l = 0) (S : List Int) : chk p (onlyL l S) = 0 := by
  obtain ⟨h1, h2, h3, h4⟩ := chk_ok hk
  have hl : (onlyL l S).length ≤ l.length := List.length_filter_le _ _
  unfold chk
  rw [if_neg (by omega), if_neg (by omega), if_pos]
  rw [List.all_eq_true]
  exact fun x hx => h4 x (onlyL_sub x hx)
end Go.Proofs.Ythlnialipjihdaa
