/- What is left is needed: ends and contradictions rest on just their Ids. -/
import Derived.Test.YthlnialipjihdaaOnly
import Derived.Test.YthlnialipjihdaaShort
set_option linter.unusedSimpArgs false
set_option linter.unusedVariables false
namespace Go.Proofs.Ythlnialipjihdaa
open Go.RowKit

theorem mem_only {l : List Bnd} {S : List Int} {c : Bnd} : c ∈ onlyL l S ↔ c ∈ l ∧ (c.b ∈ S ∨ c.b = 0) := by
  unfold onlyL
  rw [List.mem_filter]
  simp
theorem mem_drop1 {l : List Bnd} {id : Int} {c : Bnd} : c ∈ dropL l [id] ↔ c ∈ l ∧ c.b ≠ id := by
  unfold dropL
  rw [List.mem_filter]
  simp
theorem mem_erase_ne {L : List Int} {n : Nat} {x y : Int} (hx : x ∈ L) (hn : L[n]? = some y) (hne : x ≠ y) : x ∈ L.eraseIdx n := by
  obtain ⟨i, hi⟩ := List.getElem?_of_mem hx
  have hin : i ≠ n := fun e => by rw [e, hn] at hi; injection hi with hi; exact hne hi.symm
  rw [List.mem_eraseIdx_iff_getElem?]
  exact ⟨i, hin, hi⟩

/-- WHAT THE LOOP LEAVES: it still holds, and without any one of them not. -/
theorem lessLoop_spec (holds : List Bnd → Bool) (l : List Bnd) (mono : ∀ (V : List Int) (id : Int) (S : List Int), (∀ c ∈ dropL (onlyL l V) [id], c ∈ onlyL l S) → holds (dropL (onlyL l V) [id]) = true → holds (onlyL l S) = true) :
    ∀ (n : Nat) (kept : List Int), n ≤ kept.length → kept.Nodup → (∀ x ∈ lessLoop holds l n kept, x ∈ kept) ∧ (lessLoop holds l n kept).Nodup ∧ (holds (onlyL l kept) = true → holds (onlyL l (lessLoop holds l n kept)) = true) ∧
      ∀ id ∈ lessLoop holds l n kept, (∃ i, i < n ∧ kept[i]? = some id) → holds (dropL (onlyL l (lessLoop holds l n kept)) [id]) = false
  | 0, kept, _, hd => ⟨fun _ h => h, hd, id, fun _ _ ⟨i, hi, _⟩ => absurd hi (Nat.not_lt_zero i)⟩
  | n + 1, kept, hn, hd => by
    unfold lessLoop
    by_cases hh : holds (onlyL l (kept.eraseIdx n)) = true
    · rw [if_pos hh]
      have hd' : (kept.eraseIdx n).Nodup := hd.sublist (List.eraseIdx_sublist ..)
      obtain ⟨h1, h2, h3, h4⟩ := lessLoop_spec holds l mono n (kept.eraseIdx n) (by rw [List.length_eraseIdx, if_pos (by omega)]; omega) hd'
      refine ⟨fun x hx => List.mem_of_mem_eraseIdx (h1 x hx), h2, fun _ => h3 hh, fun id hid ⟨i, hi, hk⟩ => ?_⟩
      have hin : i ≠ n := fun e => by
        subst e
        have hm := h1 id hid
        rw [List.mem_eraseIdx_iff_getElem?] at hm
        obtain ⟨j, hj, hjk⟩ := hm
        have := (List.getElem?_inj (i := i) (by omega) hd).1 (hk.trans hjk.symm)
        exact hj this.symm
      exact h4 id hid ⟨i, by omega, by rw [List.getElem?_eraseIdx, if_pos (by omega)]; exact hk⟩
    · rw [if_neg hh]
      obtain ⟨h1, h2, h3, h4⟩ := lessLoop_spec holds l mono n kept (by omega) hd
      refine ⟨h1, h2, h3, fun id hid ⟨i, hi, hk⟩ => ?_⟩
      by_cases hin : i = n
      · subst hin
        cases hx : holds (dropL (onlyL l (lessLoop holds l i kept)) [id]) with
        | false => rfl
        | true =>
          exfalso
          refine hh (mono _ id _ (fun c hc => ?_) hx)
          obtain ⟨hc1, hc2⟩ := mem_drop1.1 hc
          obtain ⟨hc3, hc4⟩ := mem_only.1 hc1
          refine mem_only.2 ⟨hc3, ?_⟩
          rcases hc4 with h | h
          · exact .inl (mem_erase_ne (h1 _ h) hk hc2)
          · exact .inr h
      · exact h4 id hid ⟨i, by omega, hk⟩

theorem needed_spec (holds : List Bnd → Bool) {l : List Bnd} (hl : holds l = true) (mono : ∀ (V : List Int) (id : Int) (S : List Int), (∀ c ∈ dropL (onlyL l V) [id], c ∈ onlyL l S) → holds (dropL (onlyL l V) [id]) = true → holds (onlyL l S) = true) :
    (∀ x ∈ neededV holds l, x ∈ idsL l) ∧ holds (onlyL l (neededV holds l)) = true ∧ ∀ id ∈ neededV holds l, holds (dropL (onlyL l (neededV holds l)) [id]) = false := by
  rw [neededV_loop]
  obtain ⟨h1, h2, h3, h4⟩ := lessLoop_spec holds l mono (idsL l).length (idsL l) (Nat.le_refl _) (sorted_nodup (idsL_sorted l))
  refine ⟨h1, h3 (by rw [only_all]; exact hl), fun id hid => h4 id hid ?_⟩
  obtain ⟨i, hi⟩ := List.getElem?_of_mem (h1 id hid)
  exact ⟨i, (List.getElem?_eq_some_iff.1 hi).1, hi⟩

theorem chk_drop {p : Int} {l : List Bnd} (hk : chk p l = 0) (S : List Int) : chk p (dropL l S) = 0 := by
  obtain ⟨h1, h2, h3, h4⟩ := chk_ok hk
  have hl : (dropL l S).length ≤ l.length := List.length_filter_le _ _
  unfold chk
  rw [if_neg (by omega), if_neg (by omega), if_pos]
  rw [List.all_eq_true]
  exact fun x hx => h4 x (List.mem_filter.1 hx).1
theorem dropL_sub {l : List Bnd} {S : List Int} : ∀ c ∈ dropL l S, c ∈ l := fun _ hc => (List.mem_filter.1 hc).1

theorem solveV_some {P : Int} {l : List Bnd} (hk : chk P l = 0) (hs : (settle l P.toNat zeros).isSome = true) : ∃ Z, solveV P l = (Z, true, 0) := by
  obtain ⟨z, hz⟩ := Option.isSome_iff_exists.1 hs
  have hg : gcode P l [] = 0 := by unfold gcode; rw [if_pos hk]; rfl
  exact ⟨z.take P.toNat, by unfold solveV; rw [if_pos hg, hz]⟩
theorem solveV_none {P : Int} {l : List Bnd} (hk : chk P l = 0) (hs : (settle l P.toNat zeros).isSome = false) : solveV P l = ([], false, 0) := by
  have hg : gcode P l [] = 0 := by unfold gcode; rw [if_pos hk]; rfl
  unfold solveV
  rw [if_pos hg]
  cases hz : settle l P.toNat zeros with
  | none => rfl
  | some z => rw [hz] at hs; cases hs
theorem withoutC_zero {P : Int} {l l2 : List Bnd} {id : Int} (hk : chk P l = 0) (hk2 : chk P l2 = 0) (hid : id ∈ idsL l2) : withoutC P l id = 0 := by
  obtain ⟨-, x, hx, rfl⟩ := mem_idsL.1 hid
  obtain ⟨-, -, -, h⟩ := chk_ok hk2
  have := of_decide_eq_true (h x hx)
  unfold withoutC
  rw [if_pos hk, if_pos (by simp; omega)]

theorem fin_inj_ {x y : Int} (h1 : fin x = fin y) (h2 : isF x = isF y) : x = y := by
  unfold fin isF at *
  by_cases hx : x = Inf
  · by_cases hy : y = Inf
    · rw [hx, hy]
    · simp [hx, hy] at h2
  · by_cases hy : y = Inf
    · simp [hx, hy] at h2
    · rw [if_neg hx, if_neg hy] at h1; exact h1

/-- A CONTRADICTION RESTS ON JUST ITS IDS. -/
theorem doubt_spec {P : Int} {l : List Bnd} (hk : chk P l = 0) (hs : (settle l P.toNat zeros).isSome = false) :
    (∀ x ∈ neededV (holdsD P.toNat) l, x ∈ idsL l) ∧ solveV P (onlyL l (neededV (holdsD P.toNat) l)) = ([], false, 0) ∧ ∀ id ∈ neededV (holdsD P.toNat) l, withoutC P (onlyL l (neededV (holdsD P.toNat) l)) id = 0 ∧ ∃ Z, solveV P (dropL (onlyL l (neededV (holdsD P.toNat) l)) [id]) = (Z, true, 0) := by
  obtain ⟨h1, h2, h3⟩ := needed_spec (holdsD P.toNat) (l := l) (by unfold holdsD; rw [hs]; rfl) (fun V id S hsub hh => by
    unfold holdsD at hh ⊢
    cases hS : (settle (onlyL l S) P.toNat zeros).isSome with
    | false => rfl
    | true =>
      have := sub_solved (chk_drop (chk_only hk V) [id]) (chk_only hk S) hsub hS
      rw [this] at hh; cases hh)
  refine ⟨h1, solveV_none (chk_only hk _) (by have e : (!(settle (onlyL l (neededV (holdsD P.toNat) l)) P.toNat zeros).isSome) = true := h2; generalize (settle (onlyL l (neededV (holdsD P.toNat) l)) P.toNat zeros).isSome = T at *; cases T; rfl; cases e), fun id hid => ⟨withoutC_zero (chk_only hk _) hk (h1 id hid), solveV_some (chk_drop (chk_only hk _) _) ?_⟩⟩
  have e : (!(settle (dropL (onlyL l (neededV (holdsD P.toNat) l)) [id]) P.toNat zeros).isSome) = false := h3 id hid
  generalize (settle (dropL (onlyL l (neededV (holdsD P.toNat) l)) [id]) P.toNat zeros).isSome = T at *
  cases T
  · cases e
  · rfl

theorem endV_ok {P a b : Int} {l : List Bnd} (u : Bool) (hk : chk P l = 0) (hs : (settle l P.toNat zeros).isSome = true) (hp : [a, b].all (isPt P) = true) :
    endV P l a b u = .tuple #[.int .i64 (endW l P.toNat a.toNat b.toNat u).1, .bool (endW l P.toNat a.toNat b.toNat u).2, .int .i64 0] := by
  have h0 : scode P l [a, b] = 0 := by
    have hg : gcode P l [a, b] = 0 := by unfold gcode; rw [if_pos hk, if_pos hp]
    unfold scode; rw [if_pos hg, if_pos hs]
  unfold endV endW
  rw [if_pos h0]
  cases u <;> rfl

/-- AN END RESTS ON JUST ITS IDS. -/
theorem rests_spec {P a b : Int} {l : List Bnd} {u : Bool} (hk : chk P l = 0) (hs : (settle l P.toNat zeros).isSome = true) (hpt : [a, b].all (isPt P) = true) (N : Int) (hN : endW l P.toNat a.toNat b.toNat u = (N, true)) :
    let V := neededV (holdsR P.toNat a.toNat b.toNat u N) l
    (∀ x ∈ V, x ∈ idsL l) ∧ endV P (onlyL l V) a b u = .tuple #[.int .i64 N, .bool true, .int .i64 0] ∧
      ∀ id ∈ V, withoutC P (onlyL l V) id = 0 ∧ ∃ M t, endV P (dropL (onlyL l V) [id]) a b u = .tuple #[.int .i64 M, .bool t, .int .i64 0] ∧ (t && decide (M = N)) = false := by
  intro V
  have hp := hpt
  simp only [List.all_cons, List.all_nil, Bool.and_true, Bool.and_eq_true, isPt, decide_eq_true_eq] at hp
  obtain ⟨hp1, hp2, -, -⟩ := chk_ok hk
  have key : ∀ {x y : Nat} {A S : List Bnd}, x < 60 → chk P A = 0 → chk P S = 0 → (∀ c ∈ A, c ∈ S) → (∀ c ∈ S, c ∈ l) → dist A P.toNat x y = dist l P.toNat x y → dist S P.toNat x y = dist l P.toNat x y := fun {x y A S} hx cA cS h1 h2 he => by
    have sS := sub_solved cS hk h2 hs
    have g1 := dist_sub (a := x) cA cS h1 sS hx y
    have g2 := dist_sub (a := x) cS hk h2 hs hx y
    omega
  have bd : ∀ {x y : Nat} {A : List Bnd}, isF (dist l P.toNat x y) = true → fin (dist A P.toNat x y) = fin (dist l P.toNat x y) → isF (dist A P.toNat x y) = true → dist A P.toNat x y = dist l P.toNat x y := fun h1 h2 h3 => fin_inj_ h2 (h3.trans h1.symm)
  obtain ⟨h1, h2, h3⟩ := needed_spec (holdsR P.toNat a.toNat b.toNat u N) (l := l) (by unfold holdsR; rw [hN]; simp) (fun V id S hsub hh => by
    have cA := chk_drop (chk_only hk V) [id]
    have cS := chk_only hk S
    unfold holdsR at hh ⊢
    cases u
    · simp only [endW, Bool.false_eq_true, if_false, Prod.mk.injEq] at hN hh ⊢
      rw [Bool.and_eq_true, decide_eq_true_eq] at hh
      have hd := bd hN.2 (by have := hN.1; have := hh.2; omega) hh.1
      have := key (by omega) cA cS hsub onlyL_sub hd
      rw [this, Bool.and_eq_true, decide_eq_true_eq]
      exact ⟨hN.2, hN.1⟩
    · simp only [endW, if_true, Prod.mk.injEq] at hN hh ⊢
      rw [Bool.and_eq_true, decide_eq_true_eq] at hh
      have hd := bd hN.2 (by have := hN.1; have := hh.2; omega) hh.1
      have := key (by omega) cA cS hsub onlyL_sub hd
      rw [this, Bool.and_eq_true, decide_eq_true_eq]
      exact ⟨hN.2, hN.1⟩)
  have cV := chk_only hk V
  have sV := sub_solved cV hk onlyL_sub hs
  refine ⟨h1, ?_, fun id hid => ⟨withoutC_zero cV hk (h1 id hid), _, _, endV_ok u (chk_drop cV _) (sub_solved (chk_drop cV _) cV dropL_sub sV) hpt, ?_⟩⟩
  · rw [endV_ok u cV sV hpt]
    have e : ((endW (onlyL l V) P.toNat a.toNat b.toNat u).2 && decide ((endW (onlyL l V) P.toNat a.toNat b.toNat u).1 = N)) = true := h2
    rw [Bool.and_eq_true, decide_eq_true_eq] at e
    rw [e.1, e.2]
  · exact h3 id hid
end Go.Proofs.Ythlnialipjihdaa
