/- The reference's CheckCircle and CheckPath answer as ours; what Path finds is accepted. -/
import Derived.Test.YthlnialipjihdaaRCheck
import Derived.Test.YthlnialipjihdaaSharpM
set_option linter.unusedSimpArgs false
set_option linter.unusedVariables false
namespace Go.Proofs.Ythlnialipjihdaa
open Go.RowKit

theorem idx_at {l : List Bnd} {x : List Int} (h : ∀ i ∈ x, ∃ k b, i = Int.ofNat k ∧ l[k]? = some b) {j : Nat} (hj : j < x.length) :
    ∃ (k : Nat) (f t m i : Int), x[j]? = some (k : Int) ∧ l[k]? = some ⟨f, t, m, i⟩ ∧ bnd l (at_ x j) = ⟨f, t, m, i⟩ := by
  obtain ⟨k, b, e, hb⟩ := h (x[j]) (List.getElem_mem hj)
  obtain ⟨f, t, m, i⟩ := b
  have hx : x[j]? = some (k : Int) := by rw [List.getElem?_eq_getElem hj, e]; rfl
  refine ⟨k, f, t, m, i, hx, hb, ?_⟩
  rw [show at_ x j = (k : Int) from by simp [at_, hx]]
  exact bnd_of (by rw [Int.toNat_natCast]; exact hb)

theorem rCheckCircle_any (P : Int) (A : Option Addr) (n k : Nat) (l : List Bnd) (w : World) (hr : RdB w A n k l) (hn : n ≤ maxLen) (B : Option Addr) (m d : Nat) (x : List Int) (hx : RdI w B m d x) (hm : m ≤ 100) :
    Calls Try.prog 29 #[.agg #[.int .i64 P, .slice A n k], .slice B m d] w fun e w' => e = .returned (.tuple #[.bool (checkCircleV P l x).1, .int .i64 (checkCircleV P l x).2]) ∧ Below w.heap.size w w' := by
  by_cases hk : chk P l = 0
  · obtain ⟨hp1, hp2, hlen, -⟩ := chk_ok hk
    have hok := okB_of hk
    have hn4 : n ≤ 402 := by have := hr.len; omega
    have hxl := hx.len
    rw [rcirc_eq hk]
    unfold rcircV
    obtain ⟨V, hV⟩ : ∃ V, walkR l x [] [] 0 = V := ⟨_, rfl⟩
    obtain ⟨s, t⟩ := V
    cases t
    · have hV0 := walk_no hok (show (walkR l x [] [] 0).2 = false from by rw [hV])
      rw [hV0]
      exact rC_no P A n k l w hr hn B m d x hx hm hn4 (Lib.hid hok) (Lib.hid hk) (Lib.hid hV0)
    · rw [hV]
      by_cases h2 : m < 2
      · have : decide (2 ≤ x.length) = false := decide_eq_false (by omega)
        simp only [this, Bool.and_false, Bool.false_and]
        exact rC_short P A n k l w hr hn B m d x hx hm hn4 (Lib.hid hok) (Lib.hid hk) s (Lib.hid hV) h2
      · have h2' : decide (2 ≤ x.length) = true := decide_eq_true (by omega)
        obtain ⟨m, rfl⟩ : ∃ m', m = m' + 1 := ⟨m - 1, by omega⟩
        have hidx := walk_idx hok hV
        obtain ⟨k0, f0, t0, m0, i0, a1, a2, a3⟩ := idx_at hidx (j := 0) (by omega)
        obtain ⟨k1, f1, t1, m1, i1, c1, c2, c3⟩ := idx_at hidx (j := m) (by omega)
        have hlt : lastT l x = t1 := by unfold lastT; rw [show x.length - 1 = m from by omega, c3]
        simp only [h2', Bool.true_and, a3, hlt]
        by_cases hs : s < 0
        · by_cases hf : f0 = t1
          · subst hf
            simp only [hs, decide_true, Bool.and_self]
            exact rC_ok2 P A n k l w hr hn B m d x hx hm hn4 (Lib.hid hok) (Lib.hid hk) s (Lib.hid hV) (by omega) k0 k1 f0 t0 m0 i0 f1 m1 i1 a1 c1 a2 c2 (decide_eq_true hs)
          · simp only [hf, decide_false, Bool.and_false]
            exact rC_ok1 P A n k l w hr hn B m d x hx hm hn4 (Lib.hid hok) (Lib.hid hk) s (Lib.hid hV) (by omega) k0 k1 f0 t0 m0 i0 f1 t1 m1 i1 a1 c1 a2 c2 (decide_eq_true hs) (beq_eq_false_iff_ne.2 hf) (decide_eq_false hf) hf
        · simp only [hs, decide_false, Bool.false_and]
          exact rC_ok0 P A n k l w hr hn B m d x hx hm hn4 (Lib.hid hok) (Lib.hid hk) s (Lib.hid hV) (by omega) k0 k1 f0 t0 m0 i0 f1 t1 m1 i1 a1 c1 a2 c2 (decide_eq_false hs)
  · have hg : gcode P l [] = chk P l := by unfold gcode; rw [if_neg hk]
    have hv : checkCircleV P l x = (false, chk P l) := by unfold checkCircleV; rw [if_neg (by rw [hg]; exact hk), hg]
    rw [hv]
    exact rC_err P A n k l w hr hn B m d x hx hm _ (by simpa using hk) (Lib.hid rfl)

theorem rCheckPath_any (P a b N : Int) (A : Option Addr) (n k : Nat) (l : List Bnd) (w : World) (hr : RdB w A n k l) (hn : n ≤ maxLen) (B : Option Addr) (m d : Nat) (x : List Int) (hx : RdI w B m d x) (hm : m ≤ 100) :
    Calls Try.prog 39 #[.agg #[.int .i64 P, .slice A n k], .int .i64 a, .int .i64 b, .int .i64 N, .slice B m d] w fun e w' => e = .returned (.tuple #[.bool (checkPathV P l a b N x).1, .int .i64 (checkPathV P l a b N x).2]) ∧ Below w.heap.size w w' := by
  by_cases hg : gcode P l [a, b] = 0
  · obtain ⟨hk, -⟩ := gcode_ok hg
    obtain ⟨hp1, hp2, hlen, -⟩ := chk_ok hk
    have hok := okB_of hk
    have hn4 : n ≤ 402 := by have := hr.len; omega
    have hxl := hx.len
    by_cases hc : a = b ∨ x.length = 0
    · have hv : checkPathV P l a b N x = (decide (a = b ∧ x.length = 0 ∧ 0 ≤ N), 0) := by unfold checkPathV; rw [if_pos hg, if_pos hc]
      rw [hv]
      by_cases hx0 : m = 0
      · subst hx0
        obtain rfl : x = [] := List.length_eq_zero_iff.1 hxl
        by_cases hab : a = b
        · subst hab
          have : decide (a = a ∧ ([] : List Int).length = 0 ∧ 0 ≤ N) = decide (0 ≤ N) := by simp
          rw [this]
          exact rP_nil P a N A n k l w hr hn B d hx hn4 (Lib.hid hok) (Lib.hid hg) _ rfl
        · have : decide (a = b ∧ ([] : List Int).length = 0 ∧ 0 ≤ N) = false := decide_eq_false (fun h => hab h.1)
          rw [this]
          exact rP_nilb P a b N A n k l w hr hn B d hx hn4 (Lib.hid hok) (Lib.hid hg) (beq_eq_false_iff_ne.2 hab) (decide_eq_false hab) hab
      · have hab : a = b := hc.resolve_right (by omega)
        subst hab
        have : decide (a = a ∧ x.length = 0 ∧ 0 ≤ N) = false := decide_eq_false (fun h => by omega)
        rw [this]
        exact rP_self P a N A n k l w hr hn B m d x hx hm hn4 (Lib.hid hok) (Lib.hid hg) _ _ (Lib.hid rfl) (by omega)
    · rw [rpath_eq hg hc]
      have hab : ¬ a = b := fun e => hc (.inl e)
      have hm0 : 0 < m := by rw [← hxl]; exact Nat.pos_of_ne_zero (fun e => hc (.inr e))
      unfold rpathV
      obtain ⟨V, hV⟩ : ∃ V, walkR l x [] [] 0 = V := ⟨_, rfl⟩
      obtain ⟨s, t⟩ := V
      rw [hV]
      cases t
      · exact rP_no P a b N A n k l w hr hn B m d x hx hm hn4 (Lib.hid hok) (beq_eq_false_iff_ne.2 hab) (decide_eq_false hab) hab hm0 (Lib.hid hg) s (Lib.hid hV)
      · obtain ⟨m, rfl⟩ : ∃ m', m = m' + 1 := ⟨m - 1, by omega⟩
        have hidx := walk_idx hok hV
        obtain ⟨k0, f0, t0, m0, i0, a1, a2, a3⟩ := idx_at hidx (j := 0) (by omega)
        obtain ⟨k1, f1, t1, m1, i1, c1, c2, c3⟩ := idx_at hidx (j := m) (by omega)
        have hlt : lastT l x = t1 := by unfold lastT; rw [show x.length - 1 = m from by omega, c3]
        simp only [Bool.true_and, a3, hlt]
        by_cases hs : s ≤ N
        · by_cases hf : f0 = a
          · subst hf
            by_cases ht : t1 = b
            · subst ht
              simp only [hs, decide_true, Bool.and_self]
              exact rP_ok3 P f0 t1 N A n k l w hr hn B m d x hx hm hn4 (Lib.hid hok) (beq_eq_false_iff_ne.2 hab) (decide_eq_false hab) hab (Lib.hid hg) s (Lib.hid hV) k0 k1 t0 m0 i0 f1 m1 i1 a1 c1 a2 c2 (decide_eq_true hs)
            · simp only [ht, decide_false, Bool.and_false]
              exact rP_ok2 P f0 b N A n k l w hr hn B m d x hx hm hn4 (Lib.hid hok) (beq_eq_false_iff_ne.2 hab) (decide_eq_false hab) hab (Lib.hid hg) s (Lib.hid hV) k0 k1 t0 m0 i0 f1 t1 m1 i1 a1 c1 a2 c2 (decide_eq_true hs) (beq_eq_false_iff_ne.2 ht) (decide_eq_false ht) ht
          · simp only [hf, decide_false, Bool.and_false, Bool.false_and]
            exact rP_ok1 P a b N A n k l w hr hn B m d x hx hm hn4 (Lib.hid hok) (beq_eq_false_iff_ne.2 hab) (decide_eq_false hab) hab (Lib.hid hg) s (Lib.hid hV) k0 k1 f0 t0 m0 i0 f1 t1 m1 i1 a1 c1 a2 c2 (decide_eq_true hs) (beq_eq_false_iff_ne.2 hf) (decide_eq_false hf) hf
        · simp only [hs, decide_false, Bool.false_and]
          exact rP_ok0 P a b N A n k l w hr hn B m d x hx hm hn4 (Lib.hid hok) (beq_eq_false_iff_ne.2 hab) (decide_eq_false hab) hab (Lib.hid hg) s (Lib.hid hV) k0 k1 f0 t0 m0 i0 f1 t1 m1 i1 a1 c1 a2 c2 (decide_eq_false hs)
  · have hv : checkPathV P l a b N x = (false, gcode P l [a, b]) := by unfold checkPathV; rw [if_neg hg]
    rw [hv]
    exact rP_err P a b N A n k l w hr hn B m d x hx hm _ (by simpa using hg) (Lib.hid rfl)

/-- WHAT PATH FINDS IS ACCEPTED. -/
theorem path_ok {p : Int} {l : List Bnd} {a b : Nat} (hk : chk p l = 0) (hs : (settle l p.toNat zeros).isSome = true) (ha : a < p.toNat) (hb : b < p.toNat) (hD : dist l p.toNat a b ≠ Inf) :
    checkPathV p l a b (dist l p.toNat a b) (pathL l p.toNat a b) = (true, 0) ∧ (pathL l p.toNat a b).length ≤ 60 := by
  obtain ⟨hp1, hp2, -, -⟩ := chk_ok hk
  have hok := okB_of hk
  have he := edges60 hk
  have hg : gcode p l [(a : Int), (b : Int)] = 0 := by unfold gcode; rw [if_pos hk, if_pos (by simp [isPt]; omega)]
  obtain ⟨e, hst, hfix⟩ := dist_rounds (a := a) hk hs (by omega)
  have hd : dist l p.toNat a b = at_ (rounds l (p.toNat - 1) (startL a)) b := by unfold dist; rw [e]
  obtain ⟨hk1, hk2, hk3⟩ := lowK_spec (l := l) (x0 := startL a) (b := b) (most := dist l p.toNat a b) (p.toNat - 1) 0 (by rw [Nat.zero_add, hd]; exact Int.le_refl _) (fun j hj => absurd hj (Nat.not_lt_zero j))
  unfold pathL
  obtain ⟨K, hK⟩ : ∃ K, lowK l (startL a) b (dist l p.toNat a b) (p.toNat - 1) 0 = K := ⟨_, rfl⟩
  rw [hK] at hk1 hk2 hk3 ⊢
  have hlenK : (backL l (startL a) K b).length = K := backL_length _ _ _ _
  refine ⟨?_, by rw [List.length_map, hlenK]; omega⟩
  by_cases hab : a = b
  · subst hab
    have hd0 := dist_self hk hs (a := a) (by omega)
    rw [hd0] at hk2 hk3 ⊢
    have hK0 : K = 0 := by
      rcases Nat.eq_zero_or_pos K with h | h
      · exact h
      · have := hk3 0 h
        rw [show rounds l 0 (startL a) = startL a from rfl, at_startL (by omega) _ (by omega), if_pos rfl] at this
        omega
    subst hK0
    unfold checkPathV
    rw [if_pos hg, if_pos (.inl rfl)]
    simp [backL]
  · have hK0 : 0 < K := by
      rcases Nat.eq_zero_or_pos K with h | h
      · subst h
        rw [show rounds l 0 (startL a) = startL a from rfl, at_startL (by omega) _ (by omega), if_neg hab] at hk2
        have := dist_top hk hs (a := a) (v := b) (by omega) hD
        unfold Inf at hk2; omega
      · exact h
    have hge : dist l p.toNat a b ≤ at_ (rounds l K (startL a)) b := by
      rw [hd]
      have := rounds_le l (startL a) b K (p.toNat - 1 - K)
      rw [show K + (p.toNat - 1 - K) = p.toNat - 1 from by omega] at this
      exact this
    have heq : at_ (rounds l K (startL a)) b = dist l p.toNat a b := by omega
    obtain ⟨a', a0, a1, aI, hw⟩ := backL_spec (startL_length a) hok K b (by omega) (by omega) (by rw [look_at, heq]; exact hD) (fun j hj => by rw [look_at, look_at, heq]; exact hk3 j (by omega))
    have haa : a' = a := by
      rw [look_eq, at_startL (by omega) _ (by omega)] at aI
      by_cases e : a = a'.toNat
      · omega
      · rw [if_neg e] at aI; exact absurd rfl aI
    subst haa
    rw [show look (startL a) (a : Int) = 0 from by rw [look_at, at_startL (by omega) _ (by omega), if_pos rfl], Int.sub_zero, look_at, heq] at hw
    obtain ⟨R, hR⟩ : ∃ R, backL l (startL a) K b = R := ⟨_, rfl⟩
    rw [hR] at hw hlenK ⊢
    obtain ⟨z, hz⟩ := Option.isSome_iff_exists.1 hs
    obtain ⟨-, hzs, -, -⟩ := sol_spec hk hz
    have hnd : (R.map (frm l) ++ [(b : Int)]).Nodup := by
      by_cases hnd : (R.map (frm l) ++ [(b : Int)]).Nodup
      · exact hnd
      · exfalso
        obtain ⟨r1, r2, r3, c, s1, s2, hr, hr2, -, w1, w2, w3⟩ := walk_dup hw (.inr rfl) hnd
        have hl2 : 0 < r2.length := List.length_pos_iff.2 hr2
        have hlen3 : r1.length + r2.length + r3.length = K := by rw [← hlenK, hr, List.length_append, List.length_append]
        have hs2 := walk_kept hzs w2
        have h13 := w1.append w3
        have := walk_le (startL_length a) hok 0 0 h13 (by rw [show rounds l 0 (startL a) = startL a from rfl, Int.toNat_natCast, at_startL (by omega) _ (by omega), if_pos rfl]; omega) (by rw [List.length_append]; unfold Inf; omega)
        rw [Nat.zero_add, Int.toNat_natCast, List.length_append] at this
        have := hk3 (r1.length + r3.length) (by omega)
        omega
    rw [List.nodup_append] at hnd
    have hne : R ≠ [] := fun h => by rw [h] at hlenK; simp at hlenK; omega
    obtain ⟨e1, e2⟩ := walk_ends hw hne
    have hmap : R.map (fun i : Nat => (i : Int)) = R.map Int.ofNat := rfl
    unfold checkPathV
    rw [hmap, if_pos hg, if_neg (by rw [List.length_map]; omega), walk_chainV hok hw hnd.1, if_neg (by simp), List.length_map, e1, e2]
    have hany : (R.map Int.ofNat).any (fun i => decide ((bnd l i).f = (b : Int))) = false := by
      rw [List.any_eq_false]
      intro i hi
      obtain ⟨j, hj, rfl⟩ := List.mem_map.1 hi
      simp only [decide_eq_true_eq]
      intro hf
      refine hnd.2.2 (frm l j) (List.mem_map.2 ⟨j, hj, rfl⟩) (b : Int) (List.mem_singleton.2 rfl) ?_
      rw [← hf]
      unfold frm bnd
      rw [show (Int.ofNat j).toNat = j from rfl, List.getD_eq_getElem?_getD]
      obtain ⟨c, hc⟩ : ∃ c, l[j]? = some c := walk_mem hw j hj
      rw [hc]; rfl
    rw [hany]
    simp
where
  walk_mem {l : List Bnd} : ∀ {r : List Nat} {a b s : Int}, IsWalk l r a b s → ∀ j ∈ r, ∃ c, l[j]? = some c
    | i :: r, a, b, s, h, j, hj => by
      obtain ⟨c, hc, -, h⟩ := h
      rcases List.mem_cons.1 hj with rfl | hj
      · exact ⟨c, hc⟩
      · exact walk_mem h j hj
end Go.Proofs.Ythlnialipjihdaa
