/- Two systems beside each other: the sums in each are as they were, and there are none across. -/
import Derived.Test.YthlnialipjihdaaSharpM
import Derived.Test.YthlnialipjihdaaBeside
import Derived.Test.YthlnialipjihdaaRMath
set_option linter.unusedSimpArgs false
set_option linter.unusedVariables false
namespace Go.Proofs.Ythlnialipjihdaa
open Go.RowKit

/-- The sums X hold x at the first P points and x' at the Q points behind them. -/
def Joint (P Q : Nat) (X x x' : List Int) : Prop := (∀ v, v < P → at_ X v = at_ x v) ∧ ∀ v, v < Q → at_ X (P + v) = at_ x' v
def Inside (P : Nat) (l : List Bnd) : Prop := ∀ c ∈ l, 0 ≤ c.f ∧ c.f < P ∧ 0 ≤ c.t ∧ c.t < P
theorem inside_of {p : Int} {l : List Bnd} (hk : chk p l = 0) : Inside p.toNat l := fun c hc => by have := edges60 hk c hc; omega

theorem fold_low {P : Nat} {X x : List Int} (hX : ∀ v, v < P → at_ X v = at_ x v) : ∀ (l : List Bnd) (Y y : List Int), Inside P l → P ≤ Y.length → P ≤ y.length → (∀ v, v < P → at_ Y v = at_ y v) →
    (∀ v, v < P → at_ (l.foldl (relax X) Y) v = at_ (l.foldl (relax x) y) v) ∧ ∀ v, P ≤ v → at_ (l.foldl (relax X) Y) v = at_ Y v
  | [], _, _, _, _, _, h => ⟨h, fun _ _ => rfl⟩
  | c :: l, Y, y, he, h1, h2, h => by
    obtain ⟨f0, f1, t0, t1⟩ := he c (List.mem_cons_self ..)
    have e : look X c.f = look x c.f := by rw [look_eq, look_eq, hX _ (by omega)]
    have hr : ∀ v, v < P → at_ (relax X Y c) v = at_ (relax x y c) v := fun v hv => by
      unfold relax
      rw [e]
      split
      · exact h v hv
      · rw [at_set _ _ _ _ (by omega), at_set _ _ _ _ (by omega), look_eq, look_eq, h _ (by omega)]
        split
        · rfl
        · exact h v hv
    have hr2 : ∀ v, P ≤ v → at_ (relax X Y c) v = at_ Y v := fun v hv => by
      unfold relax
      split
      · rfl
      · rw [at_set _ _ _ _ (by omega), if_neg (by omega)]
    obtain ⟨k1, k2⟩ := fold_low hX l (relax X Y c) (relax x y c) (fun c' hc' => he c' (List.mem_cons_of_mem _ hc')) (by rw [relax_length]; exact h1) (by rw [relax_length]; exact h2) hr
    exact ⟨k1, fun v hv => (k2 v hv).trans (hr2 v hv)⟩

theorem fold_high {P Q : Nat} {X x : List Int} (hX : ∀ v, v < Q → at_ X (P + v) = at_ x v) : ∀ (k : List Bnd) (Y y : List Int), Inside Q k → P + Q ≤ Y.length → Q ≤ y.length → (∀ v, v < Q → at_ Y (P + v) = at_ y v) →
    (∀ v, v < Q → at_ ((k.map (shB P)).foldl (relax X) Y) (P + v) = at_ (k.foldl (relax x) y) v) ∧ ∀ v, v < P → at_ ((k.map (shB P)).foldl (relax X) Y) v = at_ Y v
  | [], _, _, _, _, _, h => ⟨h, fun _ _ => rfl⟩
  | c :: k, Y, y, he, h1, h2, h => by
    obtain ⟨f0, f1, t0, t1⟩ := he c (List.mem_cons_self ..)
    have ef : (shB P c).f.toNat = P + c.f.toNat := by simp only [shB]; omega
    have et : (shB P c).t.toNat = P + c.t.toNat := by simp only [shB]; omega
    have em : (shB P c).m = c.m := rfl
    have e : look X (shB P c).f = look x c.f := by rw [look_eq, look_eq, ef, hX _ (by omega)]
    have hr : ∀ v, v < Q → at_ (relax X Y (shB P c)) (P + v) = at_ (relax x y c) v := fun v hv => by
      unfold relax
      rw [e, em]
      split
      · exact h v hv
      · rw [at_set _ _ _ _ (by omega), at_set _ _ _ _ (by omega), look_eq, look_eq, look_eq, et, h _ (by omega)]
        by_cases hc : c.t.toNat = v
        · rw [if_pos hc, if_pos (by omega)]
        · rw [if_neg hc, if_neg (by omega)]; exact h v hv
    have hr2 : ∀ v, v < P → at_ (relax X Y (shB P c)) v = at_ Y v := fun v hv => by
      unfold relax
      split
      · rfl
      · rw [at_set _ _ _ _ (by omega), if_neg (by omega)]
    obtain ⟨k1, k2⟩ := fold_high hX k (relax X Y (shB P c)) (relax x y c) (fun c' hc' => he c' (List.mem_cons_of_mem _ hc')) (by rw [relax_length]; exact h1) (by rw [relax_length]; exact h2) hr
    rw [List.map_cons, List.foldl_cons, List.foldl_cons]
    exact ⟨k1, fun v hv => (k2 v hv).trans (hr2 v hv)⟩

theorem longer_joint {P Q : Nat} {l k : List Bnd} {X x x' : List Int} (hl : Inside P l) (hk : Inside Q k) (h1 : P + Q ≤ X.length) (h2 : P ≤ x.length) (h3 : Q ≤ x'.length) (h : Joint P Q X x x') :
    Joint P Q (longer (l ++ k.map (shB P)) X) (longer l x) (longer k x') := by
  obtain ⟨a, b⟩ := h
  unfold longer
  rw [List.foldl_append]
  obtain ⟨c1, c2⟩ := fold_low a l X x hl (by omega) h2 a
  obtain ⟨d1, d2⟩ := fold_high b k (l.foldl (relax X) X) x' hk (by rw [foldr_length]; exact h1) h3 (fun v hv => (c2 _ (by omega)).trans (b v hv))
  exact ⟨fun v hv => (d2 v hv).trans (c1 v hv), d1⟩

theorem rounds_joint {P Q : Nat} {l k : List Bnd} {X x x' : List Int} (hl : Inside P l) (hk : Inside Q k) (h1 : P + Q ≤ X.length) (h2 : P ≤ x.length) (h3 : Q ≤ x'.length) (h : Joint P Q X x x') :
    ∀ n, Joint P Q (rounds (l ++ k.map (shB P)) n X) (rounds l n x) (rounds k n x')
  | 0 => h
  | n + 1 => longer_joint hl hk (by rw [rounds_length]; exact h1) (by rw [rounds_length]; exact h2) (by rw [rounds_length]; exact h3) (rounds_joint hl hk h1 h2 h3 h n)

/-- Nothing is reached from nowhere. -/
def infs : List Int := List.replicate 60 Inf
theorem infs_length : infs.length = 60 := by simp [infs]
theorem at_infs {v : Nat} (hv : v < 60) : at_ infs v = Inf := at_repl hv
theorem fold_infs {Q : Nat} (hQ : Q ≤ 60) : ∀ {k : List Bnd} (_ : Inside Q k), k.foldl (relax infs) infs = infs
  | [], _ => rfl
  | c :: k, h => by
    obtain ⟨f0, f1, -, -⟩ := h c (List.mem_cons_self ..)
    rw [List.foldl_cons, show relax infs infs c = infs from by unfold relax; rw [look_eq, at_infs (by omega), if_pos rfl]]
    exact fold_infs hQ (fun c' hc' => h c' (List.mem_cons_of_mem _ hc'))
theorem rounds_infs {Q : Nat} (hQ : Q ≤ 60) {k : List Bnd} (h : Inside Q k) : ∀ n, rounds k n infs = infs
  | 0 => rfl
  | n + 1 => by
    show longer k (rounds k n infs) = infs
    rw [rounds_infs hQ h n]
    exact fold_infs hQ h

theorem joint_low {P Q a : Nat} (hP : P + Q ≤ 60) (ha : a < P) : Joint P Q (startL a) (startL a) infs :=
  ⟨fun _ _ => rfl, fun v hv => by rw [at_startL (by omega) _ (by omega), at_infs (by omega), if_neg (by omega)]⟩
theorem joint_high {P Q c : Nat} (hP : P + Q ≤ 60) (hc : c < Q) : Joint P Q (startL (P + c)) infs (startL c) :=
  ⟨fun v hv => by rw [at_startL (by omega) _ (by omega), at_infs (by omega), if_neg (by omega)], fun v hv => by
    rw [at_startL (by omega) _ (by omega), at_startL (by omega) _ (by omega)]
    by_cases h : c = v
    · rw [if_pos h, if_pos (by omega)]
    · rw [if_neg h, if_neg (by omega)]⟩

theorem dist_long {p : Int} {l : List Bnd} {a : Nat} (hk : chk p l = 0) (hs : (settle l p.toNat zeros).isSome = true) (ha : a < 60) (n : Nat) (hn : p.toNat - 1 ≤ n) (b : Nat) : dist l p.toNat a b = at_ (rounds l n (startL a)) b := by
  obtain ⟨e, -, hst⟩ := dist_rounds hk hs ha
  have := rounds_stay hst (n - (p.toNat - 1))
  rw [show p.toNat - 1 + (n - (p.toNat - 1)) = n from by omega] at this
  unfold dist
  rw [e, this]

section
variable {P Q : Nat} {l k : List Bnd} (h1 : chk P l = 0) (h2 : chk Q k = 0) (h : chk ((P : Int) + Q) (l ++ k.map (shB P)) = 0)
  (s1 : (settle l P zeros).isSome = true) (s2 : (settle k Q zeros).isSome = true)
include h1 h2 h s1 s2

theorem beside_solved : (settle (l ++ k.map (shB P)) (P + Q) zeros).isSome = true := by
  obtain ⟨p1, -, -, -⟩ := chk_ok h1
  obtain ⟨-, pq, -, -⟩ := chk_ok h
  have e1 := edges60 h1
  have e2 := edges60 h2
  have eh := edges_of h
  rw [Int.toNat_natCast] at e1 e2
  rw [show ((P : Int) + Q).toNat = P + Q from by omega] at eh
  cases hz : settle l P zeros with
  | none => rw [hz] at s1; cases s1
  | some z =>
    cases hy : settle k Q zeros with
    | none => rw [hy] at s2; cases s2
    | some y =>
      obtain ⟨za, zb, zc, zd⟩ := sol_spec h1 (by rw [Int.toNat_natCast]; exact hz)
      obtain ⟨ya, yb, yc, yd⟩ := sol_spec h2 (by rw [Int.toNat_natCast]; exact hy)
      have hst : Stable (l ++ k.map (shB P)) (vec (fun v => if v < P then at_ z v else at_ y (v - P))) := fun c hc _ => by
        rcases List.mem_append.1 hc with hc | hc
        · obtain ⟨f0, f1, t0, t1, -⟩ := e1 c hc
          have := zb c hc
          rw [look_eq, look_eq] at this
          rw [look_eq, look_eq, at_vec _ (by omega), at_vec _ (by omega), if_pos (by omega), if_pos (by omega)]
          exact this
        · obtain ⟨d, hd, rfl⟩ := List.mem_map.1 hc
          obtain ⟨f0, f1, t0, t1, -⟩ := e2 d hd
          have := yb d hd
          rw [look_eq, look_eq] at this
          have ef : (shB P d).f.toNat = P + d.f.toNat := by simp only [shB]; omega
          have et : (shB P d).t.toNat = P + d.t.toNat := by simp only [shB]; omega
          rw [look_eq, look_eq, ef, et, at_vec _ (by omega), at_vec _ (by omega), if_neg (by omega), if_neg (by omega), Nat.add_sub_cancel_left, Nat.add_sub_cancel_left]
          exact this
      obtain ⟨hs, -⟩ := settle_of_stable (p := P + Q) (x := zeros) (by omega) eh (by rw [zeros_length]; omega) (fun v => by rw [at_zeros]; unfold Inf; omega) hst (fun v => by
        rw [at_zeros]
        by_cases hv : v < 60
        · rw [at_vec _ hv]
          split
          · exact zc v
          · exact yc _
        · rw [at_vec_out _ (by omega)]; exact Int.le_refl _)
      rw [hs]; rfl

/-- AS THEY WERE, AND NONE ACROSS. -/
theorem beside_dist {a b c d : Nat} (ha : a < P) (hb : b < P) (hc : c < Q) (hd : d < Q) :
    dist (l ++ k.map (shB P)) (P + Q) a b = dist l P a b ∧ dist (l ++ k.map (shB P)) (P + Q) (P + c) (P + d) = dist k Q c d ∧ dist (l ++ k.map (shB P)) (P + Q) a (P + c) = Inf := by
  obtain ⟨p1, -, -, -⟩ := chk_ok h1
  obtain ⟨-, pq, -, -⟩ := chk_ok h
  have hs := beside_solved h1 h2 h s1 s2
  have i1 := inside_of h1
  have i2 := inside_of h2
  rw [Int.toNat_natCast] at i1 i2
  have hpq : ((P : Int) + Q).toNat = P + Q := by omega
  have L := fun x (hx : x < 60) => dist_long (a := x) h (by rw [hpq]; exact hs) hx (P + Q) (by omega)
  have L1 := fun x (hx : x < 60) => dist_long (a := x) h1 (by rw [Int.toNat_natCast]; exact s1) hx (P + Q) (by omega)
  have L2 := fun x (hx : x < 60) => dist_long (a := x) h2 (by rw [Int.toNat_natCast]; exact s2) hx (P + Q) (by omega)
  rw [hpq] at L
  rw [Int.toNat_natCast] at L1 L2
  have j1 := rounds_joint i1 i2 (by rw [startL_length]; omega) (by rw [startL_length]; omega) (by rw [infs_length]; omega) (joint_low (Q := Q) (by omega) ha) (P + Q)
  have j2 := rounds_joint i1 i2 (by rw [startL_length]; omega) (by rw [infs_length]; omega) (by rw [startL_length]; omega) (joint_high (P := P) (by omega) hc) (P + Q)
  rw [rounds_infs (by omega) i2] at j1
  refine ⟨?_, ?_, ?_⟩
  · rw [L a (by omega), L1 a (by omega)]; exact j1.1 b hb
  · rw [L (P + c) (by omega), L2 c (by omega)]; exact j2.2 d hd
  · rw [L a (by omega), j1.2 c hc, at_infs (by omega)]
end

/-- A TIED DIFFERENCE IS FIXED. -/
theorem tied_fixed {p : Int} {l : List Bnd} {a b : Nat} {N : Int} (hk : chk p (l ++ tieB a b N) = 0) (hs : (settle (l ++ tieB a b N) p.toNat zeros).isSome = true) (ha : a < 60) (hb : b < 60) :
    dist (l ++ tieB a b N) p.toNat a b = N ∧ dist (l ++ tieB a b N) p.toNat b a = -N := by
  obtain ⟨z, hz⟩ := Option.isSome_iff_exists.1 hs
  obtain ⟨h1, h2, h3, h4⟩ := sol_spec hk hz
  have hbd : ∀ v, v < 60 → -1000000000000 ≤ at_ z v ∧ at_ z v ≤ 1000000000000 := fun v _ => by have := h3 v; have := h4 v; omega
  have g1 := dist_ge (a := a) (b := b) hk hs ha hb h2 hbd
  have g2 := dist_ge (a := b) (b := a) hk hs hb ha h2 hbd
  have i1 : (l ++ tieB a b N)[l.length]? = some ⟨a, b, N, 0⟩ := by rw [List.getElem?_append_right (Nat.le_refl _), Nat.sub_self]; rfl
  have i2 : (l ++ tieB a b N)[l.length + 1]? = some ⟨b, a, -N, 0⟩ := by rw [List.getElem?_append_right (by omega), Nat.add_sub_cancel_left]; rfl
  have w1 : IsWalk (l ++ tieB a b N) [l.length] a b (0 + N) := by
    have := IsWalk.snoc (l := l ++ tieB a b N) (r := []) (a := (a : Int)) (s := 0) (i := l.length) (c := ⟨a, b, N, 0⟩) ⟨rfl, rfl⟩ i1
    exact this
  have w2 : IsWalk (l ++ tieB a b N) [l.length + 1] b a (0 + -N) := by
    have := IsWalk.snoc (l := l ++ tieB a b N) (r := []) (a := (b : Int)) (s := 0) (i := l.length + 1) (c := ⟨b, a, -N, 0⟩) ⟨rfl, rfl⟩ i2
    exact this
  have d1 := dist_walk hk hs (by omega) w1 (by simp)
  have d2 := dist_walk hk hs (by omega) w2 (by simp)
  rw [Int.toNat_natCast, Int.toNat_natCast] at d1 d2
  omega
end Go.Proofs.Ythlnialipjihdaa
