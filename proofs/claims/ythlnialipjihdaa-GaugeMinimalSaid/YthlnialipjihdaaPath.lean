/- Circle and Path of gauge. -/
import Derived.Test.YthlnialipjihdaaCircle
import Derived.Test.YthlnialipjihdaaFixed
set_option linter.unusedSimpArgs false
set_option linter.unusedVariables false
namespace Go.Proofs.Ythlnialipjihdaa
open Go.RowKit

def circleV (p : Int) (l : List Bnd) : List Int × Bool × Int :=
  if gcode p l [] = 0 then (circleL l p.toNat, (circleO l p.toNat).isSome, 0) else ([], false, gcode p l [])

set_option maxHeartbeats 2000000 in
theorem Circle_any (p : Int) (A : Option Addr) (n c : Nat) (l : List Bnd) (w : World) (hr : RdB w A n c l) (hn : n ≤ maxLen) :
    Calls Try.prog 30 #[.agg #[.int .i64 p, .slice A n c]] w (RetI (circleV p l) w) := by
  have hB : Below w.heap.size w (w.alloc (.cells #[.int .i64 p, .slice A n c] 24)) := (Below.refl _ w).alloc (Nat.le_refl _) _
  have hc := graphOf_any p A none n c 0 0 l [] _ (hr.below hB) hn (RdI.nil_ _) (by omega)
  have HC := Lib.hid hc; have HR := Lib.hid hr; clear hc hr
  unfold circleV
  by_cases hg : gcode p l [] = 0
  · obtain ⟨hk, -⟩ := gcode_ok hg
    obtain ⟨hp1, hp2, hlen, -⟩ := chk_ok hk
    have hok := okB_of hk
    rw [if_pos hg]
    rw [hg, sysR_yes] at HC
    clear hg hk
    obtain ⟨p, rfl⟩ := Int.eq_ofNat_of_zero_le (show 0 ≤ p by omega)
    rw [Int.toNat_natCast]
    have hn2 : n ≤ 402 := by have := HR.out.len; omega
    have hci := fun w' hw' => circle_any p A n c l (by omega) hn2 hok w' (HR.out.below hw')
    unfold RetB at hci
    generalize circleL l p = V at *
    generalize (circleO l p).isSome = ok at *
    have HCI := Lib.hid hci; clear hci hok
    go_enter Try.func30, Try.ntmps30
    go_wp2_with fail
    refine HC.out.mono ?_
    rintro e w1 ⟨rfl, hb1⟩
    have hB1 := hB.trans (hb1.mono hB.size)
    go_wp2_with fail
    refine (HCI.out _ (hB1.alloc hB1.size _)).mono ?_
    rintro e w2 ⟨A2, n2, c2, rfl, ho, hb2⟩
    have HO := Lib.hid ho; clear ho
    have hB2 := (hB1.alloc hB1.size (.cells #[.int .i64 (p : Int), .slice A n c] 70)).trans (hb2.mono (hB1.alloc hB1.size _).size)
    go_wp2
    go_ret3
    exact ⟨A2, n2, c2, rfl, owns_base HO.out (hB1.alloc hB1.size _).size, hB2⟩
  · rw [if_neg hg]
    generalize gcode p l [] = q at *
    rw [sysR_no hg] at HC
    have hne : (q != 0) = true := by simpa using hg
    clear hg
    go_enter Try.func30, Try.ntmps30
    go_wp2_with fail
    refine HC.out.mono ?_
    rintro e w1 ⟨rfl, hb1⟩
    have hB1 := hB.trans (hb1.mono hB.size)
    go_wp2
    go_ret3
    exact ⟨none, 0, 0, rfl, OwnI.nil_ _ _, (by have hsz_ := Below.size hB1; repeat' (first | with_reducible exact hB1 | with_reducible exact Below.refl _ _ | with_reducible refine Below.alloc ?_ ?_ _ | with_reducible refine Below.setCell ?_ ?_ _ | with_reducible refine Below.drew ?_ | with_reducible refine below_setRow ?_ ?_ _ | omega | (simp; done) | (simp; omega)))⟩

/-! A path: the first round in which the sum is as small as it gets. -/
theorem edges_of {p : Int} {l : List Bnd} (hk : chk p l = 0) : ∀ c ∈ l, c.f.toNat < p.toNat ∧ c.t.toNat < p.toNat := fun c hc => by
  obtain ⟨_, _, _, h⟩ := chk_ok hk
  have := h c hc
  unfold okBnd at this
  rw [decide_eq_true_eq] at this
  omega

theorem at_shift (z : List Int) (d : Int) {v : Nat} (hv : v < z.length) : at_ (z.map (· - d)) v = at_ z v - d := by
  simp [at_, List.getD_eq_getElem?_getD, hv]
theorem at_shift_out (z : List Int) (d : Int) {v : Nat} (hv : z.length ≤ v) : at_ (z.map (· - d)) v = 0 := by
  simp [at_, List.getD_eq_getElem?_getD, hv]
theorem at_out {z : List Int} {v : Nat} (hv : z.length ≤ v) : at_ z v = 0 := by
  simp [at_, List.getD_eq_getElem?_getD, hv]

/-- Where there is a solution, one that is 0 at a point is below the sums from it. -/
theorem shift_ok {p : Int} {l : List Bnd} {a : Nat} (hk : chk p l = 0) (hs : (settle l p.toNat zeros).isSome = true) (ha : a < 60) :
    ∃ y, Stable l y ∧ (∀ v, at_ y v ≤ at_ (startL a) v) ∧ at_ y a = 0 := by
  obtain ⟨hp1, hp2, -, -⟩ := chk_ok hk
  have hg := edges_of hk
  have hok := okB_of hk
  obtain ⟨z, hz⟩ := Option.isSome_iff_exists.1 hs
  obtain ⟨hst, -, hlen, hle⟩ := stable_settle hg (by rw [zeros_length]; omega) hz
  rw [zeros_length] at hlen
  have hwd := wd_setL (p := p.toNat) (wd_zeros (Int.le_refl 0)) hok (Int.le_refl 0) (by omega)
  have hzz : setL l p.toNat zeros = z := by unfold setL; rw [hz]; rfl
  rw [hzz] at hwd
  have hfin : ∀ v, at_ z v ≤ 0 := fun v => by have := hle v; rw [at_zeros] at this; exact this
  have hlow : ∀ v, v < 60 → -6000000000 ≤ at_ z v := fun v hv => by
    rcases hwd.2 v hv with h | h
    · have := hfin v; rw [h] at this; unfold Inf at this; omega
    · omega
  refine ⟨z.map (· - at_ z a), fun c hc hI => ?_, fun v => ?_, by rw [at_shift _ _ (by omega)]; omega⟩
  · obtain ⟨f0, f1, t0, t1, -, -⟩ := hok c hc
    have h1 := hst c hc (by rw [look_eq]; have := hfin c.f.toNat; unfold Inf; omega)
    rw [look_eq, look_eq] at h1 ⊢
    rw [at_shift _ _ (by omega), at_shift _ _ (by omega)]
    omega
  · by_cases hv : v < 60
    · rw [at_shift _ _ (by omega), at_startL ha v hv]
      split
      · rename_i h; subst h; omega
      · have := hfin v; have := hlow a ha; unfold Inf; omega
    · rw [at_shift_out _ _ (by omega), at_out (by rw [startL_length]; omega)]
      exact Int.le_refl _
theorem startL_le {a : Nat} (ha : a < 60) (v : Nat) : at_ (startL a) v ≤ Inf := by
  by_cases hv : v < 60
  · rw [at_startL ha v hv]; split <;> (unfold Inf; omega)
  · rw [at_out (by rw [startL_length]; omega)]; unfold Inf; omega

/-- Where there is a solution, the sums from a point settle. -/
theorem from_settled {p : Int} {l : List Bnd} {a : Nat} (hk : chk p l = 0) (hs : (settle l p.toNat zeros).isSome = true) (ha : a < 60) :
    settle l p.toNat (startL a) = some (rounds l (p.toNat - 1) (startL a)) ∧ longer l (rounds l (p.toNat - 1) (startL a)) = rounds l (p.toNat - 1) (startL a) := by
  obtain ⟨y, h1, h2, -⟩ := shift_ok hk hs ha
  obtain ⟨hp1, hp2, -, -⟩ := chk_ok hk
  exact settle_of_stable (by omega) (edges_of hk) (by rw [startL_length]; omega) (startL_le ha) h1 h2

/-- A point is no farther from itself. -/
theorem dist_self {p : Int} {l : List Bnd} {a : Nat} (hk : chk p l = 0) (hs : (settle l p.toNat zeros).isSome = true) (ha : a < 60) : dist l p.toNat a a = 0 := by
  obtain ⟨y, h1, h2, h3⟩ := shift_ok hk hs ha
  obtain ⟨h4, -⟩ := from_settled hk hs ha
  have h5 := rounds_ge h1 h2 (startL_le ha) (p.toNat - 1) a
  have h6 := rounds_le0 l (startL a) a (p.toNat - 1)
  rw [at_startL ha a ha, if_pos rfl] at h6
  unfold dist setL
  rw [h4]
  show at_ (rounds l (p.toNat - 1) (startL a)) a = 0
  omega

/-- The least number of rounds from k on in which the sum is at most most. -/
def lowK (l : List Bnd) (x0 : List Int) (b : Nat) (most : Int) : Nat → Nat → Nat
  | 0, k => k
  | n + 1, k => if at_ (rounds l k x0) b ≤ most then k else lowK l x0 b most n (k + 1)
theorem lowK_spec {l : List Bnd} {x0 : List Int} {b : Nat} {most : Int} : ∀ (n k : Nat), at_ (rounds l (k + n) x0) b ≤ most → (∀ j, j < k → most < at_ (rounds l j x0) b) →
    lowK l x0 b most n k ≤ k + n ∧ at_ (rounds l (lowK l x0 b most n k) x0) b ≤ most ∧ ∀ j, j < lowK l x0 b most n k → most < at_ (rounds l j x0) b
  | 0, k, h, hmin => ⟨Nat.le_refl _, h, hmin⟩
  | n + 1, k, h, hmin => by
    unfold lowK
    by_cases hk : at_ (rounds l k x0) b ≤ most
    · rw [if_pos hk]; exact ⟨by omega, hk, hmin⟩
    · rw [if_neg hk]
      have ih := lowK_spec (l := l) (x0 := x0) (b := b) (most := most) n (k + 1) (by rw [show k + 1 + n = k + (n + 1) from by omega]; exact h) (fun j hj => by
        rcases Nat.lt_or_ge j k with h1 | h1
        · exact hmin j h1
        · obtain rfl : j = k := by omega
          omega)
      exact ⟨by omega, ih.2⟩

def pathL (l : List Bnd) (p a b : Nat) : List Int := (backL l (startL a) (lowK l (startL a) b (dist l p a b) (p - 1) 0) b).map (fun i : Nat => (i : Int))
def pathV (p : Int) (l : List Bnd) (a b : Int) : List Int × Bool × Int :=
  if scode p l [a, b] = 0 then (if isF (dist l p.toNat a.toNat b.toNat) = true then (pathL l p.toNat a.toNat b.toNat, true, 0) else ([], false, 0)) else ([], false, scode p l [a, b])

set_option maxHeartbeats 4000000 in
theorem Path_any (p a b : Int) (A : Option Addr) (n c : Nat) (l : List Bnd) (w : World) (hr : RdB w A n c l) (hn : n ≤ maxLen) :
    Calls Try.prog 40 #[.agg #[.int .i64 p, .slice A n c], .int .i64 a, .int .i64 b] w (RetI (pathV p l a b) w) := by
  have hB : Below w.heap.size w ((w.alloc (.cells #[.int .i64 p, .slice A n c] 24)).alloc (.cells #[.int .i64 a, .int .i64 b] 3)) := ((Below.refl _ w).alloc (Nat.le_refl _) _).alloc (by simp) _
  have h2 := rdI_two (w.alloc (.cells #[.int .i64 p, .slice A n c] 24)) a b
  simp only [World.size_alloc] at h2
  have hc := solvable_any p A _ n c 2 2 l [a, b] _ (hr.below hB) hn h2 (by omega)
  have HC := Lib.hid hc; have HR := Lib.hid hr; clear hc hr h2
  unfold pathV
  by_cases hs : scode p l [a, b] = 0
  · obtain ⟨hk, hpt, hsol⟩ := scode_ok hs
    obtain ⟨hp1, hp2, hlen, -⟩ := chk_ok hk
    have hok := okB_of hk
    rw [if_pos hs]
    rw [hs, sysR_yes] at HC
    simp only [List.all_cons, List.all_nil, Bool.and_true, Bool.and_eq_true, isPt, decide_eq_true_eq] at hpt
    obtain ⟨⟨ha0, ha1⟩, hb0, hb1⟩ := hpt
    clear hs
    have hset := fun a ha => from_settled (a := a) hk hsol ha
    clear hk hsol
    obtain ⟨p, rfl⟩ := Int.eq_ofNat_of_zero_le (show 0 ≤ p by omega)
    obtain ⟨a, rfl⟩ := Int.eq_ofNat_of_zero_le ha0
    obtain ⟨b, rfl⟩ := Int.eq_ofNat_of_zero_le hb0
    simp only [Int.toNat_natCast] at hset ⊢
    have hn2 : n ≤ 402 := by have := HR.out.len; omega
    have hgr := fun w' hw' => greatest_any p a b A n c l (by omega) (by omega) (by omega) hn2 hok w' (HR.out.below hw')
    obtain ⟨hs1, -⟩ := hset a (by omega)
    have hd : dist l p a b = at_ (rounds l (p - 1) (startL a)) b := by unfold dist setL; rw [hs1]; rfl
    obtain ⟨hk1, hk2, hk3⟩ := lowK_spec (l := l) (x0 := startL a) (b := b) (most := dist l p a b) (p - 1) 0 (by rw [Nat.zero_add, hd]; exact Int.le_refl _) (fun j hj => absurd hj (Nat.not_lt_zero j))
    have hwk := fun w' hw' => walk_any (p : Int) a b _ (dist l p a b) A n c l (by omega) (by omega) (by omega) hn2 hok hk2 hk3 w' (HR.out.below hw')
    have hpl : pathL l p a b = (backL l (startL a) (lowK l (startL a) b (dist l p a b) (p - 1) 0) b).map (fun i : Nat => (i : Int)) := rfl
    rw [← hpl] at hwk
    generalize lowK l (startL a) b (dist l p a b) (p - 1) 0 = K at *
    generalize pathL l p a b = V at *
    generalize dist l p a b = d at *
    have HG := Lib.hid hgr; have HW := Lib.hid hwk; clear hgr hwk hset hs1 hd hk1 hk2 hk3 hpl hok
    by_cases hf : d = Inf
    · have h1 : isF d = false := by unfold isF; simp [hf]
      have h2 : fin d = 0 := by unfold fin; rw [if_pos hf]
      rw [h1, h2] at HG
      rw [h1, if_neg (by simp)]
      clear hf h1 h2
      go_enter Try.func40, Try.ntmps40
      go_wp2_with fail
      refine HC.out.mono ?_
      rintro e w1 ⟨rfl, hb1⟩
      have hB1 := hB.trans (hb1.mono hB.size)
      go_wp2_with fail
      refine (HG.out _ (hB1.alloc hB1.size _)).mono ?_
      rintro e w2 ⟨rfl, hb2⟩
      have hB2 := (hB1.alloc hB1.size (.cells #[.int .i64 (p : Int), .slice A n c] 70)).trans (hb2.mono (hB1.alloc hB1.size _).size)
      go_wp2
      go_ret3
      exact ⟨none, 0, 0, rfl, OwnI.nil_ _ _, hB2⟩
    · have h1 : isF d = true := by unfold isF; simp [hf]
      have h2 : fin d = d := by unfold fin; rw [if_neg hf]
      rw [h1, h2] at HG
      rw [h1, if_pos rfl]
      clear hf h1 h2
      go_enter Try.func40, Try.ntmps40
      go_wp2_with fail
      refine HC.out.mono ?_
      rintro e w1 ⟨rfl, hb1⟩
      have hB1 := hB.trans (hb1.mono hB.size)
      go_wp2_with fail
      refine (HG.out _ (hB1.alloc hB1.size _)).mono ?_
      rintro e w2 ⟨rfl, hb2⟩
      have hB2 := (hB1.alloc hB1.size (.cells #[.int .i64 (p : Int), .slice A n c] 70)).trans (hb2.mono (hB1.alloc hB1.size _).size)
      have c2 := (Blk.new w1 70 #[.int .i64 (p : Int), .slice A n c]).keep hb2
      have y0 : w2.cell? ⟨w1.heap.size, 0, none⟩ = some (.int .i64 (p : Int)) := c2.cell 0
      have y1 : w2.cell? ⟨w1.heap.size, 1, none⟩ = some (.slice A n c) := c2.cell 1
      clear c2
      go_wp2_with fail
      refine (HW.out _ hB2).mono ?_
      rintro e w3 ⟨g, rfl, ho, hb3⟩
      have HO := Lib.hid ho; clear ho
      go_wp2
      go_ret3
      exact ⟨_, _, _, rfl, owns_base HO.out hB2.size, hB2.trans (hb3.mono hB2.size)⟩
  · rw [if_neg hs]
    generalize scode p l [a, b] = q at *
    rw [sysR_no hs] at HC
    have hne : (q != 0) = true := by simpa using hs
    clear hs
    go_enter Try.func40, Try.ntmps40
    go_wp2_with fail
    refine HC.out.mono ?_
    rintro e w1 ⟨rfl, hb1⟩
    have hB1 := hB.trans (hb1.mono hB.size)
    go_wp2
    go_ret3
    exact ⟨none, 0, 0, rfl, OwnI.nil_ _ _, (by have hsz_ := Below.size hB1; repeat' (first | with_reducible exact hB1 | with_reducible exact Below.refl _ _ | with_reducible refine Below.alloc ?_ ?_ _ | with_reducible refine Below.setCell ?_ ?_ _ | with_reducible refine Below.drew ?_ | with_reducible refine below_setRow ?_ ?_ _ | omega | (simp; done) | (simp; omega)))⟩
end Go.Proofs.Ythlnialipjihdaa
