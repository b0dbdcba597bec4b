/- Fixed of gauge. -/
import Derived.Test.YthlnialipjihdaaKeeps
set_option linter.unusedSimpArgs false
set_option linter.unusedVariables false
namespace Go.Proofs.Ythlnialipjihdaa
open Go.RowKit

/-- What Fixed hands back. -/
def fixedV (p : Int) (l : List Bnd) (a b : Int) : Int × Bool × Int :=
  if scode p l [a, b] = 0 then
    (if dist l p.toNat a.toNat b.toNat = -dist l p.toNat b.toNat a.toNat then (dist l p.toNat a.toNat b.toNat, true, 0) else (0, false, 0))
  else (0, false, scode p l [a, b])

set_option maxHeartbeats 2000000 in
theorem Fixed_any (p a b : Int) (A : Option Addr) (n c : Nat) (l : List Bnd) (w : World) (hr : RdB w A n c l) (hn : n ≤ maxLen) :
    Calls Try.prog 36 #[.agg #[.int .i64 p, .slice A n c], .int .i64 a, .int .i64 b] w fun e w' => e = .returned (.tuple #[.int .i64 (fixedV p l a b).1, .bool (fixedV p l a b).2.1, .int .i64 (fixedV p l a b).2.2]) ∧ Below w.heap.size w w' := by
  have hB : Below w.heap.size w ((w.alloc (.cells #[.int .i64 p, .slice A n c] 24)).alloc (.cells #[.int .i64 a, .int .i64 b] 3)) := ((Below.refl _ w).alloc (Nat.le_refl _) _).alloc (by simp) _
  have h2 := rdI_two (w.alloc (.cells #[.int .i64 p, .slice A n c] 24)) a b
  simp only [World.size_alloc] at h2
  have hc := solvable_any p A _ n c 2 2 l [a, b] _ (hr.below hB) hn h2 (by omega)
  have HC := Lib.hid hc; have HR := Lib.hid hr; clear hc hr h2
  unfold fixedV
  by_cases hs : scode p l [a, b] = 0
  · obtain ⟨hk, hpt, -⟩ := scode_ok hs
    obtain ⟨hp1, hp2, hlen, -⟩ := chk_ok hk
    have hok := okB_of hk
    rw [if_pos hs]
    rw [hs, sysR_yes] at HC
    simp only [List.all_cons, List.all_nil, Bool.and_true, Bool.and_eq_true, isPt, decide_eq_true_eq] at hpt
    obtain ⟨⟨ha0, ha1⟩, hb0, hb1⟩ := hpt
    clear hs hk
    obtain ⟨p, rfl⟩ := Int.eq_ofNat_of_zero_le (show 0 ≤ p by omega)
    obtain ⟨a, rfl⟩ := Int.eq_ofNat_of_zero_le ha0
    obtain ⟨b, rfl⟩ := Int.eq_ofNat_of_zero_le hb0
    simp only [Int.toNat_natCast]
    have hn2 : n ≤ 402 := by have := HR.out.len; omega
    have hfa := fun w' hw' => from_any p a A n c l (by omega) (by omega) hn2 hok w' (HR.out.below hw')
    have hfb := fun w' hw' => from_any p b A n c l (by omega) (by omega) hn2 hok w' (HR.out.below hw')
    have hla := setL_length (l := l) (p := p) (startL_length a)
    have hlb := setL_length (l := l) (p := p) (startL_length b)
    have hbd := dist_bd (a := b) (b := a) hok (p := p) (by omega) (by omega) (by omega)
    unfold dist at *
    generalize setL l p (startL a) = x at *
    generalize setL l p (startL b) = y at *
    have hxi := fun w => run_index_arr hla (show b < 60 by omega) w
    have hyi := fun w => run_index_arr hlb (show a < 60 by omega) w
    generalize at_ x b = u at *
    generalize at_ y a = v at *
    have hv : -9223372036854775807 ≤ v ∧ v ≤ 9223372036854775807 := by unfold Inf at hbd; omega
    have hfx := fun w => isFixed_any u v w hv
    have HFA := Lib.hid hfa; have HFB := Lib.hid hfb; clear hfa hfb hla hlb hok hbd hv
    by_cases he : u = -v
    · have HE := Lib.hid he
      have hbt : (u == -v) = true := by rw [he]; simp
      simp only [hbt] at hfx
      clear he hbt
      have HFX := Lib.hid hfx; clear hfx
      rw [if_pos HE.out]
      go_enter Try.func36, Try.ntmps36
      go_wp2_with fail
      refine HC.out.mono ?_
      rintro e w1 ⟨rfl, hb1⟩
      have hB1 := hB.trans (hb1.mono hB.size)
      have c1 := Blk.new w1 70 #[.int .i64 (p : Int), .slice A n c]
      go_wp2_with fail
      refine (HFA.out _ (hB1.alloc hB1.size _)).mono ?_
      rintro e w2 ⟨rfl, hb2⟩
      have hB2 := (hB1.alloc hB1.size (.cells #[.int .i64 (p : Int), .slice A n c] 70)).trans (hb2.mono (hB1.alloc hB1.size _).size)
      have c2 := c1.keep hb2
      have y0 : w2.cell? ⟨w1.heap.size, 0, none⟩ = some (.int .i64 (p : Int)) := c2.cell 0
      have y1 : w2.cell? ⟨w1.heap.size, 1, none⟩ = some (.slice A n c) := c2.cell 1
      clear c1 c2
      go_wp2_with fail
      refine (HFB.out _ hB2).mono ?_
      rintro e w3 ⟨rfl, hb3⟩
      have hB3 := hB2.trans (hb3.mono hB2.size)
      go_wp2_with fail
      refine (HFX.out _).mono ?_
      rintro e w4 ⟨rfl, rfl⟩
      go_wp2
      go_ret3
      exact ⟨rfl, hB3⟩
    · have HE := Lib.hid he
      have hbt : (u == -v) = false := by simpa using he
      simp only [hbt] at hfx
      clear he hbt
      have HFX := Lib.hid hfx; clear hfx
      rw [if_neg HE.out]
      go_enter Try.func36, Try.ntmps36
      go_wp2_with fail
      refine HC.out.mono ?_
      rintro e w1 ⟨rfl, hb1⟩
      have hB1 := hB.trans (hb1.mono hB.size)
      have c1 := Blk.new w1 70 #[.int .i64 (p : Int), .slice A n c]
      go_wp2_with fail
      refine (HFA.out _ (hB1.alloc hB1.size _)).mono ?_
      rintro e w2 ⟨rfl, hb2⟩
      have hB2 := (hB1.alloc hB1.size (.cells #[.int .i64 (p : Int), .slice A n c] 70)).trans (hb2.mono (hB1.alloc hB1.size _).size)
      have c2 := c1.keep hb2
      have y0 : w2.cell? ⟨w1.heap.size, 0, none⟩ = some (.int .i64 (p : Int)) := c2.cell 0
      have y1 : w2.cell? ⟨w1.heap.size, 1, none⟩ = some (.slice A n c) := c2.cell 1
      clear c1 c2
      go_wp2_with fail
      refine (HFB.out _ hB2).mono ?_
      rintro e w3 ⟨rfl, hb3⟩
      have hB3 := hB2.trans (hb3.mono hB2.size)
      go_wp2_with fail
      refine (HFX.out _).mono ?_
      rintro e w4 ⟨rfl, rfl⟩
      go_wp2
      go_ret3
      exact ⟨rfl, hB3⟩
  · rw [if_neg hs]
    generalize scode p l [a, b] = q at *
    rw [sysR_no hs] at HC
    have hne : (q != 0) = true := by simpa using hs
    clear hs
    go_enter Try.func36, Try.ntmps36
    go_wp2_with fail
    refine HC.out.mono ?_
    rintro e w1 ⟨rfl, hb1⟩
    have hB1 := hB.trans (hb1.mono hB.size)
    go_wp2
    go_ret3
    exact ⟨rfl, (by have hsz_ := Below.size hB1; repeat' (first | with_reducible exact hB1 | with_reducible exact Below.refl _ _ | with_reducible refine Below.alloc ?_ ?_ _ | with_reducible refine Below.setCell ?_ ?_ _ | with_reducible refine Below.drew ?_ | with_reducible refine below_setRow ?_ ?_ _ | omega | (simp; done) | (simp; omega)))⟩
end Go.Proofs.Ythlnialipjihdaa
