/- Attain of gauge. -/
import Derived.Test.YthlnialipjihdaaTied
set_option linter.unusedSimpArgs false
set_option linter.unusedVariables false
namespace Go.Proofs.Ythlnialipjihdaa
open Go.RowKit

/-- What Attain hands back. -/
def attainV (p : Int) (l : List Bnd) (a b N : Int) : List Int × Bool × Int :=
  if gcode p l [a, b] ≠ 0 then ([], false, gcode p l [a, b])
  else if ¬ (-100000000 ≤ N ∧ N ≤ 100000000) then ([], false, 1)
  else if (settle l p.toNat zeros).isSome = false then ([], false, 10)
  else match settle (l ++ tieB a b N) p.toNat zeros with | some y => (y.take p.toNat, true, 0) | none => ([], false, 0)

theorem okB_tie {l : List Bnd} (h : OkB l) {a b N : Int} (ha : 0 ≤ a ∧ a < 60) (hb : 0 ≤ b ∧ b < 60) (hN : -100000000 ≤ N ∧ N ≤ 100000000) : OkB (l ++ tieB a b N) := by
  intro x hx
  rcases List.mem_append.1 hx with h1 | h1
  · exact h x h1
  · simp only [tieB, List.mem_cons, List.not_mem_nil, or_false] at h1
    rcases h1 with rfl | rfl
    · exact ⟨ha.1, ha.2, hb.1, hb.2, hN.1, hN.2⟩
    · refine ⟨hb.1, hb.2, ha.1, ha.2, ?_, ?_⟩ <;> show _ ≤ _ <;> simp <;> omega

set_option maxHeartbeats 4000000 in
theorem Attain_any (p a b N : Int) (A : Option Addr) (n c : Nat) (l : List Bnd) (w : World) (hr : RdB w A n c l) (hn : n ≤ maxLen) :
    Calls Try.prog 41 #[.agg #[.int .i64 p, .slice A n c], .int .i64 a, .int .i64 b, .int .i64 N] w (RetI (attainV p l a b N) w) := by
  have hB : Below w.heap.size w ((w.alloc (.cells #[.int .i64 p, .slice A n c] 24)).alloc (.cells #[.int .i64 a, .int .i64 b] 3)) := ((Below.refl _ w).alloc (Nat.le_refl _) _).alloc (by simp) _
  have h2 := rdI_two (w.alloc (.cells #[.int .i64 p, .slice A n c] 24)) a b
  simp only [World.size_alloc] at h2
  have hc := graphOf_any p A _ n c 2 2 l [a, b] _ (hr.below hB) hn h2 (by omega)
  have HC := Lib.hid hc; have HR := Lib.hid hr; clear hc hr h2
  unfold attainV
  by_cases hg : gcode p l [a, b] = 0
  · rw [if_neg (by simpa using hg)]
    obtain ⟨hk, hpt⟩ := gcode_ok hg
    obtain ⟨hp1, hp2, hlen, -⟩ := chk_ok hk
    have hok := okB_of hk
    simp only [List.all_cons, List.all_nil, Bool.and_true, Bool.and_eq_true, isPt, decide_eq_true_eq] at hpt
    obtain ⟨⟨ha0, ha1⟩, hb0, hb1⟩ := hpt
    rw [hg, sysR_yes] at HC
    clear hg hk
    obtain ⟨p, rfl⟩ := Int.eq_ofNat_of_zero_le (show 0 ≤ p by omega)
    rw [Int.toNat_natCast]
    have hn2 : n ≤ 400 := by have := HR.out.len; omega
    by_cases hN : -100000000 ≤ N ∧ N ≤ 100000000
    · rw [if_neg (by simpa using hN)]
      have hok2 := okB_tie hok (a := a) (b := b) (by omega) (by omega) hN
      have hw := within_yes N (-100000000) 100000000
      have hwy := fun w => hw w hN
      have hsol := fun w' hw' => solution_any p A n c l (by omega) (by omega) hok w' (HR.out.below hw')
      have hzl := setL_length (l := l) (p := p) zeros_length
      have htie := fun w' hw' => tied_any (p : Int) a b N A n c l w' (HR.out.below hw') (by omega) hN
      generalize setL l p zeros = z at *
      have HS := Lib.hid hsol; have HZL := Lib.hid hzl; have HWY := Lib.hid hwy; have HT := Lib.hid htie; have HOK2 := Lib.hid hok2; clear hsol hzl hok hw hwy htie hok2 hN
      cases hq : (settle l p zeros).isSome
      · rw [hq] at HS
        rw [if_pos rfl]
        clear hq
        go_enter Try.func41, Try.ntmps41
        go_wp2_with fail
        refine HC.out.mono ?_
        rintro e w1 ⟨rfl, hb1⟩
        have hB1 := hB.trans (hb1.mono hB.size)
        go_wp2_with (go_at_call 86; refine (HWY.out _).mono ?_; rintro e w' ⟨rfl, rfl⟩)
        refine (HS.out _ (hB1.alloc hB1.size _)).mono ?_
        rintro e w2 ⟨rfl, hb2⟩
        have hB2 := (hB1.alloc hB1.size (.cells #[.int .i64 (p : Int), .slice A n c] 70)).trans (hb2.mono (hB1.alloc hB1.size _).size)
        have z3 := Blk.new w2 79 (arr zeros)
        have Z3 := Lib.hid z3; clear z3
        go_wp2_with (first | (refine wpList_alloc_row rfl 79 rfl (arr zeros) zero_sums.1 ?_; simp only [World.size_alloc]) | (refine wpList_store_row rfl 79 (.tmp 13) (.tmp 34) rfl _ (arr z) rfl rfl _ (arr zeros) Z3.out (size_sums HZL.out) ((arr_size _).trans (zeros_length.trans (HZL.out.symm.trans (arr_size _).symm))) (arr_one _) ?_; rw [World.setRow_alloc_new]))
        go_ret3
        exact ⟨none, 0, 0, rfl, OwnI.nil_ _ _, (by have hsz_ := Below.size hB2; repeat' (first | with_reducible exact hB2 | with_reducible exact Below.refl _ _ | with_reducible refine Below.alloc ?_ ?_ _ | with_reducible refine Below.setCell ?_ ?_ _ | with_reducible refine Below.drew ?_ | with_reducible refine below_setRow ?_ ?_ _ | omega | (simp; done) | (simp; omega)))⟩
      · rw [hq] at HS
        rw [if_neg (by simp)]
        clear hq
        have hy2 : setL (l ++ tieB a b N) p zeros = (settle (l ++ tieB a b N) p zeros).getD zeros := rfl
        have hyl := setL_length (l := l ++ tieB a b N) (p := p) zeros_length
        have hsol2 := fun A' n' c' w' hn' hr' => solution_any p A' n' c' (l ++ tieB a b N) (by omega) hn' HOK2.out w' hr'
        generalize setL (l ++ tieB a b N) p zeros = y at *
        have HS2 := Lib.hid hsol2; have HYL := Lib.hid hyl; have HY2 := Lib.hid hy2; clear hsol2 hyl hy2
        cases hq2 : settle (l ++ tieB a b N) p zeros with
        | none =>
          rw [hq2] at HS2
          clear hq2
          go_enter Try.func41, Try.ntmps41
          go_wp2_with fail
          refine HC.out.mono ?_
          rintro e w1 ⟨rfl, hb1⟩
          have hB1 := hB.trans (hb1.mono hB.size)
          go_wp2_with (go_at_call 86; refine (HWY.out _).mono ?_; rintro e w' ⟨rfl, rfl⟩)
          refine (HS.out _ (hB1.alloc hB1.size _)).mono ?_
          rintro e w2 ⟨rfl, hb2⟩
          have hB2 := (hB1.alloc hB1.size (.cells #[.int .i64 (p : Int), .slice A n c] 70)).trans (hb2.mono (hB1.alloc hB1.size _).size)
          have z3 := Blk.new w2 79 (arr zeros)
          have c2 := ((Blk.new w1 70 #[.int .i64 (p : Int), .slice A n c]).keep hb2).alloc (.cells (arr z) 79)
          have y0 : (w2.alloc (.cells (arr z) 79)).cell? ⟨w1.heap.size, 0, none⟩ = some (.int .i64 (p : Int)) := c2.cell 0
          have y1 : (w2.alloc (.cells (arr z) 79)).cell? ⟨w1.heap.size, 1, none⟩ = some (.slice A n c) := c2.cell 1
          have Z3 := Lib.hid z3; clear z3 c2
          go_wp2_with (first | (refine wpList_alloc_row rfl 79 rfl (arr zeros) zero_sums.1 ?_; simp only [World.size_alloc]) | (refine wpList_store_row rfl 79 (.tmp 13) (.tmp 34) rfl _ (arr z) rfl rfl _ (arr zeros) Z3.out (size_sums HZL.out) ((arr_size _).trans (zeros_length.trans (HZL.out.symm.trans (arr_size _).symm))) (arr_one _) ?_; rw [World.setRow_alloc_new]))
          refine (HT.out _ (hB2.alloc hB2.size _)).mono ?_
          rintro e w3 ⟨g, rfl, ho, hb3⟩
          have hB3 := (hB2.alloc hB2.size (.cells (arr z) 79)).trans (hb3.mono (hB2.alloc hB2.size _).size)
          have hrd := ho.rd.1
          have HRD := Lib.hid hrd; clear hrd ho
          go_wp2_with fail
          refine (HS2.out _ _ _ _ (by omega) HRD.out).mono ?_
          rintro e w4 ⟨rfl, hb4⟩
          have hB4 := hB3.trans (hb4.mono hB3.size)
          have z5 := Blk.new w4 79 (arr zeros)
          have Z5 := Lib.hid z5; clear z5
          go_wp2_with (first | (refine wpList_alloc_row rfl 79 rfl (arr zeros) zero_sums.1 ?_; simp only [World.size_alloc]) | (refine wpList_store_row rfl 79 (.tmp 15) (.tmp 45) rfl _ (arr y) rfl rfl _ (arr zeros) Z5.out (size_sums HYL.out) ((arr_size _).trans (zeros_length.trans (HYL.out.symm.trans (arr_size _).symm))) (arr_one _) ?_; rw [World.setRow_alloc_new]))
          go_ret3
          exact ⟨none, 0, 0, rfl, OwnI.nil_ _ _, (by have hsz_ := Below.size hB4; repeat' (first | with_reducible exact hB4 | with_reducible exact Below.refl _ _ | with_reducible refine Below.alloc ?_ ?_ _ | with_reducible refine Below.setCell ?_ ?_ _ | with_reducible refine Below.drew ?_ | with_reducible refine below_setRow ?_ ?_ _ | omega | (simp; done) | (simp; omega)))⟩
        | some y' =>
          rw [hq2] at HS2
          have hyy : y = y' := by rw [HY2.out, hq2]; rfl
          subst hyy
          clear hq2
          go_enter Try.func41, Try.ntmps41
          go_wp2_with fail
          refine HC.out.mono ?_
          rintro e w1 ⟨rfl, hb1⟩
          have hB1 := hB.trans (hb1.mono hB.size)
          go_wp2_with (go_at_call 86; refine (HWY.out _).mono ?_; rintro e w' ⟨rfl, rfl⟩)
          refine (HS.out _ (hB1.alloc hB1.size _)).mono ?_
          rintro e w2 ⟨rfl, hb2⟩
          have hB2 := (hB1.alloc hB1.size (.cells #[.int .i64 (p : Int), .slice A n c] 70)).trans (hb2.mono (hB1.alloc hB1.size _).size)
          have z3 := Blk.new w2 79 (arr zeros)
          have c2 := ((Blk.new w1 70 #[.int .i64 (p : Int), .slice A n c]).keep hb2).alloc (.cells (arr z) 79)
          have y0 : (w2.alloc (.cells (arr z) 79)).cell? ⟨w1.heap.size, 0, none⟩ = some (.int .i64 (p : Int)) := c2.cell 0
          have y1 : (w2.alloc (.cells (arr z) 79)).cell? ⟨w1.heap.size, 1, none⟩ = some (.slice A n c) := c2.cell 1
          have C2 := Lib.hid c2
          have Z3 := Lib.hid z3; clear z3 c2
          go_wp2_with (first | (refine wpList_alloc_row rfl 79 rfl (arr zeros) zero_sums.1 ?_; simp only [World.size_alloc]) | (refine wpList_store_row rfl 79 (.tmp 13) (.tmp 34) rfl _ (arr z) rfl rfl _ (arr zeros) Z3.out (size_sums HZL.out) ((arr_size _).trans (zeros_length.trans (HZL.out.symm.trans (arr_size _).symm))) (arr_one _) ?_; rw [World.setRow_alloc_new]))
          refine (HT.out _ (hB2.alloc hB2.size _)).mono ?_
          rintro e w3 ⟨g, rfl, ho, hb3⟩
          have hB3 := (hB2.alloc hB2.size (.cells (arr z) 79)).trans (hb3.mono (hB2.alloc hB2.size _).size)
          have hrd := ho.rd.1
          have HRD := Lib.hid hrd; clear hrd ho
          go_wp2_with fail
          refine (HS2.out _ _ _ _ (by omega) HRD.out).mono ?_
          rintro e w4 ⟨rfl, hb4⟩
          have hB4 := hB3.trans (hb4.mono hB3.size)
          have z5 := Blk.new w4 79 (arr zeros)
          have z6 := Blk.new w4 79 (arr y)
          have c4 := ((C2.out.keep hb3).keep hb4).alloc (.cells (arr y) 79)
          have y2 : (w4.alloc (.cells (arr y) 79)).cell? ⟨w1.heap.size, 0, none⟩ = some (.int .i64 (p : Int)) := c4.cell 0
          have y3 : (w4.alloc (.cells (arr y) 79)).cell? ⟨w1.heap.size, 1, none⟩ = some (.slice A n c) := c4.cell 1
          have Z5 := Lib.hid z5; have Z6 := Lib.hid z6; clear z5 z6 c4
          go_wp2_with (first | (refine wpList_alloc_row rfl 79 rfl (arr zeros) zero_sums.1 ?_; simp only [World.size_alloc]) | (refine wpList_store_row rfl 79 (.tmp 15) (.tmp 45) rfl _ (arr y) rfl rfl _ (arr zeros) Z5.out (size_sums HYL.out) ((arr_size _).trans (zeros_length.trans (HYL.out.symm.trans (arr_size _).symm))) (arr_one _) ?_; rw [World.setRow_alloc_new]) | (refine wpList_load_row rfl 79 (.tmp 15) rfl _ rfl _ (arr y) (0, 0) _ Z6.out Try.underlying79 rfl (size_sums HYL.out) ?_))
          refine (list_any p A n c y HYL.out (by omega) _).mono ?_
          rintro e w5 ⟨g2, rfl, ho, hb5⟩
          have hB5 := (hB4.alloc hB4.size (.cells (arr y) 79)).trans (hb5.mono (hB4.alloc hB4.size _).size)
          have HO := Lib.hid ho; clear ho
          go_wp2
          go_ret3
          exact ⟨_, _, _, rfl, owns_base HO.out (hB4.alloc hB4.size _).size, hB5⟩
    · rw [if_pos hN]
      have hw := fun w => within_no N (-100000000) 100000000 w hN
      have HWN := Lib.hid hw; clear hw hN hok
      go_enter Try.func41, Try.ntmps41
      go_wp2_with fail
      refine HC.out.mono ?_
      rintro e w1 ⟨rfl, hb1⟩
      have hB1 := hB.trans (hb1.mono hB.size)
      go_wp2_with (go_at_call 86; refine (HWN.out _).mono ?_; rintro e w' ⟨rfl, rfl⟩)
      go_ret3
      exact ⟨none, 0, 0, rfl, OwnI.nil_ _ _, (by have hsz_ := Below.size hB1; repeat' (first | with_reducible exact hB1 | with_reducible exact Below.refl _ _ | with_reducible refine Below.alloc ?_ ?_ _ | with_reducible refine Below.setCell ?_ ?_ _ | with_reducible refine Below.drew ?_ | with_reducible refine below_setRow ?_ ?_ _ | omega | (simp; done) | (simp; omega)))⟩
  · rw [if_pos hg]
    generalize gcode p l [a, b] = q at *
    rw [sysR_no hg] at HC
    have hne : (q != 0) = true := by simpa using hg
    clear hg
    go_enter Try.func41, Try.ntmps41
    go_wp2_with fail
    refine HC.out.mono ?_
    rintro e w1 ⟨rfl, hb1⟩
    have hB1 := hB.trans (hb1.mono hB.size)
    go_wp2
    go_ret3
    exact ⟨none, 0, 0, rfl, OwnI.nil_ _ _, (by have hsz_ := Below.size hB1; repeat' (first | with_reducible exact hB1 | with_reducible exact Below.refl _ _ | with_reducible refine Below.alloc ?_ ?_ _ | with_reducible refine Below.setCell ?_ ?_ _ | with_reducible refine Below.drew ?_ | with_reducible refine below_setRow ?_ ?_ _ | omega | (simp; done) | (simp; omega)))⟩
end Go.Proofs.Ythlnialipjihdaa
