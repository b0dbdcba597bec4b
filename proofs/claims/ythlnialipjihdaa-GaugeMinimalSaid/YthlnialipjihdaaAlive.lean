/- alive: what the laws of layer 1 end with. -/
import Derived.Test.YthlnialipjihdaaRef
import Derived.Test.YthlnialipjihdaaRst
import Derived.Test.YthlnialipjihdaaAttain
import Derived.Test.YthlnialipjihdaaSolve
set_option linter.unusedSimpArgs false
set_option linter.unusedVariables false
namespace Go.Proofs.Ythlnialipjihdaa
open Go.RowKit

def conL : List Bnd := threeL ++ [⟨1, 0, -6, 5⟩]
theorem alive_with : withC 3 threeL ⟨1, 0, -6, 5⟩ = 0 := by decide +kernel
theorem alive_solve : solveV 3 threeL = ([-6, -4, 0], true, 0) := by decide +kernel
theorem alive_attain : attainV 3 threeL 0 1 3 = ([-7, -4, 0], true, 0) := by decide +kernel
theorem alive_rests : restsV 3 threeL 0 2 true = ([7, 9], 0) := by decide +kernel
theorem alive_doubt : doubtV 3 conL = ([5, 7], true, 0) := by decide +kernel
theorem alive_circle : (circleV 3 conL).2 = (true, 0) ∧ (circleV 3 conL).1.length = 2 := by decide +kernel
theorem alive_changed : changedV 3 threeL ⟨0, 1, 3, 6⟩ 0 = ([1, 2], 0) := by decide +kernel
theorem alive_rigid : rigidV 3 threeL = ([0, 1, 1], 0) := by decide +kernel
theorem alive_great : endV 3 threeL 0 2 true = .tuple #[.int .i64 9, .bool true, .int .i64 0] := by kernel_rfl
theorem alive_least : endV 3 threeL 0 1 false = .tuple #[.int .i64 2, .bool true, .int .i64 0] := by kernel_rfl

theorem rdI_new (w : World) (L : List Int) (n : Nat) (hn : L.length = n) : RdI (w.alloc (.cells (arr L) 3)) (some ⟨w.heap.size, 0, none⟩) n n L := by
  refine ⟨hn, Nat.le_refl _, (fun h => by cases h), .inr ⟨w.heap.size, 0, rfl, by simp, fun j u hu => ?_⟩⟩
  rw [Nat.zero_add, (Blk.new w 3 (arr L)).cell j]
  simpa [arr] using hu
theorem Same_yes (A B : Option Addr) (m d m' d' : Nat) (x : List Int) (w : World) (hx : RdI w A m d x) (hy : RdI w B m' d' x) (hm : m ≤ maxLen) :
    Calls Try.prog 27 #[.slice A m d, .slice B m' d'] w fun e w' => e = .returned (.bool true) ∧ Below w.heap.size w w' :=
  (Same_any A B m d m' d' x x w hx hy hm).mono (fun e w' h => ⟨by rw [h.1, decide_eq_true rfl], h.2⟩)
/-- A list in hand: readable, of a known length. -/
theorem ownI_rd {w : World} {base : Nat} {A : Option Addr} {n c : Nat} {l : List Int} (h : OwnI w base A n c l) : RdI w A n c l ∧ n = l.length := ⟨(OwnI.rd h).1, (OwnI.rd h).1.len.symm⟩
set_option maxRecDepth 100000 in
set_option maxHeartbeats 8000000 in
theorem alive_any (w : World) : Calls Try.prog 19 #[] w fun e w' => e = .returned (.bool true) ∧ Below w.heap.size w w' := by
  go_enter Try.func19, Try.ntmps19
  go_wp2_with fail
  refine (three_any w).mono ?_
  rintro e w1 ⟨g, rfl, ho, hb1⟩
  have rd1_1 := Lib.hid ((OwnB.rd ho).1)
  have bel_2 := Lib.hid (hb1)
  clear ho hb1
  have rd1_3 := Lib.hid (RdB.alloc rd1_1.out (.cells #[.int .i64 3, .slice (some ⟨g, 0, none⟩) 4 4] 24))
  clear rd1_1
  have bel_4 := Lib.hid (Below.alloc bel_2.out (bel_2.out.size) (.cells #[.int .i64 3, .slice (some ⟨g, 0, none⟩) 4 4] 24))
  clear bel_2
  have s1_5 := Lib.hid (Blk.new w1 24 #[.int .i64 3, .slice (some ⟨g, 0, none⟩) 4 4])
  have z1 : (w1.alloc (.cells #[.int .i64 3, .slice (some ⟨g, 0, none⟩) 4 4] 24)).cell? ⟨w1.heap.size, 0, none⟩ = some (.int .i64 3) := Blk.cell s1_5.out 0
  have z2 : (w1.alloc (.cells #[.int .i64 3, .slice (some ⟨g, 0, none⟩) 4 4] 24)).cell? ⟨w1.heap.size, 1, none⟩ = some (.slice (some ⟨g, 0, none⟩) 4 4) := Blk.cell s1_5.out 1
  have hc := With_any 3 1 0 (-6) 5 (some ⟨g, 0, none⟩) 4 4 threeL _ rd1_3.out (by omega)
  rw [alive_with] at hc
  unfold RetS at hc
  simp only [sysR_yes] at hc
  have HC := Lib.hid hc; clear hc
  go_wp2_with fail
  refine HC.out.mono ?_
  rintro e w2 ⟨A2, n2, c2, rfl, ho, hb2⟩
  clear HC
  clear z1 z2
  have hrd := (OwnB.rd (ho trivial)).1
  obtain rfl : n2 = 5 := hrd.len.symm
  have rd1_6 := Lib.hid (RdB.below rd1_3.out hb2)
  clear rd1_3
  have bel_7 := Lib.hid (Below.trans bel_4.out (Below.mono hb2 (bel_4.out.size)))
  clear bel_4
  have s1_8 := Lib.hid (Blk.keep s1_5.out hb2)
  clear s1_5
  have rd2_9 := Lib.hid ((show RdB w2 A2 5 c2 conL from hrd))
  clear ho hrd hb2
  have rd1_10 := Lib.hid (RdB.alloc rd1_6.out (.cells #[.int .i64 3, .slice A2 5 c2] 24))
  clear rd1_6
  have bel_11 := Lib.hid (Below.alloc bel_7.out (bel_7.out.size) (.cells #[.int .i64 3, .slice A2 5 c2] 24))
  clear bel_7
  have s1_12 := Lib.hid (Blk.alloc s1_8.out (.cells #[.int .i64 3, .slice A2 5 c2] 24))
  clear s1_8
  have rd2_13 := Lib.hid (RdB.alloc rd2_9.out (.cells #[.int .i64 3, .slice A2 5 c2] 24))
  clear rd2_9
  have s2_14 := Lib.hid (Blk.new w2 24 #[.int .i64 3, .slice A2 5 c2])
  have z1 : (w2.alloc (.cells #[.int .i64 3, .slice A2 5 c2] 24)).cell? ⟨w1.heap.size, 0, none⟩ = some (.int .i64 3) := Blk.cell s1_12.out 0
  have z2 : (w2.alloc (.cells #[.int .i64 3, .slice A2 5 c2] 24)).cell? ⟨w1.heap.size, 1, none⟩ = some (.slice (some ⟨g, 0, none⟩) 4 4) := Blk.cell s1_12.out 1
  have z3 : (w2.alloc (.cells #[.int .i64 3, .slice A2 5 c2] 24)).cell? ⟨w2.heap.size, 0, none⟩ = some (.int .i64 3) := Blk.cell s2_14.out 0
  have z4 : (w2.alloc (.cells #[.int .i64 3, .slice A2 5 c2] 24)).cell? ⟨w2.heap.size, 1, none⟩ = some (.slice A2 5 c2) := Blk.cell s2_14.out 1
  have hc := Solve_any 3 (some ⟨g, 0, none⟩) 4 4 threeL _ rd1_10.out (by unfold maxLen; omega)
  rw [alive_solve] at hc
  unfold RetI at hc
  dsimp only at hc
  have HC := Lib.hid hc; clear hc
  go_wp2_with fail
  refine HC.out.mono ?_
  rintro e w3 ⟨Ax, nx, cx, rfl, ho, hb⟩
  clear HC
  clear z1 z2 z3 z4
  have rd1_15 := Lib.hid (RdB.below rd1_10.out hb)
  clear rd1_10
  have bel_16 := Lib.hid (Below.trans bel_11.out (Below.mono hb (bel_11.out.size)))
  clear bel_11
  have s1_17 := Lib.hid (Blk.keep s1_12.out hb)
  clear s1_12
  have rd2_18 := Lib.hid (RdB.below rd2_13.out hb)
  clear rd2_13
  have s2_19 := Lib.hid (Blk.keep s2_14.out hb)
  clear s2_14
  have x_20 := Lib.hid ((OwnI.rd ho).1)
  obtain rfl : nx = 3 := x_20.out.len.symm
  clear ho hb
  have z1 : (w3).cell? ⟨w1.heap.size, 0, none⟩ = some (.int .i64 3) := Blk.cell s1_17.out 0
  have z2 : (w3).cell? ⟨w1.heap.size, 1, none⟩ = some (.slice (some ⟨g, 0, none⟩) 4 4) := Blk.cell s1_17.out 1
  have z3 : (w3).cell? ⟨w2.heap.size, 0, none⟩ = some (.int .i64 3) := Blk.cell s2_19.out 0
  have z4 : (w3).cell? ⟨w2.heap.size, 1, none⟩ = some (.slice A2 5 c2) := Blk.cell s2_19.out 1
  have hc := Greatest_any 3 0 2 (some ⟨g, 0, none⟩) 4 4 threeL _ rd1_15.out (by unfold maxLen; omega)
  have HC := Lib.hid hc; clear hc
  go_wp2_with fail
  refine HC.out.mono ?_
  rintro e w4 ⟨x_, t_, q_, rfl, hv_, hb⟩
  clear HC
  clear z1 z2 z3 z4
  rw [alive_great] at hv_
  injection hv_ with hv_; injection hv_ with hv_; injection hv_ with e1 hv_; injection hv_ with e2 hv_; injection hv_ with e3 hv_
  injection e1 with _ e1; injection e2 with e2; injection e3 with _ e3
  subst e1 e2 e3
  have rd1_21 := Lib.hid (RdB.below rd1_15.out hb)
  clear rd1_15
  have bel_22 := Lib.hid (Below.trans bel_16.out (Below.mono hb (bel_16.out.size)))
  clear bel_16
  have s1_23 := Lib.hid (Blk.keep s1_17.out hb)
  clear s1_17
  have rd2_24 := Lib.hid (RdB.below rd2_18.out hb)
  clear rd2_18
  have s2_25 := Lib.hid (Blk.keep s2_19.out hb)
  clear s2_19
  have x_26 := Lib.hid (RdI.below x_20.out hb)
  clear x_20
  clear hb
  have z1 : (w4).cell? ⟨w1.heap.size, 0, none⟩ = some (.int .i64 3) := Blk.cell s1_23.out 0
  have z2 : (w4).cell? ⟨w1.heap.size, 1, none⟩ = some (.slice (some ⟨g, 0, none⟩) 4 4) := Blk.cell s1_23.out 1
  have z3 : (w4).cell? ⟨w2.heap.size, 0, none⟩ = some (.int .i64 3) := Blk.cell s2_25.out 0
  have z4 : (w4).cell? ⟨w2.heap.size, 1, none⟩ = some (.slice A2 5 c2) := Blk.cell s2_25.out 1
  have hc := Least_any 3 0 1 (some ⟨g, 0, none⟩) 4 4 threeL _ rd1_21.out (by unfold maxLen; omega)
  have HC := Lib.hid hc; clear hc
  go_wp2_with fail
  refine HC.out.mono ?_
  rintro e w5 ⟨x_, t_, q_, rfl, hv_, hb⟩
  clear HC
  clear z1 z2 z3 z4
  rw [alive_least] at hv_
  injection hv_ with hv_; injection hv_ with hv_; injection hv_ with e1 hv_; injection hv_ with e2 hv_; injection hv_ with e3 hv_
  injection e1 with _ e1; injection e2 with e2; injection e3 with _ e3
  subst e1 e2 e3
  have rd1_27 := Lib.hid (RdB.below rd1_21.out hb)
  clear rd1_21
  have bel_28 := Lib.hid (Below.trans bel_22.out (Below.mono hb (bel_22.out.size)))
  clear bel_22
  have s1_29 := Lib.hid (Blk.keep s1_23.out hb)
  clear s1_23
  have rd2_30 := Lib.hid (RdB.below rd2_24.out hb)
  clear rd2_24
  have s2_31 := Lib.hid (Blk.keep s2_25.out hb)
  clear s2_25
  have x_32 := Lib.hid (RdI.below x_26.out hb)
  clear x_26
  clear hb
  have z1 : (w5).cell? ⟨w1.heap.size, 0, none⟩ = some (.int .i64 3) := Blk.cell s1_29.out 0
  have z2 : (w5).cell? ⟨w1.heap.size, 1, none⟩ = some (.slice (some ⟨g, 0, none⟩) 4 4) := Blk.cell s1_29.out 1
  have z3 : (w5).cell? ⟨w2.heap.size, 0, none⟩ = some (.int .i64 3) := Blk.cell s2_31.out 0
  have z4 : (w5).cell? ⟨w2.heap.size, 1, none⟩ = some (.slice A2 5 c2) := Blk.cell s2_31.out 1
  have hc := Attain_any 3 0 1 3 (some ⟨g, 0, none⟩) 4 4 threeL _ rd1_27.out (by unfold maxLen; omega)
  rw [alive_attain] at hc
  unfold RetI at hc
  dsimp only at hc
  have HC := Lib.hid hc; clear hc
  go_wp2_with fail
  refine HC.out.mono ?_
  rintro e w6 ⟨Ay, ny, cy, rfl, ho, hb⟩
  clear HC
  clear z1 z2 z3 z4
  have rd1_33 := Lib.hid (RdB.below rd1_27.out hb)
  clear rd1_27
  have bel_34 := Lib.hid (Below.trans bel_28.out (Below.mono hb (bel_28.out.size)))
  clear bel_28
  have s1_35 := Lib.hid (Blk.keep s1_29.out hb)
  clear s1_29
  have rd2_36 := Lib.hid (RdB.below rd2_30.out hb)
  clear rd2_30
  have s2_37 := Lib.hid (Blk.keep s2_31.out hb)
  clear s2_31
  have x_38 := Lib.hid (RdI.below x_32.out hb)
  clear x_32
  have y_39 := Lib.hid ((OwnI.rd ho).1)
  obtain rfl : ny = 3 := y_39.out.len.symm
  clear ho hb
  have z1 : (w6).cell? ⟨w1.heap.size, 0, none⟩ = some (.int .i64 3) := Blk.cell s1_35.out 0
  have z2 : (w6).cell? ⟨w1.heap.size, 1, none⟩ = some (.slice (some ⟨g, 0, none⟩) 4 4) := Blk.cell s1_35.out 1
  have z3 : (w6).cell? ⟨w2.heap.size, 0, none⟩ = some (.int .i64 3) := Blk.cell s2_37.out 0
  have z4 : (w6).cell? ⟨w2.heap.size, 1, none⟩ = some (.slice A2 5 c2) := Blk.cell s2_37.out 1
  have hc := Rests_any 3 0 2 true (some ⟨g, 0, none⟩) 4 4 threeL _ rd1_33.out (by unfold maxLen; omega)
  rw [alive_rests] at hc
  unfold RetL at hc
  dsimp only at hc
  have HC := Lib.hid hc; clear hc
  go_wp2_with fail
  refine HC.out.mono ?_
  rintro e w7 ⟨Ar, nr, cr, rfl, ho, hb⟩
  clear HC
  clear z1 z2 z3 z4
  have rd1_40 := Lib.hid (RdB.below rd1_33.out hb)
  clear rd1_33
  have bel_41 := Lib.hid (Below.trans bel_34.out (Below.mono hb (bel_34.out.size)))
  clear bel_34
  have s1_42 := Lib.hid (Blk.keep s1_35.out hb)
  clear s1_35
  have rd2_43 := Lib.hid (RdB.below rd2_36.out hb)
  clear rd2_36
  have s2_44 := Lib.hid (Blk.keep s2_37.out hb)
  clear s2_37
  have x_45 := Lib.hid (RdI.below x_38.out hb)
  clear x_38
  have y_46 := Lib.hid (RdI.below y_39.out hb)
  clear y_39
  have r_47 := Lib.hid ((OwnI.rd ho).1)
  obtain rfl : nr = 2 := r_47.out.len.symm
  clear ho hb
  have z1 : (w7).cell? ⟨w1.heap.size, 0, none⟩ = some (.int .i64 3) := Blk.cell s1_42.out 0
  have z2 : (w7).cell? ⟨w1.heap.size, 1, none⟩ = some (.slice (some ⟨g, 0, none⟩) 4 4) := Blk.cell s1_42.out 1
  have z3 : (w7).cell? ⟨w2.heap.size, 0, none⟩ = some (.int .i64 3) := Blk.cell s2_44.out 0
  have z4 : (w7).cell? ⟨w2.heap.size, 1, none⟩ = some (.slice A2 5 c2) := Blk.cell s2_44.out 1
  have hc := Doubt_any 3 A2 5 c2 conL _ rd2_43.out (by unfold maxLen; omega)
  rw [alive_doubt] at hc
  unfold RetI at hc
  dsimp only at hc
  have HC := Lib.hid hc; clear hc
  go_wp2_with fail
  refine HC.out.mono ?_
  rintro e w8 ⟨Ad, nd, cd, rfl, ho, hb⟩
  clear HC
  clear z1 z2 z3 z4
  have rd1_48 := Lib.hid (RdB.below rd1_40.out hb)
  clear rd1_40
  have bel_49 := Lib.hid (Below.trans bel_41.out (Below.mono hb (bel_41.out.size)))
  clear bel_41
  have s1_50 := Lib.hid (Blk.keep s1_42.out hb)
  clear s1_42
  have rd2_51 := Lib.hid (RdB.below rd2_43.out hb)
  clear rd2_43
  have s2_52 := Lib.hid (Blk.keep s2_44.out hb)
  clear s2_44
  have x_53 := Lib.hid (RdI.below x_45.out hb)
  clear x_45
  have y_54 := Lib.hid (RdI.below y_46.out hb)
  clear y_46
  have r_55 := Lib.hid (RdI.below r_47.out hb)
  clear r_47
  have d_56 := Lib.hid ((OwnI.rd ho).1)
  obtain rfl : nd = 2 := d_56.out.len.symm
  clear ho hb
  have z1 : (w8).cell? ⟨w1.heap.size, 0, none⟩ = some (.int .i64 3) := Blk.cell s1_50.out 0
  have z2 : (w8).cell? ⟨w1.heap.size, 1, none⟩ = some (.slice (some ⟨g, 0, none⟩) 4 4) := Blk.cell s1_50.out 1
  have z3 : (w8).cell? ⟨w2.heap.size, 0, none⟩ = some (.int .i64 3) := Blk.cell s2_52.out 0
  have z4 : (w8).cell? ⟨w2.heap.size, 1, none⟩ = some (.slice A2 5 c2) := Blk.cell s2_52.out 1
  obtain ⟨hq1, hq2⟩ := alive_circle
  have hc := Circle_any 3 A2 5 c2 conL _ rd2_51.out (by unfold maxLen; omega)
  obtain ⟨V, hV⟩ : ∃ V, circleV 3 conL = V := ⟨_, rfl⟩
  rw [hV] at hc hq1 hq2
  obtain ⟨V1, V2⟩ := V
  dsimp only at hq1 hq2
  subst hq1
  unfold RetI at hc
  dsimp only at hc
  have HC := Lib.hid hc; clear hc hV
  go_wp2_with fail
  refine HC.out.mono ?_
  rintro e w9 ⟨Ac, nc, cc, rfl, ho, hb⟩
  clear HC
  clear z1 z2 z3 z4
  have rd1_57 := Lib.hid (RdB.below rd1_48.out hb)
  clear rd1_48
  have bel_58 := Lib.hid (Below.trans bel_49.out (Below.mono hb (bel_49.out.size)))
  clear bel_49
  have s1_59 := Lib.hid (Blk.keep s1_50.out hb)
  clear s1_50
  have rd2_60 := Lib.hid (RdB.below rd2_51.out hb)
  clear rd2_51
  have s2_61 := Lib.hid (Blk.keep s2_52.out hb)
  clear s2_52
  have x_62 := Lib.hid (RdI.below x_53.out hb)
  clear x_53
  have y_63 := Lib.hid (RdI.below y_54.out hb)
  clear y_54
  have r_64 := Lib.hid (RdI.below r_55.out hb)
  clear r_55
  have d_65 := Lib.hid (RdI.below d_56.out hb)
  clear d_56
  obtain rfl : nc = 2 := (OwnI.rd ho).1.len.symm.trans hq2
  clear ho hb hq2
  have z1 : (w9).cell? ⟨w1.heap.size, 0, none⟩ = some (.int .i64 3) := Blk.cell s1_59.out 0
  have z2 : (w9).cell? ⟨w1.heap.size, 1, none⟩ = some (.slice (some ⟨g, 0, none⟩) 4 4) := Blk.cell s1_59.out 1
  have z3 : (w9).cell? ⟨w2.heap.size, 0, none⟩ = some (.int .i64 3) := Blk.cell s2_61.out 0
  have z4 : (w9).cell? ⟨w2.heap.size, 1, none⟩ = some (.slice A2 5 c2) := Blk.cell s2_61.out 1
  have hc := Changed_any 3 0 1 3 6 0 (some ⟨g, 0, none⟩) 4 4 threeL _ rd1_57.out (by omega)
  rw [alive_changed] at hc
  unfold RetL at hc
  dsimp only at hc
  have HC := Lib.hid hc; clear hc
  go_wp2_with fail
  refine HC.out.mono ?_
  rintro e w10 ⟨Al, nl, cl, rfl, ho, hb⟩
  clear HC
  clear z1 z2 z3 z4
  have rd1_66 := Lib.hid (RdB.below rd1_57.out hb)
  clear rd1_57
  have bel_67 := Lib.hid (Below.trans bel_58.out (Below.mono hb (bel_58.out.size)))
  clear bel_58
  have s1_68 := Lib.hid (Blk.keep s1_59.out hb)
  clear s1_59
  have rd2_69 := Lib.hid (RdB.below rd2_60.out hb)
  clear rd2_60
  have s2_70 := Lib.hid (Blk.keep s2_61.out hb)
  clear s2_61
  have x_71 := Lib.hid (RdI.below x_62.out hb)
  clear x_62
  have y_72 := Lib.hid (RdI.below y_63.out hb)
  clear y_63
  have r_73 := Lib.hid (RdI.below r_64.out hb)
  clear r_64
  have d_74 := Lib.hid (RdI.below d_65.out hb)
  clear d_65
  have l_75 := Lib.hid ((OwnI.rd ho).1)
  obtain rfl : nl = 2 := l_75.out.len.symm
  clear ho hb
  have z1 : (w10).cell? ⟨w1.heap.size, 0, none⟩ = some (.int .i64 3) := Blk.cell s1_68.out 0
  have z2 : (w10).cell? ⟨w1.heap.size, 1, none⟩ = some (.slice (some ⟨g, 0, none⟩) 4 4) := Blk.cell s1_68.out 1
  have z3 : (w10).cell? ⟨w2.heap.size, 0, none⟩ = some (.int .i64 3) := Blk.cell s2_70.out 0
  have z4 : (w10).cell? ⟨w2.heap.size, 1, none⟩ = some (.slice A2 5 c2) := Blk.cell s2_70.out 1
  have hc := Rigid_any 3 (some ⟨g, 0, none⟩) 4 4 threeL _ rd1_66.out (by unfold maxLen; omega)
  rw [alive_rigid] at hc
  unfold RetL at hc
  dsimp only at hc
  have HC := Lib.hid hc; clear hc
  go_wp2_with fail
  refine HC.out.mono ?_
  rintro e w11 ⟨Av, nv, cv, rfl, ho, hb⟩
  clear HC
  clear z1 z2 z3 z4
  have rd1_76 := Lib.hid (RdB.below rd1_66.out hb)
  clear rd1_66
  have bel_77 := Lib.hid (Below.trans bel_67.out (Below.mono hb (bel_67.out.size)))
  clear bel_67
  have s1_78 := Lib.hid (Blk.keep s1_68.out hb)
  clear s1_68
  have rd2_79 := Lib.hid (RdB.below rd2_69.out hb)
  clear rd2_69
  have s2_80 := Lib.hid (Blk.keep s2_70.out hb)
  clear s2_70
  have x_81 := Lib.hid (RdI.below x_71.out hb)
  clear x_71
  have y_82 := Lib.hid (RdI.below y_72.out hb)
  clear y_72
  have r_83 := Lib.hid (RdI.below r_73.out hb)
  clear r_73
  have d_84 := Lib.hid (RdI.below d_74.out hb)
  clear d_74
  have l_85 := Lib.hid (RdI.below l_75.out hb)
  clear l_75
  have v_86 := Lib.hid ((OwnI.rd ho).1)
  obtain rfl : nv = 3 := v_86.out.len.symm
  clear ho hb
  have z1 : (w11).cell? ⟨w1.heap.size, 0, none⟩ = some (.int .i64 3) := Blk.cell s1_78.out 0
  have z2 : (w11).cell? ⟨w1.heap.size, 1, none⟩ = some (.slice (some ⟨g, 0, none⟩) 4 4) := Blk.cell s1_78.out 1
  have z3 : (w11).cell? ⟨w2.heap.size, 0, none⟩ = some (.int .i64 3) := Blk.cell s2_80.out 0
  have z4 : (w11).cell? ⟨w2.heap.size, 1, none⟩ = some (.slice A2 5 c2) := Blk.cell s2_80.out 1
  go_wp2_with fail
  clear z1 z2 z3 z4
  have rn := rdI_new w11 [-6, -4, 0] 3 rfl
  have rd1_87 := Lib.hid (RdB.alloc rd1_76.out (.cells (arr [-6, -4, 0]) 3))
  clear rd1_76
  have bel_88 := Lib.hid (Below.alloc bel_77.out (bel_77.out.size) (.cells (arr [-6, -4, 0]) 3))
  clear bel_77
  have s1_89 := Lib.hid (Blk.alloc s1_78.out (.cells (arr [-6, -4, 0]) 3))
  clear s1_78
  have rd2_90 := Lib.hid (RdB.alloc rd2_79.out (.cells (arr [-6, -4, 0]) 3))
  clear rd2_79
  have s2_91 := Lib.hid (Blk.alloc s2_80.out (.cells (arr [-6, -4, 0]) 3))
  clear s2_80
  have x_92 := Lib.hid (RdI.alloc x_81.out (.cells (arr [-6, -4, 0]) 3))
  clear x_81
  have y_93 := Lib.hid (RdI.alloc y_82.out (.cells (arr [-6, -4, 0]) 3))
  clear y_82
  have r_94 := Lib.hid (RdI.alloc r_83.out (.cells (arr [-6, -4, 0]) 3))
  clear r_83
  have d_95 := Lib.hid (RdI.alloc d_84.out (.cells (arr [-6, -4, 0]) 3))
  clear d_84
  have l_96 := Lib.hid (RdI.alloc l_85.out (.cells (arr [-6, -4, 0]) 3))
  clear l_85
  have v_97 := Lib.hid (RdI.alloc v_86.out (.cells (arr [-6, -4, 0]) 3))
  clear v_86
  refine (Same_yes Ax (some ⟨w11.heap.size, 0, none⟩) 3 cx 3 3 [-6, -4, 0] _ x_92.out rn (by unfold maxLen; omega)).mono ?_
  rintro e w12 ⟨rfl, hb⟩
  have rd1_98 := Lib.hid (RdB.below rd1_87.out hb)
  clear rd1_87
  have bel_99 := Lib.hid (Below.trans bel_88.out (Below.mono hb (bel_88.out.size)))
  clear bel_88
  have s1_100 := Lib.hid (Blk.keep s1_89.out hb)
  clear s1_89
  have rd2_101 := Lib.hid (RdB.below rd2_90.out hb)
  clear rd2_90
  have s2_102 := Lib.hid (Blk.keep s2_91.out hb)
  clear s2_91
  have x_103 := Lib.hid (RdI.below x_92.out hb)
  clear x_92
  have y_104 := Lib.hid (RdI.below y_93.out hb)
  clear y_93
  have r_105 := Lib.hid (RdI.below r_94.out hb)
  clear r_94
  have d_106 := Lib.hid (RdI.below d_95.out hb)
  clear d_95
  have l_107 := Lib.hid (RdI.below l_96.out hb)
  clear l_96
  have v_108 := Lib.hid (RdI.below v_97.out hb)
  clear v_97
  clear rn hb
  go_wp2_with fail
  have rn := rdI_new w12 [-7, -4, 0] 3 rfl
  have rd1_109 := Lib.hid (RdB.alloc rd1_98.out (.cells (arr [-7, -4, 0]) 3))
  clear rd1_98
  have bel_110 := Lib.hid (Below.alloc bel_99.out (bel_99.out.size) (.cells (arr [-7, -4, 0]) 3))
  clear bel_99
  have s1_111 := Lib.hid (Blk.alloc s1_100.out (.cells (arr [-7, -4, 0]) 3))
  clear s1_100
  have rd2_112 := Lib.hid (RdB.alloc rd2_101.out (.cells (arr [-7, -4, 0]) 3))
  clear rd2_101
  have s2_113 := Lib.hid (Blk.alloc s2_102.out (.cells (arr [-7, -4, 0]) 3))
  clear s2_102
  have x_114 := Lib.hid (RdI.alloc x_103.out (.cells (arr [-7, -4, 0]) 3))
  clear x_103
  have y_115 := Lib.hid (RdI.alloc y_104.out (.cells (arr [-7, -4, 0]) 3))
  clear y_104
  have r_116 := Lib.hid (RdI.alloc r_105.out (.cells (arr [-7, -4, 0]) 3))
  clear r_105
  have d_117 := Lib.hid (RdI.alloc d_106.out (.cells (arr [-7, -4, 0]) 3))
  clear d_106
  have l_118 := Lib.hid (RdI.alloc l_107.out (.cells (arr [-7, -4, 0]) 3))
  clear l_107
  have v_119 := Lib.hid (RdI.alloc v_108.out (.cells (arr [-7, -4, 0]) 3))
  clear v_108
  refine (Same_yes Ay (some ⟨w12.heap.size, 0, none⟩) 3 cy 3 3 [-7, -4, 0] _ y_115.out rn (by unfold maxLen; omega)).mono ?_
  rintro e w13 ⟨rfl, hb⟩
  have rd1_120 := Lib.hid (RdB.below rd1_109.out hb)
  clear rd1_109
  have bel_121 := Lib.hid (Below.trans bel_110.out (Below.mono hb (bel_110.out.size)))
  clear bel_110
  have s1_122 := Lib.hid (Blk.keep s1_111.out hb)
  clear s1_111
  have rd2_123 := Lib.hid (RdB.below rd2_112.out hb)
  clear rd2_112
  have s2_124 := Lib.hid (Blk.keep s2_113.out hb)
  clear s2_113
  have x_125 := Lib.hid (RdI.below x_114.out hb)
  clear x_114
  have y_126 := Lib.hid (RdI.below y_115.out hb)
  clear y_115
  have r_127 := Lib.hid (RdI.below r_116.out hb)
  clear r_116
  have d_128 := Lib.hid (RdI.below d_117.out hb)
  clear d_117
  have l_129 := Lib.hid (RdI.below l_118.out hb)
  clear l_118
  have v_130 := Lib.hid (RdI.below v_119.out hb)
  clear v_119
  clear rn hb
  go_wp2_with fail
  have rn := rdI_new w13 [7, 9] 2 rfl
  have rd1_131 := Lib.hid (RdB.alloc rd1_120.out (.cells (arr [7, 9]) 3))
  clear rd1_120
  have bel_132 := Lib.hid (Below.alloc bel_121.out (bel_121.out.size) (.cells (arr [7, 9]) 3))
  clear bel_121
  have s1_133 := Lib.hid (Blk.alloc s1_122.out (.cells (arr [7, 9]) 3))
  clear s1_122
  have rd2_134 := Lib.hid (RdB.alloc rd2_123.out (.cells (arr [7, 9]) 3))
  clear rd2_123
  have s2_135 := Lib.hid (Blk.alloc s2_124.out (.cells (arr [7, 9]) 3))
  clear s2_124
  have x_136 := Lib.hid (RdI.alloc x_125.out (.cells (arr [7, 9]) 3))
  clear x_125
  have y_137 := Lib.hid (RdI.alloc y_126.out (.cells (arr [7, 9]) 3))
  clear y_126
  have r_138 := Lib.hid (RdI.alloc r_127.out (.cells (arr [7, 9]) 3))
  clear r_127
  have d_139 := Lib.hid (RdI.alloc d_128.out (.cells (arr [7, 9]) 3))
  clear d_128
  have l_140 := Lib.hid (RdI.alloc l_129.out (.cells (arr [7, 9]) 3))
  clear l_129
  have v_141 := Lib.hid (RdI.alloc v_130.out (.cells (arr [7, 9]) 3))
  clear v_130
  refine (Same_yes Ar (some ⟨w13.heap.size, 0, none⟩) 2 cr 2 2 [7, 9] _ r_138.out rn (by unfold maxLen; omega)).mono ?_
  rintro e w14 ⟨rfl, hb⟩
  have rd1_142 := Lib.hid (RdB.below rd1_131.out hb)
  clear rd1_131
  have bel_143 := Lib.hid (Below.trans bel_132.out (Below.mono hb (bel_132.out.size)))
  clear bel_132
  have s1_144 := Lib.hid (Blk.keep s1_133.out hb)
  clear s1_133
  have rd2_145 := Lib.hid (RdB.below rd2_134.out hb)
  clear rd2_134
  have s2_146 := Lib.hid (Blk.keep s2_135.out hb)
  clear s2_135
  have x_147 := Lib.hid (RdI.below x_136.out hb)
  clear x_136
  have y_148 := Lib.hid (RdI.below y_137.out hb)
  clear y_137
  have r_149 := Lib.hid (RdI.below r_138.out hb)
  clear r_138
  have d_150 := Lib.hid (RdI.below d_139.out hb)
  clear d_139
  have l_151 := Lib.hid (RdI.below l_140.out hb)
  clear l_140
  have v_152 := Lib.hid (RdI.below v_141.out hb)
  clear v_141
  clear rn hb
  go_wp2_with fail
  have rn := rdI_new w14 [5, 7] 2 rfl
  have rd1_153 := Lib.hid (RdB.alloc rd1_142.out (.cells (arr [5, 7]) 3))
  clear rd1_142
  have bel_154 := Lib.hid (Below.alloc bel_143.out (bel_143.out.size) (.cells (arr [5, 7]) 3))
  clear bel_143
  have s1_155 := Lib.hid (Blk.alloc s1_144.out (.cells (arr [5, 7]) 3))
  clear s1_144
  have rd2_156 := Lib.hid (RdB.alloc rd2_145.out (.cells (arr [5, 7]) 3))
  clear rd2_145
  have s2_157 := Lib.hid (Blk.alloc s2_146.out (.cells (arr [5, 7]) 3))
  clear s2_146
  have x_158 := Lib.hid (RdI.alloc x_147.out (.cells (arr [5, 7]) 3))
  clear x_147
  have y_159 := Lib.hid (RdI.alloc y_148.out (.cells (arr [5, 7]) 3))
  clear y_148
  have r_160 := Lib.hid (RdI.alloc r_149.out (.cells (arr [5, 7]) 3))
  clear r_149
  have d_161 := Lib.hid (RdI.alloc d_150.out (.cells (arr [5, 7]) 3))
  clear d_150
  have l_162 := Lib.hid (RdI.alloc l_151.out (.cells (arr [5, 7]) 3))
  clear l_151
  have v_163 := Lib.hid (RdI.alloc v_152.out (.cells (arr [5, 7]) 3))
  clear v_152
  refine (Same_yes Ad (some ⟨w14.heap.size, 0, none⟩) 2 cd 2 2 [5, 7] _ d_161.out rn (by unfold maxLen; omega)).mono ?_
  rintro e w15 ⟨rfl, hb⟩
  have rd1_164 := Lib.hid (RdB.below rd1_153.out hb)
  clear rd1_153
  have bel_165 := Lib.hid (Below.trans bel_154.out (Below.mono hb (bel_154.out.size)))
  clear bel_154
  have s1_166 := Lib.hid (Blk.keep s1_155.out hb)
  clear s1_155
  have rd2_167 := Lib.hid (RdB.below rd2_156.out hb)
  clear rd2_156
  have s2_168 := Lib.hid (Blk.keep s2_157.out hb)
  clear s2_157
  have x_169 := Lib.hid (RdI.below x_158.out hb)
  clear x_158
  have y_170 := Lib.hid (RdI.below y_159.out hb)
  clear y_159
  have r_171 := Lib.hid (RdI.below r_160.out hb)
  clear r_160
  have d_172 := Lib.hid (RdI.below d_161.out hb)
  clear d_161
  have l_173 := Lib.hid (RdI.below l_162.out hb)
  clear l_162
  have v_174 := Lib.hid (RdI.below v_163.out hb)
  clear v_163
  clear rn hb
  go_wp2_with fail
  have rn := rdI_new w15 [1, 2] 2 rfl
  have rd1_175 := Lib.hid (RdB.alloc rd1_164.out (.cells (arr [1, 2]) 3))
  clear rd1_164
  have bel_176 := Lib.hid (Below.alloc bel_165.out (bel_165.out.size) (.cells (arr [1, 2]) 3))
  clear bel_165
  have s1_177 := Lib.hid (Blk.alloc s1_166.out (.cells (arr [1, 2]) 3))
  clear s1_166
  have rd2_178 := Lib.hid (RdB.alloc rd2_167.out (.cells (arr [1, 2]) 3))
  clear rd2_167
  have s2_179 := Lib.hid (Blk.alloc s2_168.out (.cells (arr [1, 2]) 3))
  clear s2_168
  have x_180 := Lib.hid (RdI.alloc x_169.out (.cells (arr [1, 2]) 3))
  clear x_169
  have y_181 := Lib.hid (RdI.alloc y_170.out (.cells (arr [1, 2]) 3))
  clear y_170
  have r_182 := Lib.hid (RdI.alloc r_171.out (.cells (arr [1, 2]) 3))
  clear r_171
  have d_183 := Lib.hid (RdI.alloc d_172.out (.cells (arr [1, 2]) 3))
  clear d_172
  have l_184 := Lib.hid (RdI.alloc l_173.out (.cells (arr [1, 2]) 3))
  clear l_173
  have v_185 := Lib.hid (RdI.alloc v_174.out (.cells (arr [1, 2]) 3))
  clear v_174
  refine (Same_yes Al (some ⟨w15.heap.size, 0, none⟩) 2 cl 2 2 [1, 2] _ l_184.out rn (by unfold maxLen; omega)).mono ?_
  rintro e w16 ⟨rfl, hb⟩
  have rd1_186 := Lib.hid (RdB.below rd1_175.out hb)
  clear rd1_175
  have bel_187 := Lib.hid (Below.trans bel_176.out (Below.mono hb (bel_176.out.size)))
  clear bel_176
  have s1_188 := Lib.hid (Blk.keep s1_177.out hb)
  clear s1_177
  have rd2_189 := Lib.hid (RdB.below rd2_178.out hb)
  clear rd2_178
  have s2_190 := Lib.hid (Blk.keep s2_179.out hb)
  clear s2_179
  have x_191 := Lib.hid (RdI.below x_180.out hb)
  clear x_180
  have y_192 := Lib.hid (RdI.below y_181.out hb)
  clear y_181
  have r_193 := Lib.hid (RdI.below r_182.out hb)
  clear r_182
  have d_194 := Lib.hid (RdI.below d_183.out hb)
  clear d_183
  have l_195 := Lib.hid (RdI.below l_184.out hb)
  clear l_184
  have v_196 := Lib.hid (RdI.below v_185.out hb)
  clear v_185
  clear rn hb
  go_wp2_with fail
  have rn := rdI_new w16 [0, 1, 1] 3 rfl
  have rd1_197 := Lib.hid (RdB.alloc rd1_186.out (.cells (arr [0, 1, 1]) 3))
  clear rd1_186
  have bel_198 := Lib.hid (Below.alloc bel_187.out (bel_187.out.size) (.cells (arr [0, 1, 1]) 3))
  clear bel_187
  have s1_199 := Lib.hid (Blk.alloc s1_188.out (.cells (arr [0, 1, 1]) 3))
  clear s1_188
  have rd2_200 := Lib.hid (RdB.alloc rd2_189.out (.cells (arr [0, 1, 1]) 3))
  clear rd2_189
  have s2_201 := Lib.hid (Blk.alloc s2_190.out (.cells (arr [0, 1, 1]) 3))
  clear s2_190
  have x_202 := Lib.hid (RdI.alloc x_191.out (.cells (arr [0, 1, 1]) 3))
  clear x_191
  have y_203 := Lib.hid (RdI.alloc y_192.out (.cells (arr [0, 1, 1]) 3))
  clear y_192
  have r_204 := Lib.hid (RdI.alloc r_193.out (.cells (arr [0, 1, 1]) 3))
  clear r_193
  have d_205 := Lib.hid (RdI.alloc d_194.out (.cells (arr [0, 1, 1]) 3))
  clear d_194
  have l_206 := Lib.hid (RdI.alloc l_195.out (.cells (arr [0, 1, 1]) 3))
  clear l_195
  have v_207 := Lib.hid (RdI.alloc v_196.out (.cells (arr [0, 1, 1]) 3))
  clear v_196
  refine (Same_yes Av (some ⟨w16.heap.size, 0, none⟩) 3 cv 3 3 [0, 1, 1] _ v_207.out rn (by unfold maxLen; omega)).mono ?_
  rintro e w17 ⟨rfl, hb⟩
  have rd1_208 := Lib.hid (RdB.below rd1_197.out hb)
  clear rd1_197
  have bel_209 := Lib.hid (Below.trans bel_198.out (Below.mono hb (bel_198.out.size)))
  clear bel_198
  have s1_210 := Lib.hid (Blk.keep s1_199.out hb)
  clear s1_199
  have rd2_211 := Lib.hid (RdB.below rd2_200.out hb)
  clear rd2_200
  have s2_212 := Lib.hid (Blk.keep s2_201.out hb)
  clear s2_201
  have x_213 := Lib.hid (RdI.below x_202.out hb)
  clear x_202
  have y_214 := Lib.hid (RdI.below y_203.out hb)
  clear y_203
  have r_215 := Lib.hid (RdI.below r_204.out hb)
  clear r_204
  have d_216 := Lib.hid (RdI.below d_205.out hb)
  clear d_205
  have l_217 := Lib.hid (RdI.below l_206.out hb)
  clear l_206
  have v_218 := Lib.hid (RdI.below v_207.out hb)
  clear v_207
  clear rn hb
  go_wp2
  go_ret
  exact ⟨rfl, bel_209.out⟩
end Go.Proofs.Ythlnialipjihdaa
