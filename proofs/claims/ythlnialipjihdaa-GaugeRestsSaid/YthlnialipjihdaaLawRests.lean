/- For every system, two points and end GaugeRests returns true: Rests, Doubt and Rigid return what the reference returns. No condition. -/
import Derived.Test.YthlnialipjihdaaRows
import Derived.Test.YthlnialipjihdaaRRests
import Derived.Test.YthlnialipjihdaaRRigid
import Derived.Test.YthlnialipjihdaaShz
set_option linter.unusedSimpArgs false
set_option linter.unusedVariables false
namespace Go.Proofs.Ythlnialipjihdaa
open Go.ChangeShapes Go.WideShapes Go.ChangeAt Go.RowKit

theorem ids_low {p : Int} {l : List Bnd} (hk : chk p l = 0) : ∀ x ∈ l, 0 ≤ x.b := fun x hx => by
  obtain ⟨-, -, -, h⟩ := chk_ok hk
  have := of_decide_eq_true (h x hx)
  omega
theorem gcode_nil {P : Int} {l : List Bnd} : gcode P l [] = chk P l := by
  unfold gcode
  by_cases hk : chk P l = 0
  · rw [if_pos hk, hk]; rfl
  · rw [if_neg hk]
theorem doubt_eq (P : Int) (l : List Bnd) : doubtR P l = doubtV P l := by
  unfold doubtR doubtV
  rw [gcode_nil]
  by_cases hk : chk P l = 0
  · rw [if_pos hk, if_pos hk, neededV_loop, allL_idsL (ids_low hk)]
  · rw [if_neg hk, if_neg hk]
theorem lessLoop_congr {h1 h2 : List Bnd → Bool} (h : ∀ l, h1 l = h2 l) (l : List Bnd) (n : Nat) (kept : List Int) : lessLoop h1 l n kept = lessLoop h2 l n kept := by
  have : h1 = h2 := funext h
  rw [this]
theorem rests_eq (P a b : Int) (l : List Bnd) (u : Bool) : restsR P l a b u = restsV P l a b u := by
  unfold restsR restsV
  by_cases hs : scode P l [a, b] = 0
  · obtain ⟨hk, -⟩ := scode_ok hs
    rw [if_pos hs, if_pos hs]
    cases u
    · simp only [Bool.false_eq_true, if_false, endW]
      by_cases hI : isF (dist l P.toNat b.toNat a.toNat) = true
      · rw [if_pos hI, if_pos hI, neededV_loop, allL_idsL (ids_low hk)]
        congr 1
        exact lessLoop_congr (fun l' => by unfold holdsG holdsR endW; simp only [Bool.false_eq_true, if_false]; congr 1; exact decide_eq_decide.2 (by omega)) l _ _
      · rw [if_neg hI, if_neg hI]
    · simp only [if_true, endW]
      by_cases hI : isF (dist l P.toNat a.toNat b.toNat) = true
      · rw [if_pos hI, if_pos hI, neededV_loop, allL_idsL (ids_low hk)]
        congr 1
      · rw [if_neg hI, if_neg hI]
  · rw [if_neg hs, if_neg hs]

theorem needed_len (holds : List Bnd → Bool) {p : Int} {l : List Bnd} (hk : chk p l = 0) : (neededV holds l).length ≤ 400 := by
  obtain ⟨-, -, h, -⟩ := chk_ok hk
  rw [neededV_loop]
  have h1 := lessLoop_length holds l (idsL l).length (idsL l)
  have h2 := idsL_length l
  omega
theorem restsV_length {P a b : Int} {l : List Bnd} {u : Bool} : (restsV P l a b u).1.length ≤ 400 := by
  unfold restsV
  by_cases hs : scode P l [a, b] = 0
  · obtain ⟨hk, -⟩ := scode_ok hs
    rw [if_pos hs]
    split
    · exact needed_len _ hk
    · simp
  · rw [if_neg hs]; simp
theorem doubtV_length {P : Int} {l : List Bnd} : (doubtV P l).1.length ≤ 400 := by
  unfold doubtV
  rw [gcode_nil]
  by_cases hk : chk P l = 0
  · rw [if_pos hk]
    split
    · simp
    · exact needed_len _ hk
  · rw [if_neg hk]; simp
theorem rigidV_length {P : Int} {l : List Bnd} : (rigidV P l).1.length ≤ 400 := by
  unfold rigidV
  by_cases hs : scode P l [] = 0
  · obtain ⟨hk, -⟩ := scode_ok hs
    obtain ⟨hp1, hp2, -, -⟩ := chk_ok hk
    rw [if_pos hs]
    simp only [rigidL, List.length_map, List.length_range]
    omega
  · rw [if_neg hs]; simp

set_option maxRecDepth 100000 in
set_option maxHeartbeats 8000000 in
theorem re_w (P a b : Int) (u : Bool) (A : Option Addr) (n k : Nat) (l : List Bnd) (w : World) (hr : RdB w A n k l) (hn : n ≤ maxLen) (hw : (decide (P ≤ 9) && decide (n ≤ 20)) = false) :
    Calls Try.prog 9 #[.agg #[.int .i64 P, .slice A n k], .int .i64 a, .int .i64 b, .bool u] w fun e w' => e = .returned (.bool true) ∧ Below w.heap.size w w' := by
  go_enter Try.func9, Try.ntmps9
  have bel_1 := Lib.hid (show Below w.heap.size w w from Below.refl _ w)
  have rd_2 := Lib.hid (hr)
  clear hr
  have bel_3 := Lib.hid (Below.alloc bel_1.out (bel_1.out.size) (.cells #[.int .i64 P, .slice A n k] 24))
  clear bel_1
  have rd_4 := Lib.hid (RdB.alloc rd_2.out (.cells #[.int .i64 P, .slice A n k] 24))
  clear rd_2
  have srd_5 := Lib.hid (Blk.new w 24 #[.int .i64 P, .slice A n k])
  have hc := (show Calls Try.prog 43 #[.agg #[.int .i64 P, .slice A n k]] ((w.alloc (.cells #[.int .i64 P, .slice A n k] 24))) fun e w' => e = .returned (.bool false) ∧ Below ((w.alloc (.cells #[.int .i64 P, .slice A n k] 24))).heap.size ((w.alloc (.cells #[.int .i64 P, .slice A n k] 24))) w' from by have h := small_any P A n k ((w.alloc (.cells #[.int .i64 P, .slice A n k] 24))); rw [show (decide (P ≤ 9) && decide (n ≤ 20)) = false from hw] at h; exact h)
  have HC := Lib.hid hc; clear hc
  go_wp2_with fail
  refine HC.out.mono ?_
  rintro e w_6 ⟨rfl, hb⟩
  clear HC
  have bel_7 := Lib.hid (Below.trans bel_3.out (Below.mono hb (bel_3.out.size)))
  clear bel_3
  have rd_8 := Lib.hid (RdB.below rd_4.out hb)
  clear rd_4
  have srd_9 := Lib.hid (Blk.keep srd_5.out hb)
  clear srd_5
  clear hb
  have z_10 : (w_6).cell? ⟨w.heap.size, 0, none⟩ = some (.int .i64 P) := Blk.cell srd_9.out 0
  have z_11 : (w_6).cell? ⟨w.heap.size, 1, none⟩ = some (.slice A n k) := Blk.cell srd_9.out 1
  go_wp2_with fail
  refine (alive_ok _).mono ?_
  rintro e w_12 ⟨rfl, hb⟩
  clear z_10 z_11
  have bel_13 := Lib.hid (Below.trans bel_7.out (Below.mono hb (bel_7.out.size)))
  clear bel_7
  have rd_14 := Lib.hid (RdB.below rd_8.out hb)
  clear rd_8
  have srd_15 := Lib.hid (Blk.keep srd_9.out hb)
  clear srd_9
  clear hb
  go_wp2
  go_ret
  exact ⟨rfl, bel_13.out⟩

set_option maxRecDepth 100000 in
set_option maxHeartbeats 8000000 in
theorem re_ok (P a b : Int) (u : Bool) (A : Option Addr) (n k : Nat) (l : List Bnd) (w : World) (hr : RdB w A n k l) (hn : n ≤ maxLen) (hw : (decide (P ≤ 9) && decide (n ≤ 20)) = true) (Z1 Z2 Z3 : List Int) (q1 q2 q3 : Int) (t : Bool) (h1 : Z1.length ≤ 400) (h2 : Z2.length ≤ 400) (h3 : Z3.length ≤ 400) (E1 : Hid (restsV P l a b u = (Z1, q1))) (E2 : Hid (doubtV P l = (Z2, t, q2))) (E3 : Hid (rigidV P l = (Z3, q3))) :
    Calls Try.prog 9 #[.agg #[.int .i64 P, .slice A n k], .int .i64 a, .int .i64 b, .bool u] w fun e w' => e = .returned (.bool true) ∧ Below w.heap.size w w' := by
  go_enter Try.func9, Try.ntmps9
  have bel_1 := Lib.hid (show Below w.heap.size w w from Below.refl _ w)
  have rd_2 := Lib.hid (hr)
  clear hr
  have bel_3 := Lib.hid (Below.alloc bel_1.out (bel_1.out.size) (.cells #[.int .i64 P, .slice A n k] 24))
  clear bel_1
  have rd_4 := Lib.hid (RdB.alloc rd_2.out (.cells #[.int .i64 P, .slice A n k] 24))
  clear rd_2
  have srd_5 := Lib.hid (Blk.new w 24 #[.int .i64 P, .slice A n k])
  have hc := (show Calls Try.prog 43 #[.agg #[.int .i64 P, .slice A n k]] ((w.alloc (.cells #[.int .i64 P, .slice A n k] 24))) fun e w' => e = .returned (.bool true) ∧ Below ((w.alloc (.cells #[.int .i64 P, .slice A n k] 24))).heap.size ((w.alloc (.cells #[.int .i64 P, .slice A n k] 24))) w' from by have h := small_any P A n k ((w.alloc (.cells #[.int .i64 P, .slice A n k] 24))); rw [show (decide (P ≤ 9) && decide (n ≤ 20)) = true from hw] at h; exact h)
  have HC := Lib.hid hc; clear hc
  go_wp2_with fail
  refine HC.out.mono ?_
  rintro e w_6 ⟨rfl, hb⟩
  clear HC
  have bel_7 := Lib.hid (Below.trans bel_3.out (Below.mono hb (bel_3.out.size)))
  clear bel_3
  have rd_8 := Lib.hid (RdB.below rd_4.out hb)
  clear rd_4
  have srd_9 := Lib.hid (Blk.keep srd_5.out hb)
  clear srd_5
  clear hb
  have z_10 : (w_6).cell? ⟨w.heap.size, 0, none⟩ = some (.int .i64 P) := Blk.cell srd_9.out 0
  have z_11 : (w_6).cell? ⟨w.heap.size, 1, none⟩ = some (.slice A n k) := Blk.cell srd_9.out 1
  have hc := Rests_any P a b u A n k l _ rd_8.out hn
  rw [E1.out] at hc
  unfold RetL at hc; dsimp only at hc
  have HC := Lib.hid hc; clear hc
  go_wp2_with fail
  refine HC.out.mono ?_
  rintro e w_12 ⟨Ax, nx, cx, rfl, ho, hb⟩
  clear HC
  clear z_10 z_11
  have ow_13 := Lib.hid (owns_base ho (bel_7.out.size))
  have bel_14 := Lib.hid (Below.trans bel_7.out (Below.mono hb (bel_7.out.size)))
  clear bel_7
  have rd_15 := Lib.hid (RdB.below rd_8.out hb)
  clear rd_8
  have srd_16 := Lib.hid (Blk.keep srd_9.out hb)
  clear srd_9
  have x_17 := Lib.hid ((OwnI.rd ho).1)
  obtain rfl : nx = Z1.length := x_17.out.len.symm
  clear ho hb
  have z_18 : (w_12).cell? ⟨w.heap.size, 0, none⟩ = some (.int .i64 P) := Blk.cell srd_16.out 0
  have z_19 : (w_12).cell? ⟨w.heap.size, 1, none⟩ = some (.slice A n k) := Blk.cell srd_16.out 1
  have hc := rRests_any P a b u A n k l _ rd_15.out hn
  rw [rests_eq] at hc
  rw [E1.out] at hc
  unfold RetL at hc; dsimp only at hc
  have HC := Lib.hid hc; clear hc
  go_wp2_with fail
  refine HC.out.mono ?_
  rintro e w_20 ⟨Ay, ny, cy, rfl, ho, hb⟩
  clear HC
  clear z_18 z_19
  have ow_21 := Lib.hid (owns_base ho (bel_14.out.size))
  have bel_22 := Lib.hid (Below.trans bel_14.out (Below.mono hb (bel_14.out.size)))
  clear bel_14
  have rd_23 := Lib.hid (RdB.below rd_15.out hb)
  clear rd_15
  have srd_24 := Lib.hid (Blk.keep srd_16.out hb)
  clear srd_16
  have ownx_25 := Lib.hid (owns_below ow_13.out hb)
  clear ow_13
  have x_26 := Lib.hid (RdI.below x_17.out hb)
  clear x_17
  have y_27 := Lib.hid ((OwnI.rd ho).1)
  obtain rfl : ny = Z1.length := y_27.out.len.symm
  clear ho hb
  have z_28 : (w_20).cell? ⟨w.heap.size, 0, none⟩ = some (.int .i64 P) := Blk.cell srd_24.out 0
  have z_29 : (w_20).cell? ⟨w.heap.size, 1, none⟩ = some (.slice A n k) := Blk.cell srd_24.out 1
  have hc := Doubt_any P A n k l _ rd_23.out hn
  rw [E2.out] at hc
  unfold RetI at hc; dsimp only at hc
  have HC := Lib.hid hc; clear hc
  go_wp2_with fail
  refine HC.out.mono ?_
  rintro e w_30 ⟨Am, nm, cm, rfl, ho, hb⟩
  clear HC
  clear z_28 z_29
  have ow_31 := Lib.hid (owns_base ho (bel_22.out.size))
  have bel_32 := Lib.hid (Below.trans bel_22.out (Below.mono hb (bel_22.out.size)))
  clear bel_22
  have rd_33 := Lib.hid (RdB.below rd_23.out hb)
  clear rd_23
  have srd_34 := Lib.hid (Blk.keep srd_24.out hb)
  clear srd_24
  have ownx_35 := Lib.hid (owns_below ownx_25.out hb)
  clear ownx_25
  have x_36 := Lib.hid (RdI.below x_26.out hb)
  clear x_26
  have owny_37 := Lib.hid (owns_below ow_21.out hb)
  clear ow_21
  have y_38 := Lib.hid (RdI.below y_27.out hb)
  clear y_27
  have m_39 := Lib.hid ((OwnI.rd ho).1)
  obtain rfl : nm = Z2.length := m_39.out.len.symm
  clear ho hb
  have z_40 : (w_30).cell? ⟨w.heap.size, 0, none⟩ = some (.int .i64 P) := Blk.cell srd_34.out 0
  have z_41 : (w_30).cell? ⟨w.heap.size, 1, none⟩ = some (.slice A n k) := Blk.cell srd_34.out 1
  have hc := rDoubt_any P A n k l _ rd_33.out hn
  rw [doubt_eq] at hc
  rw [E2.out] at hc
  unfold RetI at hc; dsimp only at hc
  have HC := Lib.hid hc; clear hc
  go_wp2_with fail
  refine HC.out.mono ?_
  rintro e w_42 ⟨Av, nv, cv, rfl, ho, hb⟩
  clear HC
  clear z_40 z_41
  have ow_43 := Lib.hid (owns_base ho (bel_32.out.size))
  have bel_44 := Lib.hid (Below.trans bel_32.out (Below.mono hb (bel_32.out.size)))
  clear bel_32
  have rd_45 := Lib.hid (RdB.below rd_33.out hb)
  clear rd_33
  have srd_46 := Lib.hid (Blk.keep srd_34.out hb)
  clear srd_34
  have ownx_47 := Lib.hid (owns_below ownx_35.out hb)
  clear ownx_35
  have x_48 := Lib.hid (RdI.below x_36.out hb)
  clear x_36
  have owny_49 := Lib.hid (owns_below owny_37.out hb)
  clear owny_37
  have y_50 := Lib.hid (RdI.below y_38.out hb)
  clear y_38
  have ownm_51 := Lib.hid (owns_below ow_31.out hb)
  clear ow_31
  have m_52 := Lib.hid (RdI.below m_39.out hb)
  clear m_39
  have v_53 := Lib.hid ((OwnI.rd ho).1)
  obtain rfl : nv = Z2.length := v_53.out.len.symm
  clear ho hb
  have z_54 : (w_42).cell? ⟨w.heap.size, 0, none⟩ = some (.int .i64 P) := Blk.cell srd_46.out 0
  have z_55 : (w_42).cell? ⟨w.heap.size, 1, none⟩ = some (.slice A n k) := Blk.cell srd_46.out 1
  have hc := Rigid_any P A n k l _ rd_45.out hn
  rw [E3.out] at hc
  unfold RetL at hc; dsimp only at hc
  have HC := Lib.hid hc; clear hc
  go_wp2_with fail
  refine HC.out.mono ?_
  rintro e w_56 ⟨Ap, np, cp, rfl, ho, hb⟩
  clear HC
  clear z_54 z_55
  have ow_57 := Lib.hid (owns_base ho (bel_44.out.size))
  have bel_58 := Lib.hid (Below.trans bel_44.out (Below.mono hb (bel_44.out.size)))
  clear bel_44
  have rd_59 := Lib.hid (RdB.below rd_45.out hb)
  clear rd_45
  have srd_60 := Lib.hid (Blk.keep srd_46.out hb)
  clear srd_46
  have ownx_61 := Lib.hid (owns_below ownx_47.out hb)
  clear ownx_47
  have x_62 := Lib.hid (RdI.below x_48.out hb)
  clear x_48
  have owny_63 := Lib.hid (owns_below owny_49.out hb)
  clear owny_49
  have y_64 := Lib.hid (RdI.below y_50.out hb)
  clear y_50
  have ownm_65 := Lib.hid (owns_below ownm_51.out hb)
  clear ownm_51
  have m_66 := Lib.hid (RdI.below m_52.out hb)
  clear m_52
  have ownv_67 := Lib.hid (owns_below ow_43.out hb)
  clear ow_43
  have v_68 := Lib.hid (RdI.below v_53.out hb)
  clear v_53
  have p_69 := Lib.hid ((OwnI.rd ho).1)
  obtain rfl : np = Z3.length := p_69.out.len.symm
  clear ho hb
  have z_70 : (w_56).cell? ⟨w.heap.size, 0, none⟩ = some (.int .i64 P) := Blk.cell srd_60.out 0
  have z_71 : (w_56).cell? ⟨w.heap.size, 1, none⟩ = some (.slice A n k) := Blk.cell srd_60.out 1
  have hc := rRigid_any P A n k l _ rd_59.out hn
  rw [E3.out] at hc
  unfold RetL at hc; dsimp only at hc
  have HC := Lib.hid hc; clear hc
  go_wp2_with fail
  refine HC.out.mono ?_
  rintro e w_72 ⟨Aq, nq, cq, rfl, ho, hb⟩
  clear HC
  clear z_70 z_71
  have ow_73 := Lib.hid (owns_base ho (bel_58.out.size))
  have bel_74 := Lib.hid (Below.trans bel_58.out (Below.mono hb (bel_58.out.size)))
  clear bel_58
  have rd_75 := Lib.hid (RdB.below rd_59.out hb)
  clear rd_59
  have srd_76 := Lib.hid (Blk.keep srd_60.out hb)
  clear srd_60
  have ownx_77 := Lib.hid (owns_below ownx_61.out hb)
  clear ownx_61
  have x_78 := Lib.hid (RdI.below x_62.out hb)
  clear x_62
  have owny_79 := Lib.hid (owns_below owny_63.out hb)
  clear owny_63
  have y_80 := Lib.hid (RdI.below y_64.out hb)
  clear y_64
  have ownm_81 := Lib.hid (owns_below ownm_65.out hb)
  clear ownm_65
  have m_82 := Lib.hid (RdI.below m_66.out hb)
  clear m_66
  have ownv_83 := Lib.hid (owns_below ownv_67.out hb)
  clear ownv_67
  have v_84 := Lib.hid (RdI.below v_68.out hb)
  clear v_68
  have ownp_85 := Lib.hid (owns_below ow_57.out hb)
  clear ow_57
  have p_86 := Lib.hid (RdI.below p_69.out hb)
  clear p_69
  have q_87 := Lib.hid ((OwnI.rd ho).1)
  obtain rfl : nq = Z3.length := q_87.out.len.symm
  clear ho hb
  have z_88 : (w_72).cell? ⟨w.heap.size, 0, none⟩ = some (.int .i64 P) := Blk.cell srd_76.out 0
  have z_89 : (w_72).cell? ⟨w.heap.size, 1, none⟩ = some (.slice A n k) := Blk.cell srd_76.out 1
  go_wp2_with fail
  refine (alive_ok _).mono ?_
  rintro e w_90 ⟨rfl, hb⟩
  clear z_88 z_89
  have bel_91 := Lib.hid (Below.trans bel_74.out (Below.mono hb (bel_74.out.size)))
  clear bel_74
  have rd_92 := Lib.hid (RdB.below rd_75.out hb)
  clear rd_75
  have srd_93 := Lib.hid (Blk.keep srd_76.out hb)
  clear srd_76
  have ownx_94 := Lib.hid (owns_below ownx_77.out hb)
  clear ownx_77
  have x_95 := Lib.hid (RdI.below x_78.out hb)
  clear x_78
  have owny_96 := Lib.hid (owns_below owny_79.out hb)
  clear owny_79
  have y_97 := Lib.hid (RdI.below y_80.out hb)
  clear y_80
  have ownm_98 := Lib.hid (owns_below ownm_81.out hb)
  clear ownm_81
  have m_99 := Lib.hid (RdI.below m_82.out hb)
  clear m_82
  have ownv_100 := Lib.hid (owns_below ownv_83.out hb)
  clear ownv_83
  have v_101 := Lib.hid (RdI.below v_84.out hb)
  clear v_84
  have ownp_102 := Lib.hid (owns_below ownp_85.out hb)
  clear ownp_85
  have p_103 := Lib.hid (RdI.below p_86.out hb)
  clear p_86
  have ownq_104 := Lib.hid (owns_below ow_73.out hb)
  clear ow_73
  have q_105 := Lib.hid (RdI.below q_87.out hb)
  clear q_87
  clear hb
  go_wp2_with fail
  refine (Same_yes Ax Ay Z1.length cx Z1.length cy Z1 _ x_95.out y_97.out (by unfold maxLen; omega)).mono ?_
  rintro e w_106 ⟨rfl, hb⟩
  have bel_107 := Lib.hid (Below.trans bel_91.out (Below.mono hb (bel_91.out.size)))
  clear bel_91
  have rd_108 := Lib.hid (RdB.below rd_92.out hb)
  clear rd_92
  have srd_109 := Lib.hid (Blk.keep srd_93.out hb)
  clear srd_93
  have ownx_110 := Lib.hid (owns_below ownx_94.out hb)
  clear ownx_94
  have x_111 := Lib.hid (RdI.below x_95.out hb)
  clear x_95
  have owny_112 := Lib.hid (owns_below owny_96.out hb)
  clear owny_96
  have y_113 := Lib.hid (RdI.below y_97.out hb)
  clear y_97
  have ownm_114 := Lib.hid (owns_below ownm_98.out hb)
  clear ownm_98
  have m_115 := Lib.hid (RdI.below m_99.out hb)
  clear m_99
  have ownv_116 := Lib.hid (owns_below ownv_100.out hb)
  clear ownv_100
  have v_117 := Lib.hid (RdI.below v_101.out hb)
  clear v_101
  have ownp_118 := Lib.hid (owns_below ownp_102.out hb)
  clear ownp_102
  have p_119 := Lib.hid (RdI.below p_103.out hb)
  clear p_103
  have ownq_120 := Lib.hid (owns_below ownq_104.out hb)
  clear ownq_104
  have q_121 := Lib.hid (RdI.below q_105.out hb)
  clear q_105
  clear hb
  go_wp2_with fail
  refine (Same_yes Am Av Z2.length cm Z2.length cv Z2 _ m_115.out v_117.out (by unfold maxLen; omega)).mono ?_
  rintro e w_122 ⟨rfl, hb⟩
  have bel_123 := Lib.hid (Below.trans bel_107.out (Below.mono hb (bel_107.out.size)))
  clear bel_107
  have rd_124 := Lib.hid (RdB.below rd_108.out hb)
  clear rd_108
  have srd_125 := Lib.hid (Blk.keep srd_109.out hb)
  clear srd_109
  have ownx_126 := Lib.hid (owns_below ownx_110.out hb)
  clear ownx_110
  have x_127 := Lib.hid (RdI.below x_111.out hb)
  clear x_111
  have owny_128 := Lib.hid (owns_below owny_112.out hb)
  clear owny_112
  have y_129 := Lib.hid (RdI.below y_113.out hb)
  clear y_113
  have ownm_130 := Lib.hid (owns_below ownm_114.out hb)
  clear ownm_114
  have m_131 := Lib.hid (RdI.below m_115.out hb)
  clear m_115
  have ownv_132 := Lib.hid (owns_below ownv_116.out hb)
  clear ownv_116
  have v_133 := Lib.hid (RdI.below v_117.out hb)
  clear v_117
  have ownp_134 := Lib.hid (owns_below ownp_118.out hb)
  clear ownp_118
  have p_135 := Lib.hid (RdI.below p_119.out hb)
  clear p_119
  have ownq_136 := Lib.hid (owns_below ownq_120.out hb)
  clear ownq_120
  have q_137 := Lib.hid (RdI.below q_121.out hb)
  clear q_121
  clear hb
  go_wp2_with fail
  refine (Same_yes Ap Aq Z3.length cp Z3.length cq Z3 _ p_135.out q_137.out (by unfold maxLen; omega)).mono ?_
  rintro e w_138 ⟨rfl, hb⟩
  have bel_139 := Lib.hid (Below.trans bel_123.out (Below.mono hb (bel_123.out.size)))
  clear bel_123
  have rd_140 := Lib.hid (RdB.below rd_124.out hb)
  clear rd_124
  have srd_141 := Lib.hid (Blk.keep srd_125.out hb)
  clear srd_125
  have ownx_142 := Lib.hid (owns_below ownx_126.out hb)
  clear ownx_126
  have x_143 := Lib.hid (RdI.below x_127.out hb)
  clear x_127
  have owny_144 := Lib.hid (owns_below owny_128.out hb)
  clear owny_128
  have y_145 := Lib.hid (RdI.below y_129.out hb)
  clear y_129
  have ownm_146 := Lib.hid (owns_below ownm_130.out hb)
  clear ownm_130
  have m_147 := Lib.hid (RdI.below m_131.out hb)
  clear m_131
  have ownv_148 := Lib.hid (owns_below ownv_132.out hb)
  clear ownv_132
  have v_149 := Lib.hid (RdI.below v_133.out hb)
  clear v_133
  have ownp_150 := Lib.hid (owns_below ownp_134.out hb)
  clear ownp_134
  have p_151 := Lib.hid (RdI.below p_135.out hb)
  clear p_135
  have ownq_152 := Lib.hid (owns_below ownq_136.out hb)
  clear ownq_136
  have q_153 := Lib.hid (RdI.below q_137.out hb)
  clear q_137
  clear hb
  go_wp2
  go_ret
  exact ⟨rfl, bel_139.out⟩

theorem re_walk (w : World) (P : Int) (A : Option Addr) (n k : Nat) (l : List Bnd) (_ : (Lit.int .i64 P).wf = true) (hr : RdB w A n k l) (hn : n ≤ maxLen) (a : Int) (_ : (Lit.int .i64 a).wf = true) (b : Int) (_ : (Lit.int .i64 b).wf = true) (u : Bool) :
    Calls Try.prog 9 #[.agg #[.int .i64 P, .slice A n k], .int .i64 a, .int .i64 b, .bool u] w fun e w' => e = .returned (.bool true) ∧ Below w.heap.size w w' := by
  cases hw : (decide (P ≤ 9) && decide (n ≤ 20))
  · exact re_w P a b u A n k l w hr hn hw
  · exact re_ok P a b u A n k l w hr hn hw _ _ _ _ _ _ _ restsV_length doubtV_length rigidV_length (Lib.hid rfl) (Lib.hid rfl) (Lib.hid rfl)

set_option maxRecDepth 100000 in
theorem gaugeRests_lifted (os : Os) (started : os.Started) (H : Type) (enc : TypeId × Value → H) :
    ReturnsInHanded {} Try.checked os 9 .any (Rows.gaugeRestsSpec.pre6 enc Try.prog Try.f9 Rows.gaugeRestsRow.domain false) (Rows.gaugeRestsSpec.post enc Try.prog Try.f9 false true false false) := by
  refine returnsInHanded_of_change (C := Try.checked) Law.own started (by kernel_rfl) Try.func9
    (ChangeSpec.witness6 (enc := enc) (C := Try.checked) false ⟨#[], #[.agg #[.int .i64 0, .slice none 0 0], .int .i64 0, .int .i64 0, .bool false], []⟩ 8 (by kernel_rfl) (by kernel_rfl) (by kernel_rfl) (by kernel_rfl)) ?_
  intro W base args ds gs before hval0 hW hcnd _
  have hval : ∀ (j : Nat) t v, Try.f9.params[j]? = some t → args[j]? = some v → Value.okWide Try.prog W .any base t v := hval0
  have hW' := hW
  obtain ⟨p, q, hA0, hV, rfl, hfz, hnd⟩ := hW
  have hA : DataW.TrodAll enc Try.prog W 0 (fun _ => true) true Try.f9.params.toList args.toList ds p := hA0
  rw [Try.params9] at hA hval
  obtain ⟨v0, vs0, d0, ds0, p0, q0, hargs, rfl, rfl, h0, r0⟩ := trodAll_cons hA
  obtain ⟨v1, vs1, d1, ds1, p1, q1, rfl, rfl, rfl, h1, r1⟩ := trodAll_cons r0
  obtain ⟨v2, vs2, d2, ds2, p2, q2, rfl, rfl, rfl, h2, r2⟩ := trodAll_cons r1
  obtain ⟨v3, vs3, d3, ds3, p3, q3, rfl, rfl, rfl, h3, r3⟩ := trodAll_cons r2
  obtain ⟨rfl, rfl, rfl⟩ := trodAll_nil r3
  obtain rfl : args = #[v0, v1, v2, v3] := by cases args; simp_all
  obtain ⟨rfl, rfl⟩ := trodVars_none hV
  have k0 := h0
  have lt0 : ∀ x ∈ p0, x.block < W.heap.size := by obtain ⟨m, hm⟩ := k0; exact DataW.trod_lt m _ _ _ hm
  obtain ⟨P0, A0, n0, c0, l0, rfl, w0, rd0, mx0⟩ := open_sys (hval 0 24 v0 rfl rfl) h0
  obtain ⟨a1, rfl, rfl, rfl, w1⟩ := open_int Try.underlying3 (hval 1 3 v1 rfl rfl) h1
  obtain ⟨a2, rfl, rfl, rfl, w2⟩ := open_int Try.underlying3 (hval 2 3 v2 rfl rfl) h2
  obtain ⟨a3, rfl, rfl, rfl⟩ := open_bool Try.underlying4 (hval 3 4 v3 rfl rfl) h3
  clear hA0 hval0
  refine (re_walk W P0 A0 n0 c0 l0 w0 rd0 mx0 a1 w1 a2 w2 a3).mono fun e W' ⟨he, bel⟩ => ?_
  subst he
  exact ⟨_, rfl, _, _, _, [], _, [], hW', trodAll_mk1 (shut_bool Try.underlying4 _), (trodAll_cons_mk (Below.trod Law.laidOut (by kernel_rfl) (of_decide_eq_true (by kernel_rfl)) k0 bel lt0) (trodAll_cons_mk (shut_int Try.underlying3 w1) (trodAll_cons_mk (shut_int Try.underlying3 w2) (trodAll_cons_mk (shut_bool Try.underlying4 a3) trodAll_mk0)))), rfl, bel.frame _, fun h => by cases h⟩

theorem gaugeRests_over : Rows.gaugeRestsRow.holds Try.pinned (OpenSpec.ofChange Rows.gaugeRestsSpec) :=
  OpenClaim.holds_of_wide 9 Try.f9 rfl rfl rfl rfl rfl rfl rfl ⟨rfl, rfl, rfl, rfl, rfl⟩ rfl rfl rfl rfl rfl (by kernel_rfl) Try.func9 (by kernel_rfl)
    (of_decide_eq_true (by kernel_rfl)) (by unfold Func.isWrapper; first | (rw [if_pos (by decide +kernel)]; kernel_rfl) | (rw [if_neg (by decide +kernel)]; exact ⟨rfl, rfl⟩))
    (fun os started H enc _ => gaugeRests_lifted os started H enc)

theorem gaugeRests_proved : Rows.GaugeRestsSaid := gaugeRests_over
end Go.Proofs.Ythlnialipjihdaa
