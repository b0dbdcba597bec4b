import Derived.Test.YtaoanagmgheicaaGreatSEJoinR
import Derived.Deep.CutRange
set_option linter.unusedSimpArgs false
set_option linter.unusedVariables false
namespace Go.Proofs.YtaoanagmgheicaaGreat
open Go.RowKit
theorem rdI_blk {w : World} {g : Nat} (h : Blk w g 3 #[.int .i64 0, .int .i64 7]) : RdI w (some ⟨g, 0, none⟩) 2 2 [0, 7] := by
 refine ⟨rfl, Nat.le_refl _, (fun h => by cases h), .inr ⟨g, 0, rfl, h.lt, fun j u hu => ?_⟩⟩
 rw [Nat.zero_add, h.cell j]
 simpa using hu
theorem Same_yes2 (A B : Option Addr) (m d m' d' : Nat) (x : List Int) (w : World) (hx : RdI w A m d x) (hy : RdI w B m' d' x) (hm : m ≤ maxLen) :
 Calls Tryz.prog 42 #[.slice A m d, .slice B m' d'] w fun e w' => e = .returned (.bool true) ∧ Below w.heap.size w w' :=
 (Same_any A B m d m' d' x x w hx hy hm).mono (fun e w' h => ⟨by rw [h.1, decide_eq_true rfl], h.2⟩)
set_option maxRecDepth 100000 in
set_option maxHeartbeats 8000000 in
theorem joined_any (w : World) : Calls Tryz.prog 17 #[] w fun e w' => e = .returned (.bool true) ∧ Below w.heap.size w w' := by
 go_enter Tryz.func17, Tryz.ntmps17
 have bel_1 := Lib.hid (show Below w.heap.size w w from Below.refl _ w)
 have hc := ffirst_any w
 have HC := Lib.hid hc; clear hc
 go_wp2_with fail
 refine HC.out.mono ?_
 rintro e w_2 ⟨A1, B1, rfl, rA, rB, hb⟩
 clear HC
 replace bel_1 := bB bel_1 hb
 clear hb
 have ra_3 := Lib.hid (rA)
 clear rA
 have rb_4 := Lib.hid (rB)
 clear rB
 obtain ⟨o_, ho_⟩ : ∃ o, o = ((.cells #[.int .i64 3, .slice A1 6 6, .slice B1 4 4] 24) : Obj) := ⟨_, rfl⟩
 replace bel_1 := bA bel_1 o_
 replace ra_3 := rA ra_3 o_
 replace rb_4 := rA rb_4 o_
 subst ho_
 have ba_5 := Lib.hid (Blk.new w_2 24 #[.int .i64 3, .slice A1 6 6, .slice B1 4 4])
 obtain ⟨z_6, z_7, z_8⟩ := at3 ba_5
 have hc := sfirst_any ((w_2.alloc (.cells #[.int .i64 3, .slice A1 6 6, .slice B1 4 4] 24)))
 have HC := Lib.hid hc; clear hc
 go_wp2_with fail
 refine HC.out.mono ?_
 rintro e w_9 ⟨C1, D1, rfl, rC, rD, hb⟩
 clear HC
 clear z_6 z_7 z_8
 replace bel_1 := bB bel_1 hb
 replace ra_3 := rB ra_3 hb
 replace rb_4 := rB rb_4 hb
 replace ba_5 := kB ba_5 hb
 clear hb
 have rc_10 := Lib.hid (rC)
 clear rC
 have rd_11 := Lib.hid (rD)
 clear rD
 obtain ⟨o_, ho_⟩ : ∃ o, o = ((.cells #[.int .i64 3, .slice C1 6 6, .slice D1 4 4] 24) : Obj) := ⟨_, rfl⟩
 replace bel_1 := bA bel_1 o_
 replace ra_3 := rA ra_3 o_
 replace rb_4 := rA rb_4 o_
 replace ba_5 := kA ba_5 o_
 replace rc_10 := rA rc_10 o_
 replace rd_11 := rA rd_11 o_
 subst ho_
 have bb_12 := Lib.hid (Blk.new w_9 24 #[.int .i64 3, .slice C1 6 6, .slice D1 4 4])
 go_upto_region 3 with fail
 replace bel_1 := bD bel_1
 replace ra_3 := rD ra_3
 replace rb_4 := rD rb_4
 replace ba_5 := kD ba_5
 replace rc_10 := rD rc_10
 replace rd_11 := rD rd_11
 replace bb_12 := kD bb_12
 refine wp_region_held_drew (S := (fun W' => Blk W' (w_2.heap.size) 24 #[.int .i64 3, .slice A1 6 6, .slice B1 4 4] ∧ Blk W' (w_9.heap.size) 24 #[.int .i64 3, .slice C1 6 6, .slice D1 4 4])) (by kernel_rfl) ⟨ba_5.out, bb_12.out⟩ (fun _ => ?_)
 obtain ⟨w1628, hw1629⟩ : ∃ w', w' = ((w_9.alloc (.cells #[.int .i64 3, .slice C1 6 6, .slice D1 4 4] 24)).drew) := ⟨_, rfl⟩
 rw [← hw1629] at bel_1 ra_3 rb_4 ba_5 rc_10 rd_11 bb_12
 rw [← hw1629]
 clear hw1629
 refine' tkH 0 ⟨ba_5.out, bb_12.out⟩ ?hyR1630 ?_
 case hyR1630 => (rintro W' ⟨hS0, hS1⟩; have hc0 := Blk.nth hS0 0; have hc1 := Blk.nth hS0 1; have hc2 := Blk.nth hS0 2; clear hS0 hS1; go_simp; try with_reducible rfl)
 refine' tkH 1 ⟨ba_5.out, bb_12.out⟩ ?hyR1631 ?_
 case hyR1631 => (rintro W' ⟨hS0, hS1⟩; have hc0 := Blk.nth hS1 0; have hc1 := Blk.nth hS1 1; have hc2 := Blk.nth hS1 2; clear hS0 hS1; go_simp; try with_reducible rfl)
 try simp only [Act.put, List.setIfInBounds_toArray, List.set_cons_zero, List.set_cons_succ]
 refine wpAnyH_ready (rs := [2]) (by kernel_rfl) (by simp) ?_
 refine rdH rfl (fun K hK => ?_) ?_
 · -- 2: call
  go_simp
  go_at_call 58
  refine (of_any 0 2 0 2 _).mono ?_
  rintro e w1632 ⟨rfl, hb1633⟩
  dsimp only
  replace bel_1 := bB bel_1 hb1633
  replace ra_3 := rB ra_3 hb1633
  replace rb_4 := rB rb_4 hb1633
  replace ba_5 := kB ba_5 hb1633
  replace rc_10 := rB rc_10 hb1633
  replace rd_11 := rB rd_11 hb1633
  replace bb_12 := kB bb_12 hb1633
  refine hK.out _ _ ⟨ba_5.out, bb_12.out⟩ (fun _ => ?_); clear hK K
  try simp only [Act.put, List.setIfInBounds_toArray, List.set_cons_zero, List.set_cons_succ]
  refine wpAnyH_ready (rs := [3]) (by kernel_rfl) (by simp) ?_
  refine rdH rfl (fun K hK => ?_) ?_
  · -- 3: call
   go_simp
   go_at_call 31
   refine (j_meets _ A1 B1 C1 D1 ra_3.out rb_4.out rc_10.out rd_11.out).mono ?_
   rintro e w1634 ⟨rfl, hb1635⟩
   dsimp only
   replace bel_1 := bB bel_1 hb1635
   replace ra_3 := rB ra_3 hb1635
   replace rb_4 := rB rb_4 hb1635
   replace ba_5 := kB ba_5 hb1635
   replace rc_10 := rB rc_10 hb1635
   replace rd_11 := rB rd_11 hb1635
   replace bb_12 := kB bb_12 hb1635
   refine hK.out _ _ ⟨ba_5.out, bb_12.out⟩ (fun _ => ?_); clear hK K
   try simp only [Act.put, List.setIfInBounds_toArray, List.set_cons_zero, List.set_cons_succ]
   refine' tkH 4 ⟨ba_5.out, bb_12.out⟩ ?hyR1636 ?_
   case hyR1636 => (rintro _ -; go_simp; try with_reducible rfl)
   refine' tkH 5 ⟨ba_5.out, bb_12.out⟩ ?hyR1637 ?_
   case hyR1637 => (rintro _ -; go_simp; try with_reducible rfl)
   refine' tkH 6 ⟨ba_5.out, bb_12.out⟩ ?hyR1638 ?_
   case hyR1638 => (rintro _ -; go_simp; try with_reducible rfl)
   refine' tkH 7 ⟨ba_5.out, bb_12.out⟩ ?hyR1639 ?_
   case hyR1639 => (rintro _ -; go_simp; try with_reducible rfl)
   try simp only [Act.put, List.setIfInBounds_toArray, List.set_cons_zero, List.set_cons_succ]
   refine' tkH 8 ⟨ba_5.out, bb_12.out⟩ ?hyR1640 ?_
   case hyR1640 => (rintro _ -; go_simp; try with_reducible rfl)
   try simp only [Act.put, List.setIfInBounds_toArray, List.set_cons_zero, List.set_cons_succ]
   refine wpAnyH_done (by kernel_rfl) ?_ _
   go_upto_region 4 with fail
   replace bel_1 := bD bel_1
   replace ra_3 := rD ra_3
   replace rb_4 := rD rb_4
   replace ba_5 := kD ba_5
   replace rc_10 := rD rc_10
   replace rd_11 := rD rd_11
   replace bb_12 := kD bb_12
   refine wp_region_held_drew (S := (fun W' => Blk W' (w_2.heap.size) 24 #[.int .i64 3, .slice A1 6 6, .slice B1 4 4] ∧ Blk W' (w_9.heap.size) 24 #[.int .i64 3, .slice C1 6 6, .slice D1 4 4])) (by kernel_rfl) ⟨ba_5.out, bb_12.out⟩ (fun _ => ?_)
   obtain ⟨w1641, hw1642⟩ : ∃ w', w' = (w1634.drew) := ⟨_, rfl⟩
   rw [← hw1642] at bel_1 ra_3 rb_4 ba_5 rc_10 rd_11 bb_12
   rw [← hw1642]
   clear hw1642
   refine' tkH 0 ⟨ba_5.out, bb_12.out⟩ ?hyR1643 ?_
   case hyR1643 => (rintro W' ⟨hS0, hS1⟩; have hc0 := Blk.nth hS0 0; have hc1 := Blk.nth hS0 1; have hc2 := Blk.nth hS0 2; clear hS0 hS1; go_simp; try with_reducible rfl)
   refine' tkH 1 ⟨ba_5.out, bb_12.out⟩ ?hyR1644 ?_
   case hyR1644 => (rintro W' ⟨hS0, hS1⟩; have hc0 := Blk.nth hS1 0; have hc1 := Blk.nth hS1 1; have hc2 := Blk.nth hS1 2; clear hS0 hS1; go_simp; try with_reducible rfl)
   try simp only [Act.put, List.setIfInBounds_toArray, List.set_cons_zero, List.set_cons_succ]
   refine wpAnyH_ready (rs := [2]) (by kernel_rfl) (by simp) ?_
   refine rdH rfl (fun K hK => ?_) ?_
   · -- 2: call
    go_simp
    go_at_call 58
    refine (of_any 0 1 0 1 _).mono ?_
    rintro e w1645 ⟨rfl, hb1646⟩
    dsimp only
    replace bel_1 := bB bel_1 hb1646
    replace ra_3 := rB ra_3 hb1646
    replace rb_4 := rB rb_4 hb1646
    replace ba_5 := kB ba_5 hb1646
    replace rc_10 := rB rc_10 hb1646
    replace rd_11 := rB rd_11 hb1646
    replace bb_12 := kB bb_12 hb1646
    refine hK.out _ _ ⟨ba_5.out, bb_12.out⟩ (fun _ => ?_); clear hK K
    try simp only [Act.put, List.setIfInBounds_toArray, List.set_cons_zero, List.set_cons_succ]
    refine wpAnyH_ready (rs := [3]) (by kernel_rfl) (by simp) ?_
    refine rdH rfl (fun K hK => ?_) ?_
    · -- 3: call
     go_simp
     go_at_call 31
     refine (j_not _ A1 B1 C1 D1 ra_3.out rb_4.out rc_10.out rd_11.out).mono ?_
     rintro e w1647 ⟨rfl, hb1648⟩
     dsimp only
     replace bel_1 := bB bel_1 hb1648
     replace ra_3 := rB ra_3 hb1648
     replace rb_4 := rB rb_4 hb1648
     replace ba_5 := kB ba_5 hb1648
     replace rc_10 := rB rc_10 hb1648
     replace rd_11 := rB rd_11 hb1648
     replace bb_12 := kB bb_12 hb1648
     refine hK.out _ _ ⟨ba_5.out, bb_12.out⟩ (fun _ => ?_); clear hK K
     try simp only [Act.put, List.setIfInBounds_toArray, List.set_cons_zero, List.set_cons_succ]
     refine' tkH 4 ⟨ba_5.out, bb_12.out⟩ ?hyR1649 ?_
     case hyR1649 => (rintro _ -; go_simp; try with_reducible rfl)
     refine' tkH 5 ⟨ba_5.out, bb_12.out⟩ ?hyR1650 ?_
     case hyR1650 => (rintro _ -; go_simp; try with_reducible rfl)
     refine' tkH 6 ⟨ba_5.out, bb_12.out⟩ ?hyR1651 ?_
     case hyR1651 => (rintro _ -; go_simp; try with_reducible rfl)
     refine' tkH 7 ⟨ba_5.out, bb_12.out⟩ ?hyR1652 ?_
     case hyR1652 => (rintro _ -; go_simp; try with_reducible rfl)
     try simp only [Act.put, List.setIfInBounds_toArray, List.set_cons_zero, List.set_cons_succ]
     refine' tkH 8 ⟨ba_5.out, bb_12.out⟩ ?hyR1653 ?_
     case hyR1653 => (rintro _ -; go_simp; try with_reducible rfl)
     try simp only [Act.put, List.setIfInBounds_toArray, List.set_cons_zero, List.set_cons_succ]
     refine wpAnyH_done (by kernel_rfl) ?_ _
     go_upto_region 5 with fail
     replace bel_1 := bD bel_1
     replace ra_3 := rD ra_3
     replace rb_4 := rD rb_4
     replace ba_5 := kD ba_5
     replace rc_10 := rD rc_10
     replace rd_11 := rD rd_11
     replace bb_12 := kD bb_12
     refine wp_region_held_drew (S := (fun W' => Blk W' (w_2.heap.size) 24 #[.int .i64 3, .slice A1 6 6, .slice B1 4 4] ∧ Blk W' (w_9.heap.size) 24 #[.int .i64 3, .slice C1 6 6, .slice D1 4 4])) (by kernel_rfl) ⟨ba_5.out, bb_12.out⟩ (fun _ => ?_)
     obtain ⟨w1654, hw1655⟩ : ∃ w', w' = (w1647.drew) := ⟨_, rfl⟩
     rw [← hw1655] at bel_1 ra_3 rb_4 ba_5 rc_10 rd_11 bb_12
     rw [← hw1655]
     clear hw1655
     refine' tkH 0 ⟨ba_5.out, bb_12.out⟩ ?hyR1656 ?_
     case hyR1656 => (rintro W' ⟨hS0, hS1⟩; have hc0 := Blk.nth hS0 0; have hc1 := Blk.nth hS0 1; have hc2 := Blk.nth hS0 2; clear hS0 hS1; go_simp; try with_reducible rfl)
     refine' tkH 1 ⟨ba_5.out, bb_12.out⟩ ?hyR1657 ?_
     case hyR1657 => (rintro W' ⟨hS0, hS1⟩; have hc0 := Blk.nth hS1 0; have hc1 := Blk.nth hS1 1; have hc2 := Blk.nth hS1 2; clear hS0 hS1; go_simp; try with_reducible rfl)
     try simp only [Act.put, List.setIfInBounds_toArray, List.set_cons_zero, List.set_cons_succ]
     refine wpAnyH_ready (rs := [2]) (by kernel_rfl) (by simp) ?_
     refine rdH rfl (fun K hK => ?_) ?_
     · -- 2: call
      go_simp
      go_at_call 58
      refine (of_any 0 1 1 2 _).mono ?_
      rintro e w1658 ⟨rfl, hb1659⟩
      dsimp only
      replace bel_1 := bB bel_1 hb1659
      replace ra_3 := rB ra_3 hb1659
      replace rb_4 := rB rb_4 hb1659
      replace ba_5 := kB ba_5 hb1659
      replace rc_10 := rB rc_10 hb1659
      replace rd_11 := rB rd_11 hb1659
      replace bb_12 := kB bb_12 hb1659
      refine hK.out _ _ ⟨ba_5.out, bb_12.out⟩ (fun _ => ?_); clear hK K
      try simp only [Act.put, List.setIfInBounds_toArray, List.set_cons_zero, List.set_cons_succ]
      refine wpAnyH_ready (rs := [3]) (by kernel_rfl) (by simp) ?_
      refine rdH rfl (fun K hK => ?_) ?_
      · -- 3: call
       go_simp
       go_at_call 45
       refine (j_shared _ A1 B1 C1 D1 ra_3.out rb_4.out rc_10.out rd_11.out).mono ?_
       rintro e w1660 ⟨rfl, hb1661⟩
       dsimp only
       replace bel_1 := bB bel_1 hb1661
       replace ra_3 := rB ra_3 hb1661
       replace rb_4 := rB rb_4 hb1661
       replace ba_5 := kB ba_5 hb1661
       replace rc_10 := rB rc_10 hb1661
       replace rd_11 := rB rd_11 hb1661
       replace bb_12 := kB bb_12 hb1661
       refine hK.out _ _ ⟨ba_5.out, bb_12.out⟩ (fun _ => ?_); clear hK K
       try simp only [Act.put, List.setIfInBounds_toArray, List.set_cons_zero, List.set_cons_succ]
       refine' tkH 4 ⟨ba_5.out, bb_12.out⟩ ?hyR1662 ?_
       case hyR1662 => (rintro _ -; go_simp; try with_reducible rfl)
       refine' tkH 5 ⟨ba_5.out, bb_12.out⟩ ?hyR1663 ?_
       case hyR1663 => (rintro _ -; go_simp; try with_reducible rfl)
       refine' tkH 6 ⟨ba_5.out, bb_12.out⟩ ?hyR1664 ?_
       case hyR1664 => (rintro _ -; go_simp; try with_reducible rfl)
       refine' tkH 7 ⟨ba_5.out, bb_12.out⟩ ?hyR1665 ?_
       case hyR1665 => (rintro _ -; go_simp; try with_reducible rfl)
       try simp only [Act.put, List.setIfInBounds_toArray, List.set_cons_zero, List.set_cons_succ]
       refine' tkH 8 ⟨ba_5.out, bb_12.out⟩ ?hyR1666 ?_
       case hyR1666 => (rintro _ -; go_simp; try with_reducible rfl)
       refine' tkH 9 ⟨ba_5.out, bb_12.out⟩ ?hyR1667 ?_
       case hyR1667 => (rintro _ -; go_simp; try with_reducible rfl)
       refine' tkH 10 ⟨ba_5.out, bb_12.out⟩ ?hyR1668 ?_
       case hyR1668 => (rintro _ -; go_simp; try with_reducible rfl)
       try simp only [Act.put, List.setIfInBounds_toArray, List.set_cons_zero, List.set_cons_succ]
       refine wpAnyH_done (by kernel_rfl) ?_ _
       obtain ⟨z_3013, z_3014, z_3015⟩ := at3 ba_5
       obtain ⟨z_3016, z_3017, z_3018⟩ := at3 bb_12
       have hc := j_max _ A1 B1 C1 D1 ra_3.out rb_4.out rc_10.out rd_11.out
       have HC := Lib.hid hc; clear hc
       go_wp2_with fail
       refine HC.out.mono ?_
       rintro e w_3019 ⟨EM, cm, rfl, rM, hb⟩
       clear HC
       clear z_3013 z_3014 z_3015 z_3016 z_3017 z_3018
       replace bel_1 := bB bel_1 hb
       replace ra_3 := rB ra_3 hb
       replace rb_4 := rB rb_4 hb
       replace ba_5 := kB ba_5 hb
       replace rc_10 := rB rc_10 hb
       replace rd_11 := rB rd_11 hb
       replace bb_12 := kB bb_12 hb
       clear hb
       have rm_3020 := Lib.hid (rM)
       clear rM
       obtain ⟨z_3021, z_3022, z_3023⟩ := at3 ba_5
       obtain ⟨z_3024, z_3025, z_3026⟩ := at3 bb_12
       have hc := j_long _ A1 B1 C1 D1 ra_3.out rb_4.out rc_10.out rd_11.out
       have HC := Lib.hid hc; clear hc
       go_wp2_with fail
       refine HC.out.mono ?_
       rintro e w_3027 ⟨rfl, hb⟩
       clear HC
       clear z_3021 z_3022 z_3023 z_3024 z_3025 z_3026
       replace bel_1 := bB bel_1 hb
       replace ra_3 := rB ra_3 hb
       replace rb_4 := rB rb_4 hb
       replace ba_5 := kB ba_5 hb
       replace rc_10 := rB rc_10 hb
       replace rd_11 := rB rd_11 hb
       replace bb_12 := kB bb_12 hb
       replace rm_3020 := rB rm_3020 hb
       clear hb
       obtain ⟨z_3028, z_3029, z_3030⟩ := at3 ba_5
       obtain ⟨z_3031, z_3032, z_3033⟩ := at3 bb_12
       have hc := j_with _ C1 D1 rc_10.out rd_11.out
       have HC := Lib.hid hc; clear hc
       go_wp2_with fail
       refine HC.out.mono ?_
       rintro e w_3034 ⟨EW_, kw, GW_, lw, rfl, rE, rG, hb⟩
       clear HC
       clear z_3028 z_3029 z_3030 z_3031 z_3032 z_3033
       replace bel_1 := bB bel_1 hb
       replace ra_3 := rB ra_3 hb
       replace rb_4 := rB rb_4 hb
       replace ba_5 := kB ba_5 hb
       replace rc_10 := rB rc_10 hb
       replace rd_11 := rB rd_11 hb
       replace bb_12 := kB bb_12 hb
       replace rm_3020 := rB rm_3020 hb
       clear hb
       have re_3035 := Lib.hid (rE)
       clear rE
       have rg_3036 := Lib.hid (rG)
       clear rG
       obtain ⟨o_, ho_⟩ : ∃ o, o = ((.cells #[.int .i64 3, .slice EW_ 6 kw, .slice GW_ 5 lw] 24) : Obj) := ⟨_, rfl⟩
       replace bel_1 := bA bel_1 o_
       replace ra_3 := rA ra_3 o_
       replace rb_4 := rA rb_4 o_
       replace ba_5 := kA ba_5 o_
       replace rc_10 := rA rc_10 o_
       replace rd_11 := rA rd_11 o_
       replace bb_12 := kA bb_12 o_
       replace rm_3020 := rA rm_3020 o_
       replace re_3035 := rA re_3035 o_
       replace rg_3036 := rA rg_3036 o_
       subst ho_
       have bc_3037 := Lib.hid (Blk.new w_3034 24 #[.int .i64 3, .slice EW_ 6 kw, .slice GW_ 5 lw])
       obtain ⟨z_3038, z_3039, z_3040⟩ := at3 ba_5
       obtain ⟨z_3041, z_3042, z_3043⟩ := at3 bb_12
       obtain ⟨z_3044, z_3045, z_3046⟩ := at3 bc_3037
       go_upto_region 9 with fail
       clear z_3038 z_3039 z_3040 z_3041 z_3042 z_3043 z_3044 z_3045 z_3046
       obtain ⟨W_3047, hW⟩ : ∃ w', w' = (w_3034.alloc (.cells #[.int .i64 3, .slice EW_ 6 kw, .slice GW_ 5 lw] 24)) := ⟨_, rfl⟩
       rw [← hW] at bel_1 ra_3 rb_4 ba_5 rc_10 rd_11 bb_12 rm_3020 re_3035 rg_3036 bc_3037
       rw [← hW]
       clear hW
       go_cut [16, 17, 18] from 65 to 171 (fun s16 s17 s18 wx => ∃ (gF : Nat) (I : Option Addr) (ci : Nat), s16 = .pointer (some ⟨gF, 0, none⟩) ∧ s17 = .bool true ∧ s18 = .int .i64 0 ∧ Blk wx gF 33 #[.bool true, .slice I 2 ci] ∧ Blk wx (w_2.heap.size) 24 #[.int .i64 3, .slice A1 6 6, .slice B1 4 4] ∧ Blk wx (w_9.heap.size) 24 #[.int .i64 3, .slice C1 6 6, .slice D1 4 4] ∧ RdB wx A1 6 6 fW ∧ RdB wx B1 4 4 fT ∧ RdB wx C1 6 6 sW ∧ RdB wx D1 4 4 sT ∧ RdB wx EM 1 cm ([⟨0, 2, 0, 2⟩].map pB) ∧ Below w.heap.size w wx)
       case first =>
        have ba_3001 := Lib.hid (ba_5.out)
        have bc_3002 := Lib.hid (bc_3037.out)
        have bel_3003 := Lib.hid (Below.refl W_3047.heap.size W_3047)
        replace ba_3001 := kD ba_3001
        replace bc_3002 := kD bc_3002
        replace bel_3003 := bD bel_3003
        refine wp_region_held_drew (S := (fun W' => Blk W' (w_2.heap.size) 24 #[.int .i64 3, .slice A1 6 6, .slice B1 4 4] ∧ Blk W' (w_3034.heap.size) 24 #[.int .i64 3, .slice EW_ 6 kw, .slice GW_ 5 lw])) (by kernel_rfl) ⟨ba_3001.out, bc_3002.out⟩ (fun _ => ?_)
        obtain ⟨w1669, hw1670⟩ : ∃ w', w' = (W_3047.drew) := ⟨_, rfl⟩
        rw [← hw1670] at ba_3001 bc_3002 bel_3003
        rw [← hw1670]
        clear hw1670
        refine' tkH 0 ⟨ba_3001.out, bc_3002.out⟩ ?hyR1671 ?_
        case hyR1671 => (rintro W' ⟨hS0, hS1⟩; have hc0 := Blk.nth hS0 0; have hc1 := Blk.nth hS0 1; have hc2 := Blk.nth hS0 2; clear hS0 hS1; go_simp; try with_reducible rfl)
        refine' tkH 1 ⟨ba_3001.out, bc_3002.out⟩ ?hyR1672 ?_
        case hyR1672 => (rintro W' ⟨hS0, hS1⟩; have hc0 := Blk.nth hS1 0; have hc1 := Blk.nth hS1 1; have hc2 := Blk.nth hS1 2; clear hS0 hS1; go_simp; try with_reducible rfl)
        try simp only [Act.put, List.setIfInBounds_toArray, List.set_cons_zero, List.set_cons_succ]
        refine wpAnyH_ready (rs := [2, 8]) (by kernel_rfl) (by simp) ?_
        refine rdH rfl (fun K hK => ?_) ?_
        · -- 2: call
         go_simp
         go_at_call 58
         refine (of_any 0 2 0 2 _).mono ?_
         rintro e w1673 ⟨rfl, hb1674⟩
         dsimp only
         replace ba_3001 := kB ba_3001 hb1674
         replace bc_3002 := kB bc_3002 hb1674
         replace bel_3003 := bB bel_3003 hb1674
         refine hK.out _ _ ⟨ba_3001.out, bc_3002.out⟩ (fun _ => ?_); clear hK K
         try simp only [Act.put, List.setIfInBounds_toArray, List.set_cons_zero, List.set_cons_succ]
         refine wpAnyH_ready (rs := [3, 8]) (by kernel_rfl) (by simp) ?_
         refine rdH rfl (fun K hK => ?_) ?_
         · -- 3: call
          go_simp
          go_at_call 33
          refine (j_clash _ A1 B1 (RdB.below ra_3.out bel_3003.out) (RdB.below rb_4.out bel_3003.out) EW_ kw GW_ lw (RdB.below re_3035.out bel_3003.out) (RdB.below rg_3036.out bel_3003.out)).mono ?_
          rintro e w1675 ⟨IC, cc, rfl, hb1676⟩
          dsimp only
          replace ba_3001 := kB ba_3001 hb1676
          replace bc_3002 := kB bc_3002 hb1676
          replace bel_3003 := bB bel_3003 hb1676
          refine hK.out _ _ ⟨ba_3001.out, bc_3002.out⟩ (fun _ => ?_); clear hK K
          try simp only [Act.put, List.setIfInBounds_toArray, List.set_cons_zero, List.set_cons_succ]
          refine' tkH 4 ⟨ba_3001.out, bc_3002.out⟩ ?hyR1677 ?_
          case hyR1677 => (rintro _ -; go_simp; try with_reducible rfl)
          refine' tkH 5 ⟨ba_3001.out, bc_3002.out⟩ ?hyR1678 ?_
          case hyR1678 => (rintro _ -; go_simp; try with_reducible rfl)
          refine' tkH 6 ⟨ba_3001.out, bc_3002.out⟩ ?hyR1679 ?_
          case hyR1679 => (rintro _ -; go_simp; try with_reducible rfl)
          refine' tkH 7 ⟨ba_3001.out, bc_3002.out⟩ ?hyR1680 ?_
          case hyR1680 => (rintro _ -; go_simp; try with_reducible rfl)
          try simp only [Act.put, List.setIfInBounds_toArray, List.set_cons_zero, List.set_cons_succ]
          refine wpAnyH_ready (rs := [8]) (by kernel_rfl) (by simp) ?_
          refine rdH rfl (fun K hK => ?_) ?_
          · -- 8: alloc
           go_simp
           have ne1685 := Lib.hid (Nat.ne_of_lt (Blk.lt ba_3001.out))
           have ne1686 := Lib.hid (Nat.ne_of_lt (Blk.lt bc_3002.out))
           have lb1687 := Lib.hid (bel_3003.out.size)
           obtain ⟨o_, ho_⟩ : ∃ o, o = (.cells #[.bool false, .slice none 0 0] 33 : Obj) := ⟨_, rfl⟩
           replace ba_3001 := kA ba_3001 o_
           replace bc_3002 := kA bc_3002 o_
           replace bel_3003 := bA bel_3003 o_
           subst ho_
           have bf_1688 := Lib.hid (Blk.new (w1675) 33 #[.bool false, .slice none 0 0])
           obtain ⟨g1681, hg1682⟩ : ∃ g, g = (w1675).heap.size := ⟨_, rfl⟩
           obtain ⟨w1683, hw1684⟩ : ∃ w', w' = (w1675).alloc (.cells #[.bool false, .slice none 0 0] 33) := ⟨_, rfl⟩
           rw [← hw1684] at ba_3001 bc_3002 bel_3003 bf_1688
           rw [← hg1682] at ne1685 ne1686 lb1687 bf_1688
           rw [← hg1682, ← hw1684]
           clear hg1682 hw1684
           refine hK.out _ _ ⟨ba_3001.out, bc_3002.out⟩ (fun _ => ?_); clear hK K
           try simp only [Act.put, List.setIfInBounds_toArray, List.set_cons_zero, List.set_cons_succ]
           refine wpAnyH_ready (rs := [9]) (by kernel_rfl) (by simp) ?_
           refine rdH rfl (fun K hK => ?_) ?_
           · -- 9: store
            have v1689 : (w1683).cell? ⟨g1681, 0, none⟩ = some (.bool false) := Blk.cell (bf_1688.out) 0
            have f1690 : (w1683).frozen? ⟨g1681, 0, none⟩ = false := Blk.frozen (bf_1688.out) 0
            have v1691 : (w1683).cell? ⟨g1681, 1, none⟩ = some (.slice none 0 0) := Blk.cell (bf_1688.out) 1
            have f1692 : (w1683).frozen? ⟨g1681, 1, none⟩ = false := Blk.frozen (bf_1688.out) 1
            have hlt_ := Blk.lt (bf_1688.out)
            go_simp
            have k1693 := Lib.hid (Blk.far (Blk.far (ba_3001.out) (p := ⟨g1681, 0, none⟩) (ne1685.out) (.bool true)) (p := ⟨g1681, 1, none⟩) (ne1685.out) (.slice IC 2 cc))
            have k1694 := Lib.hid (Blk.far (Blk.far (bc_3002.out) (p := ⟨g1681, 0, none⟩) (ne1686.out) (.bool true)) (p := ⟨g1681, 1, none⟩) (ne1686.out) (.slice IC 2 cc))
            have k1695 := Lib.hid (Below.setCell (Below.setCell (bel_3003.out) (p := ⟨g1681, 0, none⟩) (lb1687.out) (.bool true)) (p := ⟨g1681, 1, none⟩) (lb1687.out) (.slice IC 2 cc))
            have k1696 := Lib.hid (Blk.set_ (Blk.set_ (bf_1688.out) 0 (.bool true)) 1 (.slice IC 2 cc))
            obtain ⟨w1697, hw1698⟩ : ∃ w', w' = (((w1683).setCell ⟨g1681, 0, none⟩ (.bool true)).setCell ⟨g1681, 1, none⟩ (.slice IC 2 cc)) := ⟨_, rfl⟩
            rw [← hw1698] at k1693 k1694 k1695 k1696
            rw [← hw1698]
            clear hw1698 v1689 f1690 v1691 f1692 hlt_
            refine hK.out _ _ ⟨k1693.out, k1694.out⟩ (fun _ => ?_); clear hK K
            try simp only [Act.put, List.setIfInBounds_toArray, List.set_cons_zero, List.set_cons_succ]
            refine' tkH 10 ⟨k1693.out, k1694.out⟩ ?hyR1699 ?_
            case hyR1699 => (rintro _ -; go_simp; try with_reducible rfl)
            refine' tkH 11 ⟨k1693.out, k1694.out⟩ ?hyR1700 ?_
            case hyR1700 => (rintro _ -; go_simp; try with_reducible rfl)
            try simp only [Act.put, List.setIfInBounds_toArray, List.set_cons_zero, List.set_cons_succ]
            refine wpAnyH_done (by kernel_rfl) ?_ _
            go_wp2
            go_meet
            exact ⟨_, _, _, rfl, rfl, rfl, k1696.out, Blk.keep ba_5.out k1695.out, Blk.keep bb_12.out k1695.out, RdB.below ra_3.out k1695.out, RdB.below rb_4.out k1695.out, RdB.below rc_10.out k1695.out, RdB.below rd_11.out k1695.out, RdB.below rm_3020.out k1695.out, Below.trans bel_1.out (Below.mono k1695.out (bel_1.out.size))⟩
           exact AllReadyH.nil
          exact AllReadyH.nil
         refine rdH rfl (fun K hK => ?_) ?_
         · -- 8: alloc
          go_simp
          have ne1705 := Lib.hid (Nat.ne_of_lt (Blk.lt ba_3001.out))
          have ne1706 := Lib.hid (Nat.ne_of_lt (Blk.lt bc_3002.out))
          have lb1707 := Lib.hid (bel_3003.out.size)
          obtain ⟨o_, ho_⟩ : ∃ o, o = (.cells #[.bool false, .slice none 0 0] 33 : Obj) := ⟨_, rfl⟩
          replace ba_3001 := kA ba_3001 o_
          replace bc_3002 := kA bc_3002 o_
          replace bel_3003 := bA bel_3003 o_
          subst ho_
          have bf_1708 := Lib.hid (Blk.new (w1673) 33 #[.bool false, .slice none 0 0])
          obtain ⟨g1701, hg1702⟩ : ∃ g, g = (w1673).heap.size := ⟨_, rfl⟩
          obtain ⟨w1703, hw1704⟩ : ∃ w', w' = (w1673).alloc (.cells #[.bool false, .slice none 0 0] 33) := ⟨_, rfl⟩
          rw [← hw1704] at ba_3001 bc_3002 bel_3003 bf_1708
          rw [← hg1702] at ne1705 ne1706 lb1707 bf_1708
          rw [← hg1702, ← hw1704]
          clear hg1702 hw1704
          refine hK.out _ _ ⟨ba_3001.out, bc_3002.out⟩ (fun _ => ?_); clear hK K
          try simp only [Act.put, List.setIfInBounds_toArray, List.set_cons_zero, List.set_cons_succ]
          refine wpAnyH_ready (rs := [3]) (by kernel_rfl) (by simp) ?_
          refine rdH rfl (fun K hK => ?_) ?_
          · -- 3: call
           go_simp
           go_at_call 33
           refine (j_clash _ A1 B1 (RdB.below ra_3.out bel_3003.out) (RdB.below rb_4.out bel_3003.out) EW_ kw GW_ lw (RdB.below re_3035.out bel_3003.out) (RdB.below rg_3036.out bel_3003.out)).mono ?_
           rintro e w1709 ⟨IC, cc, rfl, hb1710⟩
           dsimp only
           replace ba_3001 := kB ba_3001 hb1710
           replace bc_3002 := kB bc_3002 hb1710
           replace bel_3003 := bB bel_3003 hb1710
           replace bf_1708 := kB bf_1708 hb1710
           refine hK.out _ _ ⟨ba_3001.out, bc_3002.out⟩ (fun _ => ?_); clear hK K
           try simp only [Act.put, List.setIfInBounds_toArray, List.set_cons_zero, List.set_cons_succ]
           refine' tkH 4 ⟨ba_3001.out, bc_3002.out⟩ ?hyR1711 ?_
           case hyR1711 => (rintro _ -; go_simp; try with_reducible rfl)
           refine' tkH 5 ⟨ba_3001.out, bc_3002.out⟩ ?hyR1712 ?_
           case hyR1712 => (rintro _ -; go_simp; try with_reducible rfl)
           refine' tkH 6 ⟨ba_3001.out, bc_3002.out⟩ ?hyR1713 ?_
           case hyR1713 => (rintro _ -; go_simp; try with_reducible rfl)
           refine' tkH 7 ⟨ba_3001.out, bc_3002.out⟩ ?hyR1714 ?_
           case hyR1714 => (rintro _ -; go_simp; try with_reducible rfl)
           try simp only [Act.put, List.setIfInBounds_toArray, List.set_cons_zero, List.set_cons_succ]
           refine wpAnyH_ready (rs := [9]) (by kernel_rfl) (by simp) ?_
           refine rdH rfl (fun K hK => ?_) ?_
           · -- 9: store
            have v1715 : (w1709).cell? ⟨g1701, 0, none⟩ = some (.bool false) := Blk.cell (bf_1708.out) 0
            have f1716 : (w1709).frozen? ⟨g1701, 0, none⟩ = false := Blk.frozen (bf_1708.out) 0
            have v1717 : (w1709).cell? ⟨g1701, 1, none⟩ = some (.slice none 0 0) := Blk.cell (bf_1708.out) 1
            have f1718 : (w1709).frozen? ⟨g1701, 1, none⟩ = false := Blk.frozen (bf_1708.out) 1
            have hlt_ := Blk.lt (bf_1708.out)
            go_simp
            have k1719 := Lib.hid (Blk.far (Blk.far (ba_3001.out) (p := ⟨g1701, 0, none⟩) (ne1705.out) (.bool true)) (p := ⟨g1701, 1, none⟩) (ne1705.out) (.slice IC 2 cc))
            have k1720 := Lib.hid (Blk.far (Blk.far (bc_3002.out) (p := ⟨g1701, 0, none⟩) (ne1706.out) (.bool true)) (p := ⟨g1701, 1, none⟩) (ne1706.out) (.slice IC 2 cc))
            have k1721 := Lib.hid (Below.setCell (Below.setCell (bel_3003.out) (p := ⟨g1701, 0, none⟩) (lb1707.out) (.bool true)) (p := ⟨g1701, 1, none⟩) (lb1707.out) (.slice IC 2 cc))
            have k1722 := Lib.hid (Blk.set_ (Blk.set_ (bf_1708.out) 0 (.bool true)) 1 (.slice IC 2 cc))
            obtain ⟨w1723, hw1724⟩ : ∃ w', w' = (((w1709).setCell ⟨g1701, 0, none⟩ (.bool true)).setCell ⟨g1701, 1, none⟩ (.slice IC 2 cc)) := ⟨_, rfl⟩
            rw [← hw1724] at k1719 k1720 k1721 k1722
            rw [← hw1724]
            clear hw1724 v1715 f1716 v1717 f1718 hlt_
            refine hK.out _ _ ⟨k1719.out, k1720.out⟩ (fun _ => ?_); clear hK K
            try simp only [Act.put, List.setIfInBounds_toArray, List.set_cons_zero, List.set_cons_succ]
            refine' tkH 10 ⟨k1719.out, k1720.out⟩ ?hyR1725 ?_
            case hyR1725 => (rintro _ -; go_simp; try with_reducible rfl)
            refine' tkH 11 ⟨k1719.out, k1720.out⟩ ?hyR1726 ?_
            case hyR1726 => (rintro _ -; go_simp; try with_reducible rfl)
            try simp only [Act.put, List.setIfInBounds_toArray, List.set_cons_zero, List.set_cons_succ]
            refine wpAnyH_done (by kernel_rfl) ?_ _
            go_wp2
            go_meet
            exact ⟨_, _, _, rfl, rfl, rfl, k1722.out, Blk.keep ba_5.out k1721.out, Blk.keep bb_12.out k1721.out, RdB.below ra_3.out k1721.out, RdB.below rb_4.out k1721.out, RdB.below rc_10.out k1721.out, RdB.below rd_11.out k1721.out, RdB.below rm_3020.out k1721.out, Below.trans bel_1.out (Below.mono k1721.out (bel_1.out.size))⟩
           exact AllReadyH.nil
          exact AllReadyH.nil
         exact AllReadyH.nil
        refine rdH rfl (fun K hK => ?_) ?_
        · -- 8: alloc
         go_simp
         have ne1731 := Lib.hid (Nat.ne_of_lt (Blk.lt ba_3001.out))
         have ne1732 := Lib.hid (Nat.ne_of_lt (Blk.lt bc_3002.out))
         have lb1733 := Lib.hid (bel_3003.out.size)
         obtain ⟨o_, ho_⟩ : ∃ o, o = (.cells #[.bool false, .slice none 0 0] 33 : Obj) := ⟨_, rfl⟩
         replace ba_3001 := kA ba_3001 o_
         replace bc_3002 := kA bc_3002 o_
         replace bel_3003 := bA bel_3003 o_
         subst ho_
         have bf_1734 := Lib.hid (Blk.new (w1669) 33 #[.bool false, .slice none 0 0])
         obtain ⟨g1727, hg1728⟩ : ∃ g, g = (w1669).heap.size := ⟨_, rfl⟩
         obtain ⟨w1729, hw1730⟩ : ∃ w', w' = (w1669).alloc (.cells #[.bool false, .slice none 0 0] 33) := ⟨_, rfl⟩
         rw [← hw1730] at ba_3001 bc_3002 bel_3003 bf_1734
         rw [← hg1728] at ne1731 ne1732 lb1733 bf_1734
         rw [← hg1728, ← hw1730]
         clear hg1728 hw1730
         refine hK.out _ _ ⟨ba_3001.out, bc_3002.out⟩ (fun _ => ?_); clear hK K
         try simp only [Act.put, List.setIfInBounds_toArray, List.set_cons_zero, List.set_cons_succ]
         refine wpAnyH_ready (rs := [2]) (by kernel_rfl) (by simp) ?_
         refine rdH rfl (fun K hK => ?_) ?_
         · -- 2: call
          go_simp
          go_at_call 58
          refine (of_any 0 2 0 2 _).mono ?_
          rintro e w1735 ⟨rfl, hb1736⟩
          dsimp only
          replace ba_3001 := kB ba_3001 hb1736
          replace bc_3002 := kB bc_3002 hb1736
          replace bel_3003 := bB bel_3003 hb1736
          replace bf_1734 := kB bf_1734 hb1736
          refine hK.out _ _ ⟨ba_3001.out, bc_3002.out⟩ (fun _ => ?_); clear hK K
          try simp only [Act.put, List.setIfInBounds_toArray, List.set_cons_zero, List.set_cons_succ]
          refine wpAnyH_ready (rs := [3]) (by kernel_rfl) (by simp) ?_
          refine rdH rfl (fun K hK => ?_) ?_
          · -- 3: call
           go_simp
           go_at_call 33
           refine (j_clash _ A1 B1 (RdB.below ra_3.out bel_3003.out) (RdB.below rb_4.out bel_3003.out) EW_ kw GW_ lw (RdB.below re_3035.out bel_3003.out) (RdB.below rg_3036.out bel_3003.out)).mono ?_
           rintro e w1737 ⟨IC, cc, rfl, hb1738⟩
           dsimp only
           replace ba_3001 := kB ba_3001 hb1738
           replace bc_3002 := kB bc_3002 hb1738
           replace bel_3003 := bB bel_3003 hb1738
           replace bf_1734 := kB bf_1734 hb1738
           refine hK.out _ _ ⟨ba_3001.out, bc_3002.out⟩ (fun _ => ?_); clear hK K
           try simp only [Act.put, List.setIfInBounds_toArray, List.set_cons_zero, List.set_cons_succ]
           refine' tkH 4 ⟨ba_3001.out, bc_3002.out⟩ ?hyR1739 ?_
           case hyR1739 => (rintro _ -; go_simp; try with_reducible rfl)
           refine' tkH 5 ⟨ba_3001.out, bc_3002.out⟩ ?hyR1740 ?_
           case hyR1740 => (rintro _ -; go_simp; try with_reducible rfl)
           refine' tkH 6 ⟨ba_3001.out, bc_3002.out⟩ ?hyR1741 ?_
           case hyR1741 => (rintro _ -; go_simp; try with_reducible rfl)
           refine' tkH 7 ⟨ba_3001.out, bc_3002.out⟩ ?hyR1742 ?_
           case hyR1742 => (rintro _ -; go_simp; try with_reducible rfl)
           try simp only [Act.put, List.setIfInBounds_toArray, List.set_cons_zero, List.set_cons_succ]
           refine wpAnyH_ready (rs := [9]) (by kernel_rfl) (by simp) ?_
           refine rdH rfl (fun K hK => ?_) ?_
           · -- 9: store
            have v1743 : (w1737).cell? ⟨g1727, 0, none⟩ = some (.bool false) := Blk.cell (bf_1734.out) 0
            have f1744 : (w1737).frozen? ⟨g1727, 0, none⟩ = false := Blk.frozen (bf_1734.out) 0
            have v1745 : (w1737).cell? ⟨g1727, 1, none⟩ = some (.slice none 0 0) := Blk.cell (bf_1734.out) 1
            have f1746 : (w1737).frozen? ⟨g1727, 1, none⟩ = false := Blk.frozen (bf_1734.out) 1
            have hlt_ := Blk.lt (bf_1734.out)
            go_simp
            have k1747 := Lib.hid (Blk.far (Blk.far (ba_3001.out) (p := ⟨g1727, 0, none⟩) (ne1731.out) (.bool true)) (p := ⟨g1727, 1, none⟩) (ne1731.out) (.slice IC 2 cc))
            have k1748 := Lib.hid (Blk.far (Blk.far (bc_3002.out) (p := ⟨g1727, 0, none⟩) (ne1732.out) (.bool true)) (p := ⟨g1727, 1, none⟩) (ne1732.out) (.slice IC 2 cc))
            have k1749 := Lib.hid (Below.setCell (Below.setCell (bel_3003.out) (p := ⟨g1727, 0, none⟩) (lb1733.out) (.bool true)) (p := ⟨g1727, 1, none⟩) (lb1733.out) (.slice IC 2 cc))
            have k1750 := Lib.hid (Blk.set_ (Blk.set_ (bf_1734.out) 0 (.bool true)) 1 (.slice IC 2 cc))
            obtain ⟨w1751, hw1752⟩ : ∃ w', w' = (((w1737).setCell ⟨g1727, 0, none⟩ (.bool true)).setCell ⟨g1727, 1, none⟩ (.slice IC 2 cc)) := ⟨_, rfl⟩
            rw [← hw1752] at k1747 k1748 k1749 k1750
            rw [← hw1752]
            clear hw1752 v1743 f1744 v1745 f1746 hlt_
            refine hK.out _ _ ⟨k1747.out, k1748.out⟩ (fun _ => ?_); clear hK K
            try simp only [Act.put, List.setIfInBounds_toArray, List.set_cons_zero, List.set_cons_succ]
            refine' tkH 10 ⟨k1747.out, k1748.out⟩ ?hyR1753 ?_
            case hyR1753 => (rintro _ -; go_simp; try with_reducible rfl)
            refine' tkH 11 ⟨k1747.out, k1748.out⟩ ?hyR1754 ?_
            case hyR1754 => (rintro _ -; go_simp; try with_reducible rfl)
            try simp only [Act.put, List.setIfInBounds_toArray, List.set_cons_zero, List.set_cons_succ]
            refine wpAnyH_done (by kernel_rfl) ?_ _
            go_wp2
            go_meet
            exact ⟨_, _, _, rfl, rfl, rfl, k1750.out, Blk.keep ba_5.out k1749.out, Blk.keep bb_12.out k1749.out, RdB.below ra_3.out k1749.out, RdB.below rb_4.out k1749.out, RdB.below rc_10.out k1749.out, RdB.below rd_11.out k1749.out, RdB.below rm_3020.out k1749.out, Below.trans bel_1.out (Below.mono k1749.out (bel_1.out.size))⟩
           exact AllReadyH.nil
          exact AllReadyH.nil
         exact AllReadyH.nil
        exact AllReadyH.nil
       case rest =>
        obtain ⟨gF, I, ci, rfl, rfl, rfl, kf, kba, kbb, kra, krb, krc, krd, krm, kbel⟩ := hcut
        have HJ0 := Lib.hid (And.intro kf (And.intro kba (And.intro kbb (And.intro kra (And.intro krb (And.intro krc (And.intro krd (And.intro krm kbel))))))))
        clear bel_1 ra_3 rb_4 ba_5 rc_10 rd_11 bb_12 rm_3020 re_3035 rg_3036 bc_3037 kf kba kbb kra krb krc krd krm kbel
        go_upto_region 10 with fail
        go_cut [19, 20] from 73 to 171 (fun s19 s20 wx => s19 = .bool true ∧ s20 = .int .i64 0 ∧ Blk wx gF 33 #[.bool true, .slice I 2 ci] ∧ Blk wx (w_2.heap.size) 24 #[.int .i64 3, .slice A1 6 6, .slice B1 4 4] ∧ Blk wx (w_9.heap.size) 24 #[.int .i64 3, .slice C1 6 6, .slice D1 4 4] ∧ RdB wx A1 6 6 fW ∧ RdB wx B1 4 4 fT ∧ RdB wx C1 6 6 sW ∧ RdB wx D1 4 4 sT ∧ RdB wx EM 1 cm ([⟨0, 2, 0, 2⟩].map pB) ∧ Below w.heap.size w wx)
        case first =>
         refine wp_region_held_drew (S := fun wx => Blk wx gF 33 #[.bool true, .slice I 2 ci] ∧ Blk wx (w_2.heap.size) 24 #[.int .i64 3, .slice A1 6 6, .slice B1 4 4] ∧ Blk wx (w_9.heap.size) 24 #[.int .i64 3, .slice C1 6 6, .slice D1 4 4] ∧ RdB wx A1 6 6 fW ∧ RdB wx B1 4 4 fT ∧ RdB wx C1 6 6 sW ∧ RdB wx D1 4 4 sT ∧ RdB wx EM 1 cm ([⟨0, 2, 0, 2⟩].map pB) ∧ Below w.heap.size w wx) (by kernel_rfl) ?_ (fun hj => ?_)
         · obtain ⟨kf, kba, kbb, kra, krb, krc, krd, krm, kbel⟩ := HJ0.out
           exact ⟨kf.drew, kba.drew, kbb.drew, kra.drew, krb.drew, krc.drew, krd.drew, krm.drew, kbel.drew⟩
         · refine joined_r10 A1 B1 C1 D1 (fun wx => Blk wx gF 33 #[.bool true, .slice I 2 ci] ∧ Blk wx (w_2.heap.size) 24 #[.int .i64 3, .slice A1 6 6, .slice B1 4 4] ∧ Blk wx (w_9.heap.size) 24 #[.int .i64 3, .slice C1 6 6, .slice D1 4 4] ∧ RdB wx A1 6 6 fW ∧ RdB wx B1 4 4 fT ∧ RdB wx C1 6 6 sW ∧ RdB wx D1 4 4 sT ∧ RdB wx EM 1 cm ([⟨0, 2, 0, 2⟩].map pB) ∧ Below w.heap.size w wx) ?_ ?_ ?_ ?_ ?_ _ hj
           · rintro W o ⟨kf, kba, kbb, kra, krb, krc, krd, krm, kbel⟩
             exact ⟨kf.alloc o, kba.alloc o, kbb.alloc o, kra.alloc o, krb.alloc o, krc.alloc o, krd.alloc o, krm.alloc o, kbel.alloc kbel.size o⟩
           · rintro W W' ⟨kf, kba, kbb, kra, krb, krc, krd, krm, kbel⟩ hb
             exact ⟨kf.keep hb, kba.keep hb, kbb.keep hb, kra.below hb, krb.below hb, krc.below hb, krd.below hb, krm.below hb, kbel.trans (hb.mono kbel.size)⟩
           · rintro W ⟨kf, kba, kbb, kra, krb, krc, krd, krm, kbel⟩
             exact ⟨kba, kbb, kra, krb, krc, krd⟩
           · exact fun _ _ _ _ _ h => h
           · intro u73 u74 u75 u76 u77 u78 u79 u80 u81 u82 u83 u84 W hj
             clear HJ0
             have HJ := Lib.hid hj; clear hj
             go_wp2
             go_meet
             exact ⟨rfl, rfl, HJ.out⟩
        case rest =>
         obtain ⟨rfl, rfl, kf, kba, kbb, kra, krb, krc, krd, krm, kbel⟩ := hcut
         clear HJ0
         obtain ⟨wd, hwd⟩ : ∃ x, x = wc := ⟨_, rfl⟩
         rw [← hwd] at kf kba kbb kra krb krc krd krm kbel ⊢
         clear hwd
         have bf_6001 := Lib.hid (kf)
         have ba_6002 := Lib.hid (kba)
         have bb_6003 := Lib.hid (kbb)
         have ra_6004 := Lib.hid (kra)
         have rb_6005 := Lib.hid (krb)
         have rc_6006 := Lib.hid (krc)
         have rd_6007 := Lib.hid (krd)
         have rm_6008 := Lib.hid (krm)
         have bel_6009 := Lib.hid (kbel)
         clear kf kba kbb kra krb krc krd krm kbel
         go_upto_region 13 with fail
         go_cut [21, 22] from 115 to 171 (fun s21 s22 wx => ∃ (X : Option Addr) (cx : Nat), s21 = .slice X 2 cx ∧ s22 = .int .i64 0 ∧ RdI wx X 2 cx [1, 6] ∧ Blk wx gF 33 #[.bool true, .slice I 2 ci] ∧ RdB wx EM 1 cm ([⟨0, 2, 0, 2⟩].map pB) ∧ Below w.heap.size w wx)
         case first =>
          replace bf_6001 := kD bf_6001
          replace ba_6002 := kD ba_6002
          replace bb_6003 := kD bb_6003
          replace ra_6004 := rD ra_6004
          replace rb_6005 := rD rb_6005
          replace rc_6006 := rD rc_6006
          replace rd_6007 := rD rd_6007
          replace rm_6008 := rD rm_6008
          replace bel_6009 := bD bel_6009
          refine wp_region_held_drew (S := (fun W' => Blk W' (w_2.heap.size) 24 #[.int .i64 3, .slice A1 6 6, .slice B1 4 4] ∧ Blk W' (w_9.heap.size) 24 #[.int .i64 3, .slice C1 6 6, .slice D1 4 4])) (by kernel_rfl) ⟨ba_6002.out, bb_6003.out⟩ (fun _ => ?_)
          obtain ⟨w1755, hw1756⟩ : ∃ w', w' = (wd.drew) := ⟨_, rfl⟩
          rw [← hw1756] at bf_6001 ba_6002 bb_6003 ra_6004 rb_6005 rc_6006 rd_6007 rm_6008 bel_6009
          rw [← hw1756]
          clear hw1756
          refine' tkH 0 ⟨ba_6002.out, bb_6003.out⟩ ?hyR1757 ?_
          case hyR1757 => (rintro W' ⟨hS0, hS1⟩; have hc0 := Blk.nth hS0 0; have hc1 := Blk.nth hS0 1; have hc2 := Blk.nth hS0 2; clear hS0 hS1; go_simp; try with_reducible rfl)
          refine' tkH 1 ⟨ba_6002.out, bb_6003.out⟩ ?hyR1758 ?_
          case hyR1758 => (rintro W' ⟨hS0, hS1⟩; have hc0 := Blk.nth hS1 0; have hc1 := Blk.nth hS1 1; have hc2 := Blk.nth hS1 2; clear hS0 hS1; go_simp; try with_reducible rfl)
          try simp only [Act.put, List.setIfInBounds_toArray, List.set_cons_zero, List.set_cons_succ]
          refine wpAnyH_ready (rs := [2, 3]) (by kernel_rfl) (by simp) ?_
          refine rdH rfl (fun K hK => ?_) ?_
          · -- 2: call
           go_simp
           go_at_call 58
           refine (of_any 0 1 0 1 _).mono ?_
           rintro e w1759 ⟨rfl, hb1760⟩
           dsimp only
           replace bf_6001 := kB bf_6001 hb1760
           replace ba_6002 := kB ba_6002 hb1760
           replace bb_6003 := kB bb_6003 hb1760
           replace ra_6004 := rB ra_6004 hb1760
           replace rb_6005 := rB rb_6005 hb1760
           replace rc_6006 := rB rc_6006 hb1760
           replace rd_6007 := rB rd_6007 hb1760
           replace rm_6008 := rB rm_6008 hb1760
           replace bel_6009 := bB bel_6009 hb1760
           refine hK.out _ _ ⟨ba_6002.out, bb_6003.out⟩ (fun _ => ?_); clear hK K
           try simp only [Act.put, List.setIfInBounds_toArray, List.set_cons_zero, List.set_cons_succ]
           refine wpAnyH_ready (rs := [3]) (by kernel_rfl) (by simp) ?_
           refine rdH rfl (fun K hK => ?_) ?_
           · -- 3: buildSlice
            go_simp
            have ne1765 := Lib.hid (Nat.ne_of_lt (Blk.lt bf_6001.out))
            have ne1766 := Lib.hid (Nat.ne_of_lt (Blk.lt ba_6002.out))
            have ne1767 := Lib.hid (Nat.ne_of_lt (Blk.lt bb_6003.out))
            have lb1768 := Lib.hid (bel_6009.out.size)
            obtain ⟨o_, ho_⟩ : ∃ o, o = (.cells #[.int .i64 0, .int .i64 7] 3 : Obj) := ⟨_, rfl⟩
            replace bf_6001 := kA bf_6001 o_
            replace ba_6002 := kA ba_6002 o_
            replace bb_6003 := kA bb_6003 o_
            replace ra_6004 := rA ra_6004 o_
            replace rb_6005 := rA rb_6005 o_
            replace rc_6006 := rA rc_6006 o_
            replace rd_6007 := rA rd_6007 o_
            replace rm_6008 := rA rm_6008 o_
            replace bel_6009 := bA bel_6009 o_
            subst ho_
            have bl_1769 := Lib.hid (Blk.new (w1759) 3 #[.int .i64 0, .int .i64 7])
            obtain ⟨g1761, hg1762⟩ : ∃ g, g = (w1759).heap.size := ⟨_, rfl⟩
            obtain ⟨w1763, hw1764⟩ : ∃ w', w' = (w1759).alloc (.cells #[.int .i64 0, .int .i64 7] 3) := ⟨_, rfl⟩
            rw [← hw1764] at bf_6001 ba_6002 bb_6003 ra_6004 rb_6005 rc_6006 rd_6007 rm_6008 bel_6009 bl_1769
            rw [← hg1762] at ne1765 ne1766 ne1767 lb1768 bl_1769
            rw [← hg1762, ← hw1764]
            clear hg1762 hw1764
            have rl_1770 := Lib.hid (rdI_blk (bl_1769.out))
            refine hK.out _ _ ⟨ba_6002.out, bb_6003.out⟩ (fun _ => ?_); clear hK K
            try simp only [Act.put, List.setIfInBounds_toArray, List.set_cons_zero, List.set_cons_succ]
            refine' tkH 4 ⟨ba_6002.out, bb_6003.out⟩ ?hyR1771 ?_
            case hyR1771 => (rintro _ -; go_simp; try with_reducible rfl)
            try simp only [Act.put, List.setIfInBounds_toArray, List.set_cons_zero, List.set_cons_succ]
            refine wpAnyH_ready (rs := [5]) (by kernel_rfl) (by simp) ?_
            refine rdH rfl (fun K hK => ?_) ?_
            · -- 5: call
             go_simp
             go_at_call 40
             refine (j_rests _ A1 B1 C1 D1 ra_6004.out rb_6005.out rc_6006.out rd_6007.out _ rl_1770.out).mono ?_
             rintro e w1772 ⟨XR, cr, rfl, hrx, hb1773⟩
             dsimp only
             replace bf_6001 := kB bf_6001 hb1773
             replace ba_6002 := kB ba_6002 hb1773
             replace bb_6003 := kB bb_6003 hb1773
             replace ra_6004 := rB ra_6004 hb1773
             replace rb_6005 := rB rb_6005 hb1773
             replace rc_6006 := rB rc_6006 hb1773
             replace rd_6007 := rB rd_6007 hb1773
             replace rm_6008 := rB rm_6008 hb1773
             replace bel_6009 := bB bel_6009 hb1773
             replace bl_1769 := kB bl_1769 hb1773
             replace rl_1770 := iB rl_1770 hb1773
             have rx_1774 := Lib.hid (hrx)
             refine hK.out _ _ ⟨ba_6002.out, bb_6003.out⟩ (fun _ => ?_); clear hK K
             try simp only [Act.put, List.setIfInBounds_toArray, List.set_cons_zero, List.set_cons_succ]
             refine' tkH 6 ⟨ba_6002.out, bb_6003.out⟩ ?hyR1775 ?_
             case hyR1775 => (rintro _ -; go_simp; try with_reducible rfl)
             refine' tkH 7 ⟨ba_6002.out, bb_6003.out⟩ ?hyR1776 ?_
             case hyR1776 => (rintro _ -; go_simp; try with_reducible rfl)
             refine' tkH 8 ⟨ba_6002.out, bb_6003.out⟩ ?hyR1777 ?_
             case hyR1777 => (rintro _ -; go_simp; try with_reducible rfl)
             refine' tkH 9 ⟨ba_6002.out, bb_6003.out⟩ ?hyR1778 ?_
             case hyR1778 => (rintro _ -; go_simp; try with_reducible rfl)
             try simp only [Act.put, List.setIfInBounds_toArray, List.set_cons_zero, List.set_cons_succ]
             refine' tkH 10 ⟨ba_6002.out, bb_6003.out⟩ ?hyR1779 ?_
             case hyR1779 => (rintro _ -; go_simp; try with_reducible rfl)
             try simp only [Act.put, List.setIfInBounds_toArray, List.set_cons_zero, List.set_cons_succ]
             refine wpAnyH_done (by kernel_rfl) ?_ _
             go_wp2
             go_meet
             exact ⟨_, _, rfl, rfl, rx_1774.out, bf_6001.out, rm_6008.out, bel_6009.out⟩
            exact AllReadyH.nil
           exact AllReadyH.nil
          refine rdH rfl (fun K hK => ?_) ?_
          · -- 3: buildSlice
           go_simp
           have ne1784 := Lib.hid (Nat.ne_of_lt (Blk.lt bf_6001.out))
           have ne1785 := Lib.hid (Nat.ne_of_lt (Blk.lt ba_6002.out))
           have ne1786 := Lib.hid (Nat.ne_of_lt (Blk.lt bb_6003.out))
           have lb1787 := Lib.hid (bel_6009.out.size)
           obtain ⟨o_, ho_⟩ : ∃ o, o = (.cells #[.int .i64 0, .int .i64 7] 3 : Obj) := ⟨_, rfl⟩
           replace bf_6001 := kA bf_6001 o_
           replace ba_6002 := kA ba_6002 o_
           replace bb_6003 := kA bb_6003 o_
           replace ra_6004 := rA ra_6004 o_
           replace rb_6005 := rA rb_6005 o_
           replace rc_6006 := rA rc_6006 o_
           replace rd_6007 := rA rd_6007 o_
           replace rm_6008 := rA rm_6008 o_
           replace bel_6009 := bA bel_6009 o_
           subst ho_
           have bl_1788 := Lib.hid (Blk.new (w1755) 3 #[.int .i64 0, .int .i64 7])
           obtain ⟨g1780, hg1781⟩ : ∃ g, g = (w1755).heap.size := ⟨_, rfl⟩
           obtain ⟨w1782, hw1783⟩ : ∃ w', w' = (w1755).alloc (.cells #[.int .i64 0, .int .i64 7] 3) := ⟨_, rfl⟩
           rw [← hw1783] at bf_6001 ba_6002 bb_6003 ra_6004 rb_6005 rc_6006 rd_6007 rm_6008 bel_6009 bl_1788
           rw [← hg1781] at ne1784 ne1785 ne1786 lb1787 bl_1788
           rw [← hg1781, ← hw1783]
           clear hg1781 hw1783
           have rl_1789 := Lib.hid (rdI_blk (bl_1788.out))
           refine hK.out _ _ ⟨ba_6002.out, bb_6003.out⟩ (fun _ => ?_); clear hK K
           try simp only [Act.put, List.setIfInBounds_toArray, List.set_cons_zero, List.set_cons_succ]
           refine' tkH 4 ⟨ba_6002.out, bb_6003.out⟩ ?hyR1790 ?_
           case hyR1790 => (rintro _ -; go_simp; try with_reducible rfl)
           try simp only [Act.put, List.setIfInBounds_toArray, List.set_cons_zero, List.set_cons_succ]
           refine wpAnyH_ready (rs := [2]) (by kernel_rfl) (by simp) ?_
           refine rdH rfl (fun K hK => ?_) ?_
           · -- 2: call
            go_simp
            go_at_call 58
            refine (of_any 0 1 0 1 _).mono ?_
            rintro e w1791 ⟨rfl, hb1792⟩
            dsimp only
            replace bf_6001 := kB bf_6001 hb1792
            replace ba_6002 := kB ba_6002 hb1792
            replace bb_6003 := kB bb_6003 hb1792
            replace ra_6004 := rB ra_6004 hb1792
            replace rb_6005 := rB rb_6005 hb1792
            replace rc_6006 := rB rc_6006 hb1792
            replace rd_6007 := rB rd_6007 hb1792
            replace rm_6008 := rB rm_6008 hb1792
            replace bel_6009 := bB bel_6009 hb1792
            replace bl_1788 := kB bl_1788 hb1792
            replace rl_1789 := iB rl_1789 hb1792
            refine hK.out _ _ ⟨ba_6002.out, bb_6003.out⟩ (fun _ => ?_); clear hK K
            try simp only [Act.put, List.setIfInBounds_toArray, List.set_cons_zero, List.set_cons_succ]
            refine wpAnyH_ready (rs := [5]) (by kernel_rfl) (by simp) ?_
            refine rdH rfl (fun K hK => ?_) ?_
            · -- 5: call
             go_simp
             go_at_call 40
             refine (j_rests _ A1 B1 C1 D1 ra_6004.out rb_6005.out rc_6006.out rd_6007.out _ rl_1789.out).mono ?_
             rintro e w1793 ⟨XR, cr, rfl, hrx, hb1794⟩
             dsimp only
             replace bf_6001 := kB bf_6001 hb1794
             replace ba_6002 := kB ba_6002 hb1794
             replace bb_6003 := kB bb_6003 hb1794
             replace ra_6004 := rB ra_6004 hb1794
             replace rb_6005 := rB rb_6005 hb1794
             replace rc_6006 := rB rc_6006 hb1794
             replace rd_6007 := rB rd_6007 hb1794
             replace rm_6008 := rB rm_6008 hb1794
             replace bel_6009 := bB bel_6009 hb1794
             replace bl_1788 := kB bl_1788 hb1794
             replace rl_1789 := iB rl_1789 hb1794
             have rx_1795 := Lib.hid (hrx)
             refine hK.out _ _ ⟨ba_6002.out, bb_6003.out⟩ (fun _ => ?_); clear hK K
             try simp only [Act.put, List.setIfInBounds_toArray, List.set_cons_zero, List.set_cons_succ]
             refine' tkH 6 ⟨ba_6002.out, bb_6003.out⟩ ?hyR1796 ?_
             case hyR1796 => (rintro _ -; go_simp; try with_reducible rfl)
             refine' tkH 7 ⟨ba_6002.out, bb_6003.out⟩ ?hyR1797 ?_
             case hyR1797 => (rintro _ -; go_simp; try with_reducible rfl)
             refine' tkH 8 ⟨ba_6002.out, bb_6003.out⟩ ?hyR1798 ?_
             case hyR1798 => (rintro _ -; go_simp; try with_reducible rfl)
             refine' tkH 9 ⟨ba_6002.out, bb_6003.out⟩ ?hyR1799 ?_
             case hyR1799 => (rintro _ -; go_simp; try with_reducible rfl)
             try simp only [Act.put, List.setIfInBounds_toArray, List.set_cons_zero, List.set_cons_succ]
             refine' tkH 10 ⟨ba_6002.out, bb_6003.out⟩ ?hyR1800 ?_
             case hyR1800 => (rintro _ -; go_simp; try with_reducible rfl)
             try simp only [Act.put, List.setIfInBounds_toArray, List.set_cons_zero, List.set_cons_succ]
             refine wpAnyH_done (by kernel_rfl) ?_ _
             go_wp2
             go_meet
             exact ⟨_, _, rfl, rfl, rx_1795.out, bf_6001.out, rm_6008.out, bel_6009.out⟩
            exact AllReadyH.nil
           exact AllReadyH.nil
          exact AllReadyH.nil
         case rest =>
          obtain ⟨X, cx, rfl, rfl, krx, kf, krm, kbel⟩ := hcut
          clear bf_6001 ba_6002 bb_6003 ra_6004 rb_6005 rc_6006 rd_6007 rm_6008 bel_6009
          obtain ⟨we, hwe⟩ : ∃ x, x = wc := ⟨_, rfl⟩
          rw [← hwe] at krx kf krm kbel ⊢
          clear hwe
          have bf_9001 := Lib.hid (kf)
          have rx_9002 := Lib.hid (krx)
          have rm_9003 := Lib.hid (krm)
          have bel_9004 := Lib.hid (kbel)
          clear kf krx krm kbel
          obtain ⟨z_9005, z_9006⟩ := at2 bf_9001
          have hc := of_any 0 2 0 2 (we)
          have HC := Lib.hid hc; clear hc
          go_wp2_with fail
          refine HC.out.mono ?_
          rintro e w_9007 ⟨rfl, hb⟩
          clear HC
          clear z_9005 z_9006
          replace bf_9001 := kB bf_9001 hb
          replace rx_9002 := iB rx_9002 hb
          replace rm_9003 := rB rm_9003 hb
          replace bel_9004 := bB bel_9004 hb
          clear hb
          obtain ⟨o_, ho_⟩ : ∃ o, o = ((.cells #[.int .i64 0, .int .i64 2, .int .i64 0, .int .i64 2] 28) : Obj) := ⟨_, rfl⟩
          replace bf_9001 := kA bf_9001 o_
          replace rx_9002 := iA rx_9002 o_
          replace rm_9003 := rA rm_9003 o_
          replace bel_9004 := bA bel_9004 o_
          subst ho_
          obtain ⟨z_9008, z_9009⟩ := at2 bf_9001
          have hc := SamePairings_any EM (some ⟨w_9007.heap.size, 0, none⟩) 1 cm 1 1 [⟨0, 2, 0, 2⟩] [⟨0, 2, 0, 2⟩] ((w_9007.alloc (.cells #[.int .i64 0, .int .i64 2, .int .i64 0, .int .i64 2] 28))) rm_9003.out (rdB_newP w_9007 ⟨0, 2, 0, 2⟩) (by unfold maxLen; omega)
          rw [decide_eq_true rfl] at hc
          try dsimp only at hc
          have HC := Lib.hid hc; clear hc
          go_wp2_with fail
          refine HC.out.mono ?_
          rintro e w_9010 ⟨rfl, hb⟩
          clear HC
          clear z_9008 z_9009
          replace bf_9001 := kB bf_9001 hb
          replace rx_9002 := iB rx_9002 hb
          replace rm_9003 := rB rm_9003 hb
          replace bel_9004 := bB bel_9004 hb
          clear hb
          obtain ⟨z_9011, z_9012⟩ := at2 bf_9001
          obtain ⟨o_, ho_⟩ : ∃ o, o = ((.cells #[.int .i64 1, .int .i64 6] 3) : Obj) := ⟨_, rfl⟩
          replace bf_9001 := kA bf_9001 o_
          replace rx_9002 := iA rx_9002 o_
          replace rm_9003 := rA rm_9003 o_
          replace bel_9004 := bA bel_9004 o_
          subst ho_
          have hc := Same_yes2 X (some ⟨w_9010.heap.size, 0, none⟩) 2 cx 2 2 [1, 6] ((w_9010.alloc (.cells #[.int .i64 1, .int .i64 6] 3))) rx_9002.out (rdI_new w_9010 [1, 6] 2 rfl) (by unfold maxLen; omega)
          have HC := Lib.hid hc; clear hc
          go_wp2_with fail
          refine HC.out.mono ?_
          rintro e w_9013 ⟨rfl, hb⟩
          clear HC
          clear z_9011 z_9012
          replace bf_9001 := kB bf_9001 hb
          replace rx_9002 := iB rx_9002 hb
          replace rm_9003 := rB rm_9003 hb
          replace bel_9004 := bB bel_9004 hb
          clear hb
          obtain ⟨z_9014, z_9015⟩ := at2 bf_9001
          go_wp2
          go_ret
          exact ⟨rfl, bel_9004.out⟩
      exact AllReadyH.nil
     exact AllReadyH.nil
    exact AllReadyH.nil
   exact AllReadyH.nil
  exact AllReadyH.nil
 exact AllReadyH.nil
end Go.Proofs.YtaoanagmgheicaaGreat
