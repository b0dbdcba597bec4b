import Derived.Test.YtaoanagmgheicaaGreatSEMap
import Derived.Sort.Grow
import Derived.Lib.Small
set_option linter.unusedSimpArgs false
set_option linter.unusedVariables false
namespace Go.Proofs.YtaoanagmgheicaaGreat
open Go.RowKit
set_option maxHeartbeats 1000000 in
theorem compare_is (x y : Int) (w : World) : Calls Tryz.prog 141 #[.int .i64 x, .int .i64 y] w fun e w' => e = .returned (.int .i64 (Lib.compareInt x y)) ∧ w = w' := by
 by_cases h1 : x < y
 · have hc : Lib.compareInt x y = -1 := by unfold Lib.compareInt; rw [if_pos h1]
   rw [hc]; clear hc
   go_enter Tryz.func141, Tryz.ntmps141
   go_wp2
   go_ret
   exact ⟨rfl, rfl⟩
 · by_cases h2 : y < x
   · have hc : Lib.compareInt x y = 1 := by unfold Lib.compareInt; rw [if_neg h1, if_pos h2]
     rw [hc]; clear hc
     go_enter Tryz.func141, Tryz.ntmps141
     go_wp2
     go_ret
     exact ⟨rfl, rfl⟩
   · have hc : Lib.compareInt x y = 0 := by unfold Lib.compareInt; rw [if_neg h1, if_neg h2]
     rw [hc]; clear hc
     go_enter Tryz.func141, Tryz.ntmps141
     go_wp2
     go_ret
     exact ⟨rfl, rfl⟩
def orI (a b c : Int) : Int := if a ≠ 0 then a else if b ≠ 0 then b else c
set_option maxRecDepth 100000 in
set_option maxHeartbeats 1000000 in
theorem or_is (a b c : Int) (g : Nat) (w : World) (hg : Blk w g 3 #[.int .i64 a, .int .i64 b, .int .i64 c]) :
 Calls Tryz.prog 140 #[.slice (some ⟨g, 0, none⟩) 3 3] w fun e w' => e = .returned (.int .i64 (orI a b c)) ∧ w = w' := by
 have c0 : w.cell? ⟨g, 0, none⟩ = some (.int .i64 a) := hg.cell 0
 have c1 : w.cell? ⟨g, 1, none⟩ = some (.int .i64 b) := hg.cell 1
 have c2 : w.cell? ⟨g, 2, none⟩ = some (.int .i64 c) := hg.cell 2
 clear hg
 obtain ⟨r, hr⟩ : ∃ r, orI a b c = r := ⟨_, rfl⟩
 rw [hr]
 have HR := Lib.hid hr; clear hr
 go_enter Tryz.func140, Tryz.ntmps140
 go_wp2
 go_loopw [8] (fun i wr => (i = .int .i64 0 ∨ (i = .int .i64 1 ∧ a = 0) ∨ (i = .int .i64 2 ∧ a = 0 ∧ b = 0) ∨ (i = .int .i64 3 ∧ a = 0 ∧ b = 0 ∧ c = 0)) ∧ w = wr) (fun i _ => 3 - (intOf i).toNat)
 case atStart => exact ⟨.inl rfl, rfl⟩
 case round =>
  obtain ⟨hi, rfl⟩ := hrel
  rcases hi with rfl | ⟨rfl, ha⟩ | ⟨rfl, ha, hb⟩ | ⟨rfl, ha, hb, hc⟩
  · by_cases h : a = 0
    · have hb : (a != 0) = false := by simpa using h
      have HH := Lib.hid h; clear h
      go_wp2
      go_roundw
      case rel => exact ⟨.inr (.inl ⟨by go_num, HH.out⟩), by first | rfl | trivial⟩
      case measure => simp [intOf]
    · have hb : (a != 0) = true := by simpa using h
      have e : r = a := by rw [← HR.out]; unfold orI; rw [if_pos h]
      clear h
      subst e
      go_wp2
      go_ret
      exact ⟨rfl, rfl⟩
  · have HA := Lib.hid ha; clear ha
    by_cases h : b = 0
    · have hb : (b != 0) = false := by simpa using h
      have HH := Lib.hid h; clear h
      go_wp2
      go_roundw
      case rel => exact ⟨.inr (.inr (.inl ⟨by go_num, HA.out, HH.out⟩)), by first | rfl | trivial⟩
      case measure => simp [intOf]
    · have hb : (b != 0) = true := by simpa using h
      have e : r = b := by rw [← HR.out]; unfold orI; rw [if_neg (by simpa using HA.out), if_pos h]
      clear h
      subst e
      go_wp2
      go_ret
      exact ⟨rfl, rfl⟩
  · have HA := Lib.hid ha; have HB := Lib.hid hb; clear ha hb
    by_cases h : c = 0
    · have hb : (c != 0) = false := by simpa using h
      have HH := Lib.hid h; clear h
      go_wp2
      go_roundw
      case rel => exact ⟨.inr (.inr (.inr ⟨by go_num, HA.out, HB.out, HH.out⟩)), by first | rfl | trivial⟩
      case measure => simp [intOf]
    · have hb : (c != 0) = true := by simpa using h
      have e : r = c := by rw [← HR.out]; unfold orI; rw [if_neg (by simpa using HA.out), if_neg (by simpa using HB.out)]
      clear h
      subst e
      go_wp2
      go_ret
      exact ⟨rfl, rfl⟩
  · have HA := Lib.hid ha; have HB := Lib.hid hb; have HC := Lib.hid hc; clear ha hb hc
    have e : r = 0 := by rw [← HR.out]; unfold orI; rw [if_neg (by simpa using HA.out), if_neg (by simpa using HB.out), HC.out]
    subst e
    go_wp2
    go_ret
    exact ⟨rfl, rfl⟩
def Gr (W W' : World) : Prop := ∃ q os, W' = Sort.grow (W.drewN q) os
theorem Gr.refl (W : World) : Gr W W := ⟨0, #[], by simp [Sort.grow, World.drewN]⟩
theorem Gr.alloc {W W' : World} (h : Gr W W') (o : Obj) : Gr W (W'.alloc o) := by
 obtain ⟨q, os, rfl⟩ := h
 exact ⟨q, os ++ #[o], by rw [Sort.alloc_eq_grow, Sort.grow_grow]⟩
theorem Gr.drew {W W' : World} (h : Gr W W') : Gr W W'.drew := by
 obtain ⟨q, os, rfl⟩ := h
 exact ⟨q + 1, os, rfl⟩
def cmpP (p q : Prg) : Int := orI (Lib.compareInt p.af q.af) (Lib.compareInt p.at2 q.at2) (Lib.compareInt p.bf q.bf)
set_option maxRecDepth 100000 in
set_option maxHeartbeats 4000000 in
theorem byStretches_is (p1 p2 p3 p4 q1 q2 q3 q4 : Int) (w : World) :
 Calls Tryz.prog 103 #[.agg #[.int .i64 p1, .int .i64 p2, .int .i64 p3, .int .i64 p4], .agg #[.int .i64 q1, .int .i64 q2, .int .i64 q3, .int .i64 q4]] w fun e w' => e = .returned (.int .i64 (cmpP ⟨p1, p2, p3, p4⟩ ⟨q1, q2, q3, q4⟩)) ∧ Gr w w' := by
 unfold cmpP
 obtain ⟨r1, hr1⟩ : ∃ r, Lib.compareInt p1 q1 = r := ⟨_, rfl⟩
 obtain ⟨r2, hr2⟩ : ∃ r, Lib.compareInt p2 q2 = r := ⟨_, rfl⟩
 obtain ⟨r3, hr3⟩ : ∃ r, Lib.compareInt p3 q3 = r := ⟨_, rfl⟩
 dsimp only
 rw [hr1, hr2, hr3]
 obtain ⟨r, hr⟩ : ∃ r, orI r1 r2 r3 = r := ⟨_, rfl⟩
 rw [hr]
 have Er1 := Lib.hid hr1; have Er2 := Lib.hid hr2; have Er3 := Lib.hid hr3; have ER := Lib.hid hr; clear hr1 hr2 hr3 hr
 have gr0 := Gr.refl w
 go_enter Tryz.func103, Tryz.ntmps103
 have bel_1 := Lib.hid (show Below w.heap.size w w from Below.refl _ w)
 have gr_2 := Lib.hid (gr0)
 clear gr0
 obtain ⟨o_, ho_⟩ : ∃ o, o = ((.cells #[.int .i64 p1, .int .i64 p2, .int .i64 p3, .int .i64 p4] 28) : Obj) := ⟨_, rfl⟩
 replace bel_1 := bA bel_1 o_
 replace gr_2 := Lib.hid (Gr.alloc (gr_2.out) (o_))
 subst ho_
 have bp_3 := Lib.hid (Blk.new w 28 #[.int .i64 p1, .int .i64 p2, .int .i64 p3, .int .i64 p4])
 obtain ⟨o_, ho_⟩ : ∃ o, o = ((.cells #[.int .i64 q1, .int .i64 q2, .int .i64 q3, .int .i64 q4] 28) : Obj) := ⟨_, rfl⟩
 replace bel_1 := bA bel_1 o_
 replace gr_2 := Lib.hid (Gr.alloc (gr_2.out) (o_))
 replace bp_3 := kA bp_3 o_
 subst ho_
 have nb_ := Blk.new (w.alloc (.cells #[.int .i64 p1, .int .i64 p2, .int .i64 p3, .int .i64 p4] 28)) 28 #[.int .i64 q1, .int .i64 q2, .int .i64 q3, .int .i64 q4]
 simp only [World.size_alloc] at nb_
 have bq_4 := Lib.hid nb_; clear nb_
 obtain ⟨z_5, z_6, z_7, z_8⟩ := at4 bp_3
 obtain ⟨z_9, z_10, z_11, z_12⟩ := at4 bq_4
 go_wp2_with fail
 clear z_5 z_6 z_7 z_8 z_9 z_10 z_11 z_12
 replace bel_1 := bD bel_1
 replace gr_2 := Lib.hid (Gr.drew (gr_2.out))
 replace bp_3 := kD bp_3
 replace bq_4 := kD bq_4
 refine wp_region_held_drew (S := (fun W' => Blk W' (w.heap.size) 28 #[.int .i64 p1, .int .i64 p2, .int .i64 p3, .int .i64 p4] ∧ Blk W' (w.heap.size + 1) 28 #[.int .i64 q1, .int .i64 q2, .int .i64 q3, .int .i64 q4])) (by kernel_rfl) ⟨bp_3.out, bq_4.out⟩ (fun _ => ?_)
 obtain ⟨w1570, hw1571⟩ : ∃ w', w' = (((w.alloc (.cells #[.int .i64 p1, .int .i64 p2, .int .i64 p3, .int .i64 p4] 28)).alloc (.cells #[.int .i64 q1, .int .i64 q2, .int .i64 q3, .int .i64 q4] 28)).drew) := ⟨_, rfl⟩
 rw [← hw1571] at bel_1 gr_2 bp_3 bq_4
 rw [← hw1571]
 clear hw1571
 refine' tkH 0 ⟨bp_3.out, bq_4.out⟩ ?hyR1572 ?_
 case hyR1572 => (rintro _ -; go_simp; try with_reducible rfl)
 refine' tkH 1 ⟨bp_3.out, bq_4.out⟩ ?hyR1573 ?_
 case hyR1573 => (rintro _ -; go_simp; try with_reducible rfl)
 refine' tkH 2 ⟨bp_3.out, bq_4.out⟩ ?hyR1574 ?_
 case hyR1574 => (rintro W' ⟨hS0, hS1⟩; have hc0 := Blk.nth hS0 0; clear hS0 hS1; go_simp; try with_reducible rfl)
 refine' tkH 3 ⟨bp_3.out, bq_4.out⟩ ?hyR1575 ?_
 case hyR1575 => (rintro _ -; go_simp; try with_reducible rfl)
 try simp only [Act.put, List.setIfInBounds_toArray, List.set_cons_zero, List.set_cons_succ]
 refine' tkH 4 ⟨bp_3.out, bq_4.out⟩ ?hyR1576 ?_
 case hyR1576 => (rintro _ -; go_simp; try with_reducible rfl)
 refine' tkH 5 ⟨bp_3.out, bq_4.out⟩ ?hyR1577 ?_
 case hyR1577 => (rintro W' ⟨hS0, hS1⟩; have hc0 := Blk.nth hS1 0; clear hS0 hS1; go_simp; try with_reducible rfl)
 refine' tkH 7 ⟨bp_3.out, bq_4.out⟩ ?hyR1578 ?_
 case hyR1578 => (rintro _ -; go_simp; try with_reducible rfl)
 refine' tkH 8 ⟨bp_3.out, bq_4.out⟩ ?hyR1579 ?_
 case hyR1579 => (rintro _ -; go_simp; try with_reducible rfl)
 try simp only [Act.put, List.setIfInBounds_toArray, List.set_cons_zero, List.set_cons_succ]
 refine' tkH 9 ⟨bp_3.out, bq_4.out⟩ ?hyR1580 ?_
 case hyR1580 => (rintro W' ⟨hS0, hS1⟩; have hc0 := Blk.nth hS0 1; clear hS0 hS1; go_simp; try with_reducible rfl)
 refine' tkH 10 ⟨bp_3.out, bq_4.out⟩ ?hyR1581 ?_
 case hyR1581 => (rintro _ -; go_simp; try with_reducible rfl)
 refine' tkH 11 ⟨bp_3.out, bq_4.out⟩ ?hyR1582 ?_
 case hyR1582 => (rintro _ -; go_simp; try with_reducible rfl)
 refine' tkH 12 ⟨bp_3.out, bq_4.out⟩ ?hyR1583 ?_
 case hyR1583 => (rintro W' ⟨hS0, hS1⟩; have hc0 := Blk.nth hS1 1; clear hS0 hS1; go_simp; try with_reducible rfl)
 try simp only [Act.put, List.setIfInBounds_toArray, List.set_cons_zero, List.set_cons_succ]
 refine' tkH 14 ⟨bp_3.out, bq_4.out⟩ ?hyR1584 ?_
 case hyR1584 => (rintro _ -; go_simp; try with_reducible rfl)
 refine' tkH 15 ⟨bp_3.out, bq_4.out⟩ ?hyR1585 ?_
 case hyR1585 => (rintro _ -; go_simp; try with_reducible rfl)
 refine' tkH 16 ⟨bp_3.out, bq_4.out⟩ ?hyR1586 ?_
 case hyR1586 => (rintro W' ⟨hS0, hS1⟩; have hc0 := Blk.nth hS0 2; clear hS0 hS1; go_simp; try with_reducible rfl)
 refine' tkH 17 ⟨bp_3.out, bq_4.out⟩ ?hyR1587 ?_
 case hyR1587 => (rintro _ -; go_simp; try with_reducible rfl)
 try simp only [Act.put, List.setIfInBounds_toArray, List.set_cons_zero, List.set_cons_succ]
 refine' tkH 18 ⟨bp_3.out, bq_4.out⟩ ?hyR1588 ?_
 case hyR1588 => (rintro _ -; go_simp; try with_reducible rfl)
 refine' tkH 19 ⟨bp_3.out, bq_4.out⟩ ?hyR1589 ?_
 case hyR1589 => (rintro W' ⟨hS0, hS1⟩; have hc0 := Blk.nth hS1 2; clear hS0 hS1; go_simp; try with_reducible rfl)
 try simp only [Act.put, List.setIfInBounds_toArray, List.set_cons_zero, List.set_cons_succ]
 refine wpAnyH_ready (rs := [6]) (by kernel_rfl) (by simp) ?_
 refine rdH rfl (fun K hK => ?_) ?_
 · -- 6: call
  go_simp
  go_at_call 141
  refine (Calls.mono (compare_is p1 q1 _) (fun e w' h => (show e = .returned (.int .i64 r1) ∧ _ = w' from ⟨by rw [h.1, Er1.out], h.2⟩))).mono ?_
  rintro e w1590 ⟨rfl, rfl⟩
  dsimp only
  refine hK.out _ _ ⟨bp_3.out, bq_4.out⟩ (fun _ => ?_); clear hK K
  try simp only [Act.put, List.setIfInBounds_toArray, List.set_cons_zero, List.set_cons_succ]
  refine wpAnyH_ready (rs := [13]) (by kernel_rfl) (by simp) ?_
  refine rdH rfl (fun K hK => ?_) ?_
  · -- 13: call
   go_simp
   go_at_call 141
   refine (Calls.mono (compare_is p2 q2 _) (fun e w' h => (show e = .returned (.int .i64 r2) ∧ _ = w' from ⟨by rw [h.1, Er2.out], h.2⟩))).mono ?_
   rintro e w1591 ⟨rfl, rfl⟩
   dsimp only
   refine hK.out _ _ ⟨bp_3.out, bq_4.out⟩ (fun _ => ?_); clear hK K
   try simp only [Act.put, List.setIfInBounds_toArray, List.set_cons_zero, List.set_cons_succ]
   refine wpAnyH_ready (rs := [20]) (by kernel_rfl) (by simp) ?_
   refine rdH rfl (fun K hK => ?_) ?_
   · -- 20: call
    go_simp
    go_at_call 141
    refine (Calls.mono (compare_is p3 q3 _) (fun e w' h => (show e = .returned (.int .i64 r3) ∧ _ = w' from ⟨by rw [h.1, Er3.out], h.2⟩))).mono ?_
    rintro e w1592 ⟨rfl, rfl⟩
    dsimp only
    refine hK.out _ _ ⟨bp_3.out, bq_4.out⟩ (fun _ => ?_); clear hK K
    try simp only [Act.put, List.setIfInBounds_toArray, List.set_cons_zero, List.set_cons_succ]
    refine wpAnyH_ready (rs := [21]) (by kernel_rfl) (by simp) ?_
    refine rdH rfl (fun K hK => ?_) ?_
    · -- 21: buildSlice
     go_simp
     have lb1597 := Lib.hid (bel_1.out.size)
     have ne1598 := Lib.hid (Nat.ne_of_lt (Blk.lt bp_3.out))
     have ne1599 := Lib.hid (Nat.ne_of_lt (Blk.lt bq_4.out))
     obtain ⟨o_, ho_⟩ : ∃ o, o = (.cells #[.int .i64 r1, .int .i64 r2, .int .i64 r3] 3 : Obj) := ⟨_, rfl⟩
     replace bel_1 := bA bel_1 o_
     replace gr_2 := Lib.hid (Gr.alloc (gr_2.out) (o_))
     replace bp_3 := kA bp_3 o_
     replace bq_4 := kA bq_4 o_
     subst ho_
     have ns_1600 := Lib.hid (Blk.new (w1570) 3 #[.int .i64 r1, .int .i64 r2, .int .i64 r3])
     obtain ⟨g1593, hg1594⟩ : ∃ g, g = (w1570).heap.size := ⟨_, rfl⟩
     obtain ⟨w1595, hw1596⟩ : ∃ w', w' = (w1570).alloc (.cells #[.int .i64 r1, .int .i64 r2, .int .i64 r3] 3) := ⟨_, rfl⟩
     rw [← hw1596] at bel_1 gr_2 bp_3 bq_4 ns_1600
     rw [← hg1594] at lb1597 ne1598 ne1599 ns_1600
     rw [← hg1594, ← hw1596]
     clear hg1594 hw1596
     refine hK.out _ _ ⟨bp_3.out, bq_4.out⟩ (fun _ => ?_); clear hK K
     try simp only [Act.put, List.setIfInBounds_toArray, List.set_cons_zero, List.set_cons_succ]
     refine wpAnyH_ready (rs := [22]) (by kernel_rfl) (by simp) ?_
     refine rdH rfl (fun K hK => ?_) ?_
     · -- 22: call
      go_simp
      go_at_call 140
      refine (Calls.mono (or_is r1 r2 r3 _ _ (ns_1600.out)) (fun e w' h => (show e = .returned (.int .i64 r) ∧ _ = w' from ⟨by rw [h.1, ER.out], h.2⟩))).mono ?_
      rintro e w1601 ⟨rfl, rfl⟩
      dsimp only
      refine hK.out _ _ ⟨bp_3.out, bq_4.out⟩ (fun _ => ?_); clear hK K
      try simp only [Act.put, List.setIfInBounds_toArray, List.set_cons_zero, List.set_cons_succ]
      refine' tkH 23 ⟨bp_3.out, bq_4.out⟩ ?hyR1602 ?_
      case hyR1602 => (rintro _ -; go_simp; try with_reducible rfl)
      try simp only [Act.put, List.setIfInBounds_toArray, List.set_cons_zero, List.set_cons_succ]
      refine wpAnyH_done (by kernel_rfl) ?_ _
      have HK := Lib.hid (gr_2.out)
      go_wp2
      go_ret
      exact ⟨rfl, HK.out⟩
     exact AllReadyH.nil
    exact AllReadyH.nil
   exact AllReadyH.nil
  exact AllReadyH.nil
 exact AllReadyH.nil
end Go.Proofs.YtaoanagmgheicaaGreat
