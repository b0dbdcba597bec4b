import Derived.Test.YtaoanagmgheicaaGreatSEMap
set_option linter.unusedSimpArgs false
set_option linter.unusedVariables false
namespace Go.Proofs.YtaoanagmgheicaaGreat
open Go.RowKit Go.Maps
def grownV (S : List Prg) (p : Prg) : Prg := if befP p ∈ S then befP p else if behP p ∈ S then behP p else p
set_option maxRecDepth 100000 in
set_option maxHeartbeats 4000000 in
theorem grown_any (p1 p2 p3 p4 : Int) (hp : (0 ≤ p1 ∧ p1 ≤ 16) ∧ (0 ≤ p2 ∧ p2 ≤ 16) ∧ (0 ≤ p3 ∧ p3 ≤ 16) ∧ (0 ≤ p4 ∧ p4 ≤ 16)) (b : Nat) (S : List Prg) (w : World) (hown : OwnP w b S) :
 Calls Tryz.prog 101 #[.agg #[.int .i64 p1, .int .i64 p2, .int .i64 p3, .int .i64 p4], .map (some b)] w fun e w' => e = .returned (encV (grownV S ⟨p1, p2, p3, p4⟩)) ∧ Below w.heap.size w w' := by
 have hbl := hown.lt
 obtain ⟨⟨l1, u1⟩, ⟨l2, u2⟩, ⟨l3, u3⟩, ⟨l4, u4⟩⟩ := hp
 have HW1 := Lib.hid (show WfP (befP ⟨p1, p2, p3, p4⟩) from ⟨wf_small2 (by simp only [befP]; omega) (by simp only [befP]; omega), wf_small2 (by simp only [befP]; omega) (by simp only [befP]; omega), wf_small2 (by simp only [befP]; omega) (by simp only [befP]; omega), wf_small2 (by simp only [befP]; omega) (by simp only [befP]; omega)⟩)
 have HW2 := Lib.hid (show WfP (behP ⟨p1, p2, p3, p4⟩) from ⟨wf_small2 (by simp only [behP]; omega) (by simp only [behP]; omega), wf_small2 (by simp only [behP]; omega) (by simp only [behP]; omega), wf_small2 (by simp only [behP]; omega) (by simp only [behP]; omega), wf_small2 (by simp only [behP]; omega) (by simp only [behP]; omega)⟩)
 obtain ⟨q1, hq1⟩ : ∃ q, decide (befP ⟨p1, p2, p3, p4⟩ ∈ S) = q := ⟨_, rfl⟩
 obtain ⟨q2, hq2⟩ : ∃ q, decide (behP ⟨p1, p2, p3, p4⟩ ∈ S) = q := ⟨_, rfl⟩
 have HA := Lib.hid (fun (h : q1 = true) => show grownV S ⟨p1, p2, p3, p4⟩ = befP ⟨p1, p2, p3, p4⟩ from if_pos (by rw [h] at hq1; simpa using hq1))
 have HBB := Lib.hid (fun (h : q1 = false) (h' : q2 = true) => show grownV S ⟨p1, p2, p3, p4⟩ = behP ⟨p1, p2, p3, p4⟩ by unfold grownV; rw [if_neg (by rw [h] at hq1; simpa using hq1), if_pos (by rw [h'] at hq2; simpa using hq2)])
 have HC := Lib.hid (fun (h : q1 = false) (h' : q2 = false) => show grownV S ⟨p1, p2, p3, p4⟩ = ⟨p1, p2, p3, p4⟩ by unfold grownV; rw [if_neg (by rw [h] at hq1; simpa using hq1), if_neg (by rw [h'] at hq2; simpa using hq2)])
 have HQ1 := Lib.hid hq1; have HQ2 := Lib.hid hq2; clear hq1 hq2
 generalize grownV S ⟨p1, p2, p3, p4⟩ = G at *
 have wr1 : IntKind.i64.wrap (p1 - 1) = p1 - 1 := IntWalk.i64_in _ (by omega)
 have wr2 : IntKind.i64.wrap (p2 + 1) = p2 + 1 := IntWalk.i64_in _ (by omega)
 have wr3 : IntKind.i64.wrap (p3 - 1) = p3 - 1 := IntWalk.i64_in _ (by omega)
 have wr4 : IntKind.i64.wrap (p4 + 1) = p4 + 1 := IntWalk.i64_in _ (by omega)
 go_enter Tryz.func101, Tryz.ntmps101
 have bel_1 := Lib.hid (show Below w.heap.size w w from Below.refl _ w)
 have om_2 := Lib.hid (hown)
 clear hown
 obtain ⟨o_, ho_⟩ : ∃ o, o = ((.cells #[.int .i64 p1, .int .i64 p2, .int .i64 p3, .int .i64 p4] 28) : Obj) := ⟨_, rfl⟩
 replace bel_1 := bA bel_1 o_
 replace om_2 := Lib.hid (OwnP.alloc (om_2.out) (o_))
 subst ho_
 have bp_3 := Lib.hid (Blk.new w 28 #[.int .i64 p1, .int .i64 p2, .int .i64 p3, .int .i64 p4])
 obtain ⟨o_, ho_⟩ : ∃ o, o = ((.cells #[.int .i64 0, .int .i64 0, .int .i64 0, .int .i64 0] 28) : Obj) := ⟨_, rfl⟩
 replace bel_1 := bA bel_1 o_
 replace om_2 := Lib.hid (OwnP.alloc (om_2.out) (o_))
 replace bp_3 := kA bp_3 o_
 subst ho_
 have nb_ := Blk.new (w.alloc (.cells #[.int .i64 p1, .int .i64 p2, .int .i64 p3, .int .i64 p4] 28)) 28 #[.int .i64 0, .int .i64 0, .int .i64 0, .int .i64 0]
 simp only [World.size_alloc] at nb_
 have bz_4 := Lib.hid nb_; clear nb_
 obtain ⟨z_5, z_6, z_7, z_8⟩ := at4 bp_3
 obtain ⟨z_9, z_10, z_11, z_12⟩ := at4 bz_4
 go_wp2_with fail
 clear z_5 z_6 z_7 z_8 z_9 z_10 z_11 z_12
 replace bel_1 := bD bel_1
 replace om_2 := Lib.hid (OwnP.drew (om_2.out))
 replace bp_3 := kD bp_3
 replace bz_4 := kD bz_4
 refine wp_region_held_drew (S := (fun W' => Blk W' (w.heap.size) 28 #[.int .i64 p1, .int .i64 p2, .int .i64 p3, .int .i64 p4])) (by kernel_rfl) bp_3.out (fun _ => ?_)
 obtain ⟨w1464, hw1465⟩ : ∃ w', w' = (((w.alloc (.cells #[.int .i64 p1, .int .i64 p2, .int .i64 p3, .int .i64 p4] 28)).alloc (.cells #[.int .i64 0, .int .i64 0, .int .i64 0, .int .i64 0] 28)).drew) := ⟨_, rfl⟩
 rw [← hw1465] at bel_1 om_2 bp_3 bz_4
 rw [← hw1465]
 clear hw1465
 refine' tkH 0 bp_3.out ?hyR1466 ?_
 case hyR1466 => (rintro W' hS0; have hc0 := Blk.nth hS0 0; have hc1 := Blk.nth hS0 1; have hc2 := Blk.nth hS0 2; have hc3 := Blk.nth hS0 3; clear hS0; go_simp; try with_reducible rfl)
 refine' tkH 1 bp_3.out ?hyR1467 ?_
 case hyR1467 => (rintro W' hS0; have hc0 := Blk.nth hS0 0; have hc1 := Blk.nth hS0 1; have hc2 := Blk.nth hS0 2; have hc3 := Blk.nth hS0 3; clear hS0; go_simp; try with_reducible rfl)
 try simp only [Act.put, List.setIfInBounds_toArray, List.set_cons_zero, List.set_cons_succ]
 refine wpAnyH_ready (rs := [2, 3]) (by kernel_rfl) (by simp) ?_
 refine rdH rfl (fun K hK => ?_) ?_
 · -- 2: alloc
  go_simp
  have lb1472 := Lib.hid (bel_1.out.size)
  have ne1473 := Lib.hid (Nat.ne_of_lt (OwnP.lt om_2.out))
  have ne1474 := Lib.hid (Nat.ne_of_lt (Blk.lt bp_3.out))
  have ne1475 := Lib.hid (Nat.ne_of_lt (Blk.lt bz_4.out))
  obtain ⟨o_, ho_⟩ : ∃ o, o = (.cells #[.int .i64 0, .int .i64 0, .int .i64 0, .int .i64 0] 28 : Obj) := ⟨_, rfl⟩
  replace bel_1 := bA bel_1 o_
  replace om_2 := Lib.hid (OwnP.alloc (om_2.out) (o_))
  replace bp_3 := kA bp_3 o_
  replace bz_4 := kA bz_4 o_
  subst ho_
  have n5_1476 := Lib.hid (Blk.new (w1464) 28 #[.int .i64 0, .int .i64 0, .int .i64 0, .int .i64 0])
  obtain ⟨g1468, hg1469⟩ : ∃ g, g = (w1464).heap.size := ⟨_, rfl⟩
  obtain ⟨w1470, hw1471⟩ : ∃ w', w' = (w1464).alloc (.cells #[.int .i64 0, .int .i64 0, .int .i64 0, .int .i64 0] 28) := ⟨_, rfl⟩
  rw [← hw1471] at bel_1 om_2 bp_3 bz_4 n5_1476
  rw [← hg1469] at lb1472 ne1473 ne1474 ne1475 n5_1476
  rw [← hg1469, ← hw1471]
  clear hg1469 hw1471
  refine hK.out _ _ bp_3.out (fun _ => ?_); clear hK K
  try simp only [Act.put, List.setIfInBounds_toArray, List.set_cons_zero, List.set_cons_succ]
  refine wpAnyH_ready (rs := [3]) (by kernel_rfl) (by simp) ?_
  refine rdH rfl (fun K hK => ?_) ?_
  · -- 3: alloc
   go_simp
   have lb1481 := Lib.hid (bel_1.out.size)
   have ne1482 := Lib.hid (Nat.ne_of_lt (OwnP.lt om_2.out))
   have ne1483 := Lib.hid (Nat.ne_of_lt (Blk.lt bp_3.out))
   have ne1484 := Lib.hid (Nat.ne_of_lt (Blk.lt bz_4.out))
   have ne1485 := Lib.hid (Nat.ne_of_lt (Blk.lt n5_1476.out))
   obtain ⟨o_, ho_⟩ : ∃ o, o = (.cells #[.int .i64 0, .int .i64 0, .int .i64 0, .int .i64 0] 28 : Obj) := ⟨_, rfl⟩
   replace bel_1 := bA bel_1 o_
   replace om_2 := Lib.hid (OwnP.alloc (om_2.out) (o_))
   replace bp_3 := kA bp_3 o_
   replace bz_4 := kA bz_4 o_
   replace n5_1476 := kA n5_1476 o_
   subst ho_
   have n6_1486 := Lib.hid (Blk.new (w1470) 28 #[.int .i64 0, .int .i64 0, .int .i64 0, .int .i64 0])
   obtain ⟨g1477, hg1478⟩ : ∃ g, g = (w1470).heap.size := ⟨_, rfl⟩
   obtain ⟨w1479, hw1480⟩ : ∃ w', w' = (w1470).alloc (.cells #[.int .i64 0, .int .i64 0, .int .i64 0, .int .i64 0] 28) := ⟨_, rfl⟩
   rw [← hw1480] at bel_1 om_2 bp_3 bz_4 n5_1476 n6_1486
   rw [← hg1478] at lb1481 ne1482 ne1483 ne1484 ne1485 n6_1486
   rw [← hg1478, ← hw1480]
   clear hg1478 hw1480
   refine hK.out _ _ bp_3.out (fun _ => ?_); clear hK K
   try simp only [Act.put, List.setIfInBounds_toArray, List.set_cons_zero, List.set_cons_succ]
   refine wpAnyH_ready (rs := [4]) (by kernel_rfl) (by simp) ?_
   refine rdH rfl (fun K hK => ?_) ?_
   · -- 4: store
    have v1487 : (w1479).cell? ⟨g1468, 0, none⟩ = some (.int .i64 0) := Blk.cell (n5_1476.out) 0
    have f1488 : (w1479).frozen? ⟨g1468, 0, none⟩ = false := Blk.frozen (n5_1476.out) 0
    have v1489 : (w1479).cell? ⟨g1468, 1, none⟩ = some (.int .i64 0) := Blk.cell (n5_1476.out) 1
    have f1490 : (w1479).frozen? ⟨g1468, 1, none⟩ = false := Blk.frozen (n5_1476.out) 1
    have v1491 : (w1479).cell? ⟨g1468, 2, none⟩ = some (.int .i64 0) := Blk.cell (n5_1476.out) 2
    have f1492 : (w1479).frozen? ⟨g1468, 2, none⟩ = false := Blk.frozen (n5_1476.out) 2
    have v1493 : (w1479).cell? ⟨g1468, 3, none⟩ = some (.int .i64 0) := Blk.cell (n5_1476.out) 3
    have f1494 : (w1479).frozen? ⟨g1468, 3, none⟩ = false := Blk.frozen (n5_1476.out) 3
    have hlt_ := Blk.lt (n5_1476.out)
    go_simp
    have k1495 := Lib.hid (Below.setCell (Below.setCell (Below.setCell (Below.setCell (bel_1.out) (p := ⟨g1468, 0, none⟩) (lb1472.out) (.int .i64 p1)) (p := ⟨g1468, 1, none⟩) (lb1472.out) (.int .i64 p2)) (p := ⟨g1468, 2, none⟩) (lb1472.out) (.int .i64 p3)) (p := ⟨g1468, 3, none⟩) (lb1472.out) (.int .i64 p4))
    have k1496 := Lib.hid (OwnP.far (OwnP.far (OwnP.far (OwnP.far (om_2.out) (a := ⟨g1468, 0, none⟩) (ne1473.out) (.int .i64 p1)) (a := ⟨g1468, 1, none⟩) (ne1473.out) (.int .i64 p2)) (a := ⟨g1468, 2, none⟩) (ne1473.out) (.int .i64 p3)) (a := ⟨g1468, 3, none⟩) (ne1473.out) (.int .i64 p4))
    have k1497 := Lib.hid (Blk.far (Blk.far (Blk.far (Blk.far (bp_3.out) (p := ⟨g1468, 0, none⟩) (ne1474.out) (.int .i64 p1)) (p := ⟨g1468, 1, none⟩) (ne1474.out) (.int .i64 p2)) (p := ⟨g1468, 2, none⟩) (ne1474.out) (.int .i64 p3)) (p := ⟨g1468, 3, none⟩) (ne1474.out) (.int .i64 p4))
    have k1498 := Lib.hid (Blk.far (Blk.far (Blk.far (Blk.far (bz_4.out) (p := ⟨g1468, 0, none⟩) (ne1475.out) (.int .i64 p1)) (p := ⟨g1468, 1, none⟩) (ne1475.out) (.int .i64 p2)) (p := ⟨g1468, 2, none⟩) (ne1475.out) (.int .i64 p3)) (p := ⟨g1468, 3, none⟩) (ne1475.out) (.int .i64 p4))
    have k1499 := Lib.hid (Blk.set_ (Blk.set_ (Blk.set_ (Blk.set_ (n5_1476.out) 0 (.int .i64 p1)) 1 (.int .i64 p2)) 2 (.int .i64 p3)) 3 (.int .i64 p4))
    have k1500 := Lib.hid (Blk.far (Blk.far (Blk.far (Blk.far (n6_1486.out) (p := ⟨g1468, 0, none⟩) ((Ne.symm ne1485.out)) (.int .i64 p1)) (p := ⟨g1468, 1, none⟩) ((Ne.symm ne1485.out)) (.int .i64 p2)) (p := ⟨g1468, 2, none⟩) ((Ne.symm ne1485.out)) (.int .i64 p3)) (p := ⟨g1468, 3, none⟩) ((Ne.symm ne1485.out)) (.int .i64 p4))
    obtain ⟨w1501, hw1502⟩ : ∃ w', w' = (((((w1479).setCell ⟨g1468, 0, none⟩ (.int .i64 p1)).setCell ⟨g1468, 1, none⟩ (.int .i64 p2)).setCell ⟨g1468, 2, none⟩ (.int .i64 p3)).setCell ⟨g1468, 3, none⟩ (.int .i64 p4)) := ⟨_, rfl⟩
    rw [← hw1502] at k1495 k1496 k1497 k1498 k1499 k1500
    rw [← hw1502]
    clear hw1502 v1487 f1488 v1489 f1490 v1491 f1492 v1493 f1494 hlt_
    refine hK.out _ _ k1497.out (fun _ => ?_); clear hK K
    try simp only [Act.put, List.setIfInBounds_toArray, List.set_cons_zero, List.set_cons_succ]
    refine wpAnyH_ready (rs := [5]) (by kernel_rfl) (by simp) ?_
    refine rdH rfl (fun K hK => ?_) ?_
    · -- 5: store
     have v1503 : (w1501).cell? ⟨g1477, 0, none⟩ = some (.int .i64 0) := Blk.cell (k1500.out) 0
     have f1504 : (w1501).frozen? ⟨g1477, 0, none⟩ = false := Blk.frozen (k1500.out) 0
     have v1505 : (w1501).cell? ⟨g1477, 1, none⟩ = some (.int .i64 0) := Blk.cell (k1500.out) 1
     have f1506 : (w1501).frozen? ⟨g1477, 1, none⟩ = false := Blk.frozen (k1500.out) 1
     have v1507 : (w1501).cell? ⟨g1477, 2, none⟩ = some (.int .i64 0) := Blk.cell (k1500.out) 2
     have f1508 : (w1501).frozen? ⟨g1477, 2, none⟩ = false := Blk.frozen (k1500.out) 2
     have v1509 : (w1501).cell? ⟨g1477, 3, none⟩ = some (.int .i64 0) := Blk.cell (k1500.out) 3
     have f1510 : (w1501).frozen? ⟨g1477, 3, none⟩ = false := Blk.frozen (k1500.out) 3
     have hlt_ := Blk.lt (k1500.out)
     go_simp
     have k1511 := Lib.hid (Below.setCell (Below.setCell (Below.setCell (Below.setCell (k1495.out) (p := ⟨g1477, 0, none⟩) (lb1481.out) (.int .i64 p1)) (p := ⟨g1477, 1, none⟩) (lb1481.out) (.int .i64 p2)) (p := ⟨g1477, 2, none⟩) (lb1481.out) (.int .i64 p3)) (p := ⟨g1477, 3, none⟩) (lb1481.out) (.int .i64 p4))
     have k1512 := Lib.hid (OwnP.far (OwnP.far (OwnP.far (OwnP.far (k1496.out) (a := ⟨g1477, 0, none⟩) (ne1482.out) (.int .i64 p1)) (a := ⟨g1477, 1, none⟩) (ne1482.out) (.int .i64 p2)) (a := ⟨g1477, 2, none⟩) (ne1482.out) (.int .i64 p3)) (a := ⟨g1477, 3, none⟩) (ne1482.out) (.int .i64 p4))
     have k1513 := Lib.hid (Blk.far (Blk.far (Blk.far (Blk.far (k1497.out) (p := ⟨g1477, 0, none⟩) (ne1483.out) (.int .i64 p1)) (p := ⟨g1477, 1, none⟩) (ne1483.out) (.int .i64 p2)) (p := ⟨g1477, 2, none⟩) (ne1483.out) (.int .i64 p3)) (p := ⟨g1477, 3, none⟩) (ne1483.out) (.int .i64 p4))
     have k1514 := Lib.hid (Blk.far (Blk.far (Blk.far (Blk.far (k1498.out) (p := ⟨g1477, 0, none⟩) (ne1484.out) (.int .i64 p1)) (p := ⟨g1477, 1, none⟩) (ne1484.out) (.int .i64 p2)) (p := ⟨g1477, 2, none⟩) (ne1484.out) (.int .i64 p3)) (p := ⟨g1477, 3, none⟩) (ne1484.out) (.int .i64 p4))
     have k1515 := Lib.hid (Blk.far (Blk.far (Blk.far (Blk.far (k1499.out) (p := ⟨g1477, 0, none⟩) (ne1485.out) (.int .i64 p1)) (p := ⟨g1477, 1, none⟩) (ne1485.out) (.int .i64 p2)) (p := ⟨g1477, 2, none⟩) (ne1485.out) (.int .i64 p3)) (p := ⟨g1477, 3, none⟩) (ne1485.out) (.int .i64 p4))
     have k1516 := Lib.hid (Blk.set_ (Blk.set_ (Blk.set_ (Blk.set_ (k1500.out) 0 (.int .i64 p1)) 1 (.int .i64 p2)) 2 (.int .i64 p3)) 3 (.int .i64 p4))
     obtain ⟨w1517, hw1518⟩ : ∃ w', w' = (((((w1501).setCell ⟨g1477, 0, none⟩ (.int .i64 p1)).setCell ⟨g1477, 1, none⟩ (.int .i64 p2)).setCell ⟨g1477, 2, none⟩ (.int .i64 p3)).setCell ⟨g1477, 3, none⟩ (.int .i64 p4)) := ⟨_, rfl⟩
     rw [← hw1518] at k1511 k1512 k1513 k1514 k1515 k1516
     rw [← hw1518]
     clear hw1518 v1503 f1504 v1505 f1506 v1507 f1508 v1509 f1510 hlt_
     refine hK.out _ _ k1513.out (fun _ => ?_); clear hK K
     try simp only [Act.put, List.setIfInBounds_toArray, List.set_cons_zero, List.set_cons_succ]
     refine wpAnyH_done (by kernel_rfl) ?_ _
     have lt5 := Blk.lt k1515.out; have lt6 := Blk.lt k1516.out; have ltz := Blk.lt k1514.out; have ltp := Blk.lt k1513.out
     have hne1 := ne1485.out; have hne2 := Ne.symm ne1485.out
     have hl5 : w.heap.size ≤ g1468 := lb1472.out; have hl6 : w.heap.size ≤ g1477 := lb1481.out
     have hnp5 : w.heap.size ≠ g1468 := ne1474.out; have hnp6 : w.heap.size ≠ g1477 := ne1483.out
     have hnz5 : w.heap.size + 1 ≠ g1468 := ne1475.out; have hnz6 : w.heap.size + 1 ≠ g1477 := ne1484.out
     have OW := Lib.hid (OwnP.far (OwnP.far (OwnP.far (OwnP.far (k1512.out) (a := ⟨g1468, 0, none⟩) ne1473.out (.int .i64 (p1 - 1))) (a := ⟨g1468, 3, none⟩) ne1473.out (.int .i64 (p4 + 1))) (a := ⟨g1477, 1, none⟩) ne1482.out (.int .i64 (p2 + 1))) (a := ⟨g1477, 2, none⟩) ne1482.out (.int .i64 (p3 - 1)))
     have HBL := Lib.hid (k1511.out)
     obtain ⟨z_1013, z_1014, z_1015, z_1016⟩ := at4 k1513
     obtain ⟨z_1017, z_1018, z_1019, z_1020⟩ := at4 k1514
     obtain ⟨z_1021, z_1022, z_1023, z_1024⟩ := at4 k1515
     obtain ⟨z_1025, z_1026, z_1027, z_1028⟩ := at4 k1516
     have fz_1029 : (w1517).frozen? ⟨g1468, 0, none⟩ = false := Blk.frozen k1515.out 0
     have fz_1030 : (w1517).frozen? ⟨g1468, 1, none⟩ = false := Blk.frozen k1515.out 1
     have fz_1031 : (w1517).frozen? ⟨g1468, 2, none⟩ = false := Blk.frozen k1515.out 2
     have fz_1032 : (w1517).frozen? ⟨g1468, 3, none⟩ = false := Blk.frozen k1515.out 3
     have fz_1033 : (w1517).frozen? ⟨g1477, 0, none⟩ = false := Blk.frozen k1516.out 0
     have fz_1034 : (w1517).frozen? ⟨g1477, 1, none⟩ = false := Blk.frozen k1516.out 1
     have fz_1035 : (w1517).frozen? ⟨g1477, 2, none⟩ = false := Blk.frozen k1516.out 2
     have fz_1036 : (w1517).frozen? ⟨g1477, 3, none⟩ = false := Blk.frozen k1516.out 3
     have fz_1037 : (w1517).frozen? ⟨w.heap.size + 1, 0, none⟩ = false := Blk.frozen k1514.out 0
     have fz_1038 : (w1517).frozen? ⟨w.heap.size + 1, 1, none⟩ = false := Blk.frozen k1514.out 1
     have fz_1039 : (w1517).frozen? ⟨w.heap.size + 1, 2, none⟩ = false := Blk.frozen k1514.out 2
     have fz_1040 : (w1517).frozen? ⟨w.heap.size + 1, 3, none⟩ = false := Blk.frozen k1514.out 3
     go_wp2_with (at_lookup; first | refine wpList_lookup_P _ rfl _ _ rfl b S rfl OW.out (befP ⟨p1, p2, p3, p4⟩) rfl HW1.out q1 HQ1.out ?_ | refine wpList_lookup_P _ rfl _ _ rfl b S rfl OW.out (behP ⟨p1, p2, p3, p4⟩) rfl HW2.out q2 HQ2.out ?_)
     · refine bodyPost_ret (v := .agg #[.int .i64 (p1 - 1), .int .i64 p2, .int .i64 p3, .int .i64 (p4 + 1)]) (by simp [results, Tryz.results101, go_sem, z_1013, z_1014, z_1015, z_1016, z_1017, z_1018, z_1019, z_1020, z_1021, z_1022, z_1023, z_1024, z_1025, z_1026, z_1027, z_1028, fz_1029, fz_1030, fz_1031, fz_1032, fz_1033, fz_1034, fz_1035, fz_1036, fz_1037, fz_1038, fz_1039, fz_1040]) rfl ⟨by rw [HA.out (by assumption)]; rfl, (by have hsz_ := Below.size HBL.out; repeat' (first | with_reducible exact HBL.out | with_reducible exact Below.refl _ _ | with_reducible refine Below.alloc ?_ ?_ _ | with_reducible refine Below.setCell ?_ ?_ _ | with_reducible refine Below.drew ?_ | with_reducible refine below_setRow ?_ ?_ _ | omega | (simp; done) | (simp; omega)))⟩
     · refine bodyPost_ret (v := .agg #[.int .i64 p1, .int .i64 (p2 + 1), .int .i64 (p3 - 1), .int .i64 p4]) (by simp [results, Tryz.results101, go_sem, z_1013, z_1014, z_1015, z_1016, z_1017, z_1018, z_1019, z_1020, z_1021, z_1022, z_1023, z_1024, z_1025, z_1026, z_1027, z_1028, fz_1029, fz_1030, fz_1031, fz_1032, fz_1033, fz_1034, fz_1035, fz_1036, fz_1037, fz_1038, fz_1039, fz_1040]) rfl ⟨by rw [HBB.out (by assumption) (by assumption)]; rfl, (by have hsz_ := Below.size HBL.out; repeat' (first | with_reducible exact HBL.out | with_reducible exact Below.refl _ _ | with_reducible refine Below.alloc ?_ ?_ _ | with_reducible refine Below.setCell ?_ ?_ _ | with_reducible refine Below.drew ?_ | with_reducible refine below_setRow ?_ ?_ _ | omega | (simp; done) | (simp; omega)))⟩
     · refine bodyPost_ret (v := .agg #[.int .i64 p1, .int .i64 p2, .int .i64 p3, .int .i64 p4]) (by simp [results, Tryz.results101, go_sem, z_1013, z_1014, z_1015, z_1016, z_1017, z_1018, z_1019, z_1020, z_1021, z_1022, z_1023, z_1024, z_1025, z_1026, z_1027, z_1028, fz_1029, fz_1030, fz_1031, fz_1032, fz_1033, fz_1034, fz_1035, fz_1036, fz_1037, fz_1038, fz_1039, fz_1040]) rfl ⟨by rw [HC.out (by assumption) (by assumption)]; rfl, (by have hsz_ := Below.size HBL.out; repeat' (first | with_reducible exact HBL.out | with_reducible exact Below.refl _ _ | with_reducible refine Below.alloc ?_ ?_ _ | with_reducible refine Below.setCell ?_ ?_ _ | with_reducible refine Below.drew ?_ | with_reducible refine below_setRow ?_ ?_ _ | omega | (simp; done) | (simp; omega)))⟩
    exact AllReadyH.nil
   exact AllReadyH.nil
  exact AllReadyH.nil
 refine rdH rfl (fun K hK => ?_) ?_
 · -- 3: alloc
  go_simp
  have lb1523 := Lib.hid (bel_1.out.size)
  have ne1524 := Lib.hid (Nat.ne_of_lt (OwnP.lt om_2.out))
  have ne1525 := Lib.hid (Nat.ne_of_lt (Blk.lt bp_3.out))
  have ne1526 := Lib.hid (Nat.ne_of_lt (Blk.lt bz_4.out))
  obtain ⟨o_, ho_⟩ : ∃ o, o = (.cells #[.int .i64 0, .int .i64 0, .int .i64 0, .int .i64 0] 28 : Obj) := ⟨_, rfl⟩
  replace bel_1 := bA bel_1 o_
  replace om_2 := Lib.hid (OwnP.alloc (om_2.out) (o_))
  replace bp_3 := kA bp_3 o_
  replace bz_4 := kA bz_4 o_
  subst ho_
  have n6_1527 := Lib.hid (Blk.new (w1464) 28 #[.int .i64 0, .int .i64 0, .int .i64 0, .int .i64 0])
  obtain ⟨g1519, hg1520⟩ : ∃ g, g = (w1464).heap.size := ⟨_, rfl⟩
  obtain ⟨w1521, hw1522⟩ : ∃ w', w' = (w1464).alloc (.cells #[.int .i64 0, .int .i64 0, .int .i64 0, .int .i64 0] 28) := ⟨_, rfl⟩
  rw [← hw1522] at bel_1 om_2 bp_3 bz_4 n6_1527
  rw [← hg1520] at lb1523 ne1524 ne1525 ne1526 n6_1527
  rw [← hg1520, ← hw1522]
  clear hg1520 hw1522
  refine hK.out _ _ bp_3.out (fun _ => ?_); clear hK K
  try simp only [Act.put, List.setIfInBounds_toArray, List.set_cons_zero, List.set_cons_succ]
  refine wpAnyH_ready (rs := [2]) (by kernel_rfl) (by simp) ?_
  refine rdH rfl (fun K hK => ?_) ?_
  · -- 2: alloc
   go_simp
   have lb1532 := Lib.hid (bel_1.out.size)
   have ne1533 := Lib.hid (Nat.ne_of_lt (OwnP.lt om_2.out))
   have ne1534 := Lib.hid (Nat.ne_of_lt (Blk.lt bp_3.out))
   have ne1535 := Lib.hid (Nat.ne_of_lt (Blk.lt bz_4.out))
   have ne1536 := Lib.hid (Nat.ne_of_lt (Blk.lt n6_1527.out))
   obtain ⟨o_, ho_⟩ : ∃ o, o = (.cells #[.int .i64 0, .int .i64 0, .int .i64 0, .int .i64 0] 28 : Obj) := ⟨_, rfl⟩
   replace bel_1 := bA bel_1 o_
   replace om_2 := Lib.hid (OwnP.alloc (om_2.out) (o_))
   replace bp_3 := kA bp_3 o_
   replace bz_4 := kA bz_4 o_
   replace n6_1527 := kA n6_1527 o_
   subst ho_
   have n5_1537 := Lib.hid (Blk.new (w1521) 28 #[.int .i64 0, .int .i64 0, .int .i64 0, .int .i64 0])
   obtain ⟨g1528, hg1529⟩ : ∃ g, g = (w1521).heap.size := ⟨_, rfl⟩
   obtain ⟨w1530, hw1531⟩ : ∃ w', w' = (w1521).alloc (.cells #[.int .i64 0, .int .i64 0, .int .i64 0, .int .i64 0] 28) := ⟨_, rfl⟩
   rw [← hw1531] at bel_1 om_2 bp_3 bz_4 n6_1527 n5_1537
   rw [← hg1529] at lb1532 ne1533 ne1534 ne1535 ne1536 n5_1537
   rw [← hg1529, ← hw1531]
   clear hg1529 hw1531
   refine hK.out _ _ bp_3.out (fun _ => ?_); clear hK K
   try simp only [Act.put, List.setIfInBounds_toArray, List.set_cons_zero, List.set_cons_succ]
   refine wpAnyH_ready (rs := [4]) (by kernel_rfl) (by simp) ?_
   refine rdH rfl (fun K hK => ?_) ?_
   · -- 4: store
    have v1538 : (w1530).cell? ⟨g1528, 0, none⟩ = some (.int .i64 0) := Blk.cell (n5_1537.out) 0
    have f1539 : (w1530).frozen? ⟨g1528, 0, none⟩ = false := Blk.frozen (n5_1537.out) 0
    have v1540 : (w1530).cell? ⟨g1528, 1, none⟩ = some (.int .i64 0) := Blk.cell (n5_1537.out) 1
    have f1541 : (w1530).frozen? ⟨g1528, 1, none⟩ = false := Blk.frozen (n5_1537.out) 1
    have v1542 : (w1530).cell? ⟨g1528, 2, none⟩ = some (.int .i64 0) := Blk.cell (n5_1537.out) 2
    have f1543 : (w1530).frozen? ⟨g1528, 2, none⟩ = false := Blk.frozen (n5_1537.out) 2
    have v1544 : (w1530).cell? ⟨g1528, 3, none⟩ = some (.int .i64 0) := Blk.cell (n5_1537.out) 3
    have f1545 : (w1530).frozen? ⟨g1528, 3, none⟩ = false := Blk.frozen (n5_1537.out) 3
    have hlt_ := Blk.lt (n5_1537.out)
    go_simp
    have k1546 := Lib.hid (Below.setCell (Below.setCell (Below.setCell (Below.setCell (bel_1.out) (p := ⟨g1528, 0, none⟩) (lb1532.out) (.int .i64 p1)) (p := ⟨g1528, 1, none⟩) (lb1532.out) (.int .i64 p2)) (p := ⟨g1528, 2, none⟩) (lb1532.out) (.int .i64 p3)) (p := ⟨g1528, 3, none⟩) (lb1532.out) (.int .i64 p4))
    have k1547 := Lib.hid (OwnP.far (OwnP.far (OwnP.far (OwnP.far (om_2.out) (a := ⟨g1528, 0, none⟩) (ne1533.out) (.int .i64 p1)) (a := ⟨g1528, 1, none⟩) (ne1533.out) (.int .i64 p2)) (a := ⟨g1528, 2, none⟩) (ne1533.out) (.int .i64 p3)) (a := ⟨g1528, 3, none⟩) (ne1533.out) (.int .i64 p4))
    have k1548 := Lib.hid (Blk.far (Blk.far (Blk.far (Blk.far (bp_3.out) (p := ⟨g1528, 0, none⟩) (ne1534.out) (.int .i64 p1)) (p := ⟨g1528, 1, none⟩) (ne1534.out) (.int .i64 p2)) (p := ⟨g1528, 2, none⟩) (ne1534.out) (.int .i64 p3)) (p := ⟨g1528, 3, none⟩) (ne1534.out) (.int .i64 p4))
    have k1549 := Lib.hid (Blk.far (Blk.far (Blk.far (Blk.far (bz_4.out) (p := ⟨g1528, 0, none⟩) (ne1535.out) (.int .i64 p1)) (p := ⟨g1528, 1, none⟩) (ne1535.out) (.int .i64 p2)) (p := ⟨g1528, 2, none⟩) (ne1535.out) (.int .i64 p3)) (p := ⟨g1528, 3, none⟩) (ne1535.out) (.int .i64 p4))
    have k1550 := Lib.hid (Blk.far (Blk.far (Blk.far (Blk.far (n6_1527.out) (p := ⟨g1528, 0, none⟩) (ne1536.out) (.int .i64 p1)) (p := ⟨g1528, 1, none⟩) (ne1536.out) (.int .i64 p2)) (p := ⟨g1528, 2, none⟩) (ne1536.out) (.int .i64 p3)) (p := ⟨g1528, 3, none⟩) (ne1536.out) (.int .i64 p4))
    have k1551 := Lib.hid (Blk.set_ (Blk.set_ (Blk.set_ (Blk.set_ (n5_1537.out) 0 (.int .i64 p1)) 1 (.int .i64 p2)) 2 (.int .i64 p3)) 3 (.int .i64 p4))
    obtain ⟨w1552, hw1553⟩ : ∃ w', w' = (((((w1530).setCell ⟨g1528, 0, none⟩ (.int .i64 p1)).setCell ⟨g1528, 1, none⟩ (.int .i64 p2)).setCell ⟨g1528, 2, none⟩ (.int .i64 p3)).setCell ⟨g1528, 3, none⟩ (.int .i64 p4)) := ⟨_, rfl⟩
    rw [← hw1553] at k1546 k1547 k1548 k1549 k1550 k1551
    rw [← hw1553]
    clear hw1553 v1538 f1539 v1540 f1541 v1542 f1543 v1544 f1545 hlt_
    refine hK.out _ _ k1548.out (fun _ => ?_); clear hK K
    try simp only [Act.put, List.setIfInBounds_toArray, List.set_cons_zero, List.set_cons_succ]
    refine wpAnyH_ready (rs := [5]) (by kernel_rfl) (by simp) ?_
    refine rdH rfl (fun K hK => ?_) ?_
    · -- 5: store
     have v1554 : (w1552).cell? ⟨g1519, 0, none⟩ = some (.int .i64 0) := Blk.cell (k1550.out) 0
     have f1555 : (w1552).frozen? ⟨g1519, 0, none⟩ = false := Blk.frozen (k1550.out) 0
     have v1556 : (w1552).cell? ⟨g1519, 1, none⟩ = some (.int .i64 0) := Blk.cell (k1550.out) 1
     have f1557 : (w1552).frozen? ⟨g1519, 1, none⟩ = false := Blk.frozen (k1550.out) 1
     have v1558 : (w1552).cell? ⟨g1519, 2, none⟩ = some (.int .i64 0) := Blk.cell (k1550.out) 2
     have f1559 : (w1552).frozen? ⟨g1519, 2, none⟩ = false := Blk.frozen (k1550.out) 2
     have v1560 : (w1552).cell? ⟨g1519, 3, none⟩ = some (.int .i64 0) := Blk.cell (k1550.out) 3
     have f1561 : (w1552).frozen? ⟨g1519, 3, none⟩ = false := Blk.frozen (k1550.out) 3
     have hlt_ := Blk.lt (k1550.out)
     go_simp
     have k1562 := Lib.hid (Below.setCell (Below.setCell (Below.setCell (Below.setCell (k1546.out) (p := ⟨g1519, 0, none⟩) (lb1523.out) (.int .i64 p1)) (p := ⟨g1519, 1, none⟩) (lb1523.out) (.int .i64 p2)) (p := ⟨g1519, 2, none⟩) (lb1523.out) (.int .i64 p3)) (p := ⟨g1519, 3, none⟩) (lb1523.out) (.int .i64 p4))
     have k1563 := Lib.hid (OwnP.far (OwnP.far (OwnP.far (OwnP.far (k1547.out) (a := ⟨g1519, 0, none⟩) (ne1524.out) (.int .i64 p1)) (a := ⟨g1519, 1, none⟩) (ne1524.out) (.int .i64 p2)) (a := ⟨g1519, 2, none⟩) (ne1524.out) (.int .i64 p3)) (a := ⟨g1519, 3, none⟩) (ne1524.out) (.int .i64 p4))
     have k1564 := Lib.hid (Blk.far (Blk.far (Blk.far (Blk.far (k1548.out) (p := ⟨g1519, 0, none⟩) (ne1525.out) (.int .i64 p1)) (p := ⟨g1519, 1, none⟩) (ne1525.out) (.int .i64 p2)) (p := ⟨g1519, 2, none⟩) (ne1525.out) (.int .i64 p3)) (p := ⟨g1519, 3, none⟩) (ne1525.out) (.int .i64 p4))
     have k1565 := Lib.hid (Blk.far (Blk.far (Blk.far (Blk.far (k1549.out) (p := ⟨g1519, 0, none⟩) (ne1526.out) (.int .i64 p1)) (p := ⟨g1519, 1, none⟩) (ne1526.out) (.int .i64 p2)) (p := ⟨g1519, 2, none⟩) (ne1526.out) (.int .i64 p3)) (p := ⟨g1519, 3, none⟩) (ne1526.out) (.int .i64 p4))
     have k1566 := Lib.hid (Blk.set_ (Blk.set_ (Blk.set_ (Blk.set_ (k1550.out) 0 (.int .i64 p1)) 1 (.int .i64 p2)) 2 (.int .i64 p3)) 3 (.int .i64 p4))
     have k1567 := Lib.hid (Blk.far (Blk.far (Blk.far (Blk.far (k1551.out) (p := ⟨g1519, 0, none⟩) ((Ne.symm ne1536.out)) (.int .i64 p1)) (p := ⟨g1519, 1, none⟩) ((Ne.symm ne1536.out)) (.int .i64 p2)) (p := ⟨g1519, 2, none⟩) ((Ne.symm ne1536.out)) (.int .i64 p3)) (p := ⟨g1519, 3, none⟩) ((Ne.symm ne1536.out)) (.int .i64 p4))
     obtain ⟨w1568, hw1569⟩ : ∃ w', w' = (((((w1552).setCell ⟨g1519, 0, none⟩ (.int .i64 p1)).setCell ⟨g1519, 1, none⟩ (.int .i64 p2)).setCell ⟨g1519, 2, none⟩ (.int .i64 p3)).setCell ⟨g1519, 3, none⟩ (.int .i64 p4)) := ⟨_, rfl⟩
     rw [← hw1569] at k1562 k1563 k1564 k1565 k1566 k1567
     rw [← hw1569]
     clear hw1569 v1554 f1555 v1556 f1557 v1558 f1559 v1560 f1561 hlt_
     refine hK.out _ _ k1564.out (fun _ => ?_); clear hK K
     try simp only [Act.put, List.setIfInBounds_toArray, List.set_cons_zero, List.set_cons_succ]
     refine wpAnyH_done (by kernel_rfl) ?_ _
     have lt5 := Blk.lt k1567.out; have lt6 := Blk.lt k1566.out; have ltz := Blk.lt k1565.out; have ltp := Blk.lt k1564.out
     have hne1 := ne1536.out; have hne2 := Ne.symm ne1536.out
     have hl5 : w.heap.size ≤ g1528 := lb1532.out; have hl6 : w.heap.size ≤ g1519 := lb1523.out
     have hnp5 : w.heap.size ≠ g1528 := ne1534.out; have hnp6 : w.heap.size ≠ g1519 := ne1525.out
     have hnz5 : w.heap.size + 1 ≠ g1528 := ne1535.out; have hnz6 : w.heap.size + 1 ≠ g1519 := ne1526.out
     have OW := Lib.hid (OwnP.far (OwnP.far (OwnP.far (OwnP.far (k1563.out) (a := ⟨g1528, 0, none⟩) ne1533.out (.int .i64 (p1 - 1))) (a := ⟨g1528, 3, none⟩) ne1533.out (.int .i64 (p4 + 1))) (a := ⟨g1519, 1, none⟩) ne1524.out (.int .i64 (p2 + 1))) (a := ⟨g1519, 2, none⟩) ne1524.out (.int .i64 (p3 - 1)))
     have HBL := Lib.hid (k1562.out)
     obtain ⟨z_1013, z_1014, z_1015, z_1016⟩ := at4 k1564
     obtain ⟨z_1017, z_1018, z_1019, z_1020⟩ := at4 k1565
     obtain ⟨z_1021, z_1022, z_1023, z_1024⟩ := at4 k1567
     obtain ⟨z_1025, z_1026, z_1027, z_1028⟩ := at4 k1566
     have fz_1029 : (w1568).frozen? ⟨g1528, 0, none⟩ = false := Blk.frozen k1567.out 0
     have fz_1030 : (w1568).frozen? ⟨g1528, 1, none⟩ = false := Blk.frozen k1567.out 1
     have fz_1031 : (w1568).frozen? ⟨g1528, 2, none⟩ = false := Blk.frozen k1567.out 2
     have fz_1032 : (w1568).frozen? ⟨g1528, 3, none⟩ = false := Blk.frozen k1567.out 3
     have fz_1033 : (w1568).frozen? ⟨g1519, 0, none⟩ = false := Blk.frozen k1566.out 0
     have fz_1034 : (w1568).frozen? ⟨g1519, 1, none⟩ = false := Blk.frozen k1566.out 1
     have fz_1035 : (w1568).frozen? ⟨g1519, 2, none⟩ = false := Blk.frozen k1566.out 2
     have fz_1036 : (w1568).frozen? ⟨g1519, 3, none⟩ = false := Blk.frozen k1566.out 3
     have fz_1037 : (w1568).frozen? ⟨w.heap.size + 1, 0, none⟩ = false := Blk.frozen k1565.out 0
     have fz_1038 : (w1568).frozen? ⟨w.heap.size + 1, 1, none⟩ = false := Blk.frozen k1565.out 1
     have fz_1039 : (w1568).frozen? ⟨w.heap.size + 1, 2, none⟩ = false := Blk.frozen k1565.out 2
     have fz_1040 : (w1568).frozen? ⟨w.heap.size + 1, 3, none⟩ = false := Blk.frozen k1565.out 3
     go_wp2_with (at_lookup; first | refine wpList_lookup_P _ rfl _ _ rfl b S rfl OW.out (befP ⟨p1, p2, p3, p4⟩) rfl HW1.out q1 HQ1.out ?_ | refine wpList_lookup_P _ rfl _ _ rfl b S rfl OW.out (behP ⟨p1, p2, p3, p4⟩) rfl HW2.out q2 HQ2.out ?_)
     · refine bodyPost_ret (v := .agg #[.int .i64 (p1 - 1), .int .i64 p2, .int .i64 p3, .int .i64 (p4 + 1)]) (by simp [results, Tryz.results101, go_sem, z_1013, z_1014, z_1015, z_1016, z_1017, z_1018, z_1019, z_1020, z_1021, z_1022, z_1023, z_1024, z_1025, z_1026, z_1027, z_1028, fz_1029, fz_1030, fz_1031, fz_1032, fz_1033, fz_1034, fz_1035, fz_1036, fz_1037, fz_1038, fz_1039, fz_1040]) rfl ⟨by rw [HA.out (by assumption)]; rfl, (by have hsz_ := Below.size HBL.out; repeat' (first | with_reducible exact HBL.out | with_reducible exact Below.refl _ _ | with_reducible refine Below.alloc ?_ ?_ _ | with_reducible refine Below.setCell ?_ ?_ _ | with_reducible refine Below.drew ?_ | with_reducible refine below_setRow ?_ ?_ _ | omega | (simp; done) | (simp; omega)))⟩
     · refine bodyPost_ret (v := .agg #[.int .i64 p1, .int .i64 (p2 + 1), .int .i64 (p3 - 1), .int .i64 p4]) (by simp [results, Tryz.results101, go_sem, z_1013, z_1014, z_1015, z_1016, z_1017, z_1018, z_1019, z_1020, z_1021, z_1022, z_1023, z_1024, z_1025, z_1026, z_1027, z_1028, fz_1029, fz_1030, fz_1031, fz_1032, fz_1033, fz_1034, fz_1035, fz_1036, fz_1037, fz_1038, fz_1039, fz_1040]) rfl ⟨by rw [HBB.out (by assumption) (by assumption)]; rfl, (by have hsz_ := Below.size HBL.out; repeat' (first | with_reducible exact HBL.out | with_reducible exact Below.refl _ _ | with_reducible refine Below.alloc ?_ ?_ _ | with_reducible refine Below.setCell ?_ ?_ _ | with_reducible refine Below.drew ?_ | with_reducible refine below_setRow ?_ ?_ _ | omega | (simp; done) | (simp; omega)))⟩
     · refine bodyPost_ret (v := .agg #[.int .i64 p1, .int .i64 p2, .int .i64 p3, .int .i64 p4]) (by simp [results, Tryz.results101, go_sem, z_1013, z_1014, z_1015, z_1016, z_1017, z_1018, z_1019, z_1020, z_1021, z_1022, z_1023, z_1024, z_1025, z_1026, z_1027, z_1028, fz_1029, fz_1030, fz_1031, fz_1032, fz_1033, fz_1034, fz_1035, fz_1036, fz_1037, fz_1038, fz_1039, fz_1040]) rfl ⟨by rw [HC.out (by assumption) (by assumption)]; rfl, (by have hsz_ := Below.size HBL.out; repeat' (first | with_reducible exact HBL.out | with_reducible exact Below.refl _ _ | with_reducible refine Below.alloc ?_ ?_ _ | with_reducible refine Below.setCell ?_ ?_ _ | with_reducible refine Below.drew ?_ | with_reducible refine below_setRow ?_ ?_ _ | omega | (simp; done) | (simp; omega)))⟩
    exact AllReadyH.nil
   exact AllReadyH.nil
  exact AllReadyH.nil
 exact AllReadyH.nil
end Go.Proofs.YtaoanagmgheicaaGreat
