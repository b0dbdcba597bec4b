import Derived.Shelf.SlSortCmp.NoneTotal
import Derived.Test.YtaoanagmgheicaaGreatQESort
import Derived.Test.YtaoanagmgheicaaGreatQEMax
import Derived.Test.YtaoanagmgheicaaGreatQRef
import Derived.Test.YtaoanagmgheicaaGreatQEJoinR
set_option maxHeartbeats 8000000
set_option linter.unusedSimpArgs false
set_option linter.unusedVariables false
namespace Go.Proofs.YtaoanagmgheicaaGreat
open Go.RowKit
theorem pB_inj {p q : Prg} (h : pB p = pB q) : p = q := by
 obtain ⟨p1, p2, p3, p4⟩ := p
 obtain ⟨q1, q2, q3, q4⟩ := q
 simpa [pB] using h
set_option maxRecDepth 100000 in
theorem SamePairings_any (A B : Option Addr) (m d m' d' : Nat) (x y : List Prg) (w : World) (hx : RdB w A m d (x.map pB)) (hy : RdB w B m' d' (y.map pB)) (hm : m ≤ maxLen) :
 Calls Tryz.prog 53 #[.slice A m d, .slice B m' d'] w fun e w' => e = .returned (.bool (decide (x = y))) ∧ Below w.heap.size w w' := by
 unfold maxLen at hm
 have hl := hx.len
 have hl' := hy.len
 rw [List.length_map] at hl hl'
 have heg : Tryz.prog.eqGuardType Tryz.prog.depth 28 = false := by kernel_rfl
 have HX := Lib.hid hx; have HY := Lib.hid hy; have HL := Lib.hid hl; have HL' := Lib.hid hl'; clear hx hy hl hl'
 by_cases hmm : m = m'
 · subst hmm
   go_enter Tryz.func53, Tryz.ntmps53
   go_wp2
   go_loopw [5] (fun i wr => ∃ k : Nat, k ≤ m ∧ i = .int .i64 k ∧ x.take k = y.take k ∧ Below w.heap.size w wr) (fun i _ => m - (intOf i).toNat)
   case atStart => exact ⟨0, Nat.zero_le _, rfl, by simp, Below.refl _ _⟩
   case round =>
    obtain ⟨k, hk, rfl, heq, hb⟩ := hrel
    have HE := Lib.hid heq; clear heq
    by_cases hlt : k < m
    · obtain ⟨b, o, u1, u2, u3, u4, rfl, hbw, hx, c0, c1, c2, c3⟩ := (HX.out.below hb).get hlt
      obtain ⟨b', o', v1, v2, v3, v4, rfl, hbw', hx', c0', c1', c2', c3'⟩ := (HY.out.below hb).get hlt
      have hxx : x[k]? = some ⟨u1, u2, u3, u4⟩ := by rw [List.getElem?_map] at hx; obtain ⟨p, h1, h2⟩ := Option.map_eq_some_iff.1 hx; rw [h1]; exact congrArg some (pB_inj h2)
      have hyy : y[k]? = some ⟨v1, v2, v3, v4⟩ := by rw [List.getElem?_map] at hx'; obtain ⟨p, h1, h2⟩ := Option.map_eq_some_iff.1 hx'; rw [h1]; exact congrArg some (pB_inj h2)
      have HXX := Lib.hid hxx; have HYY := Lib.hid hyy; clear hxx hyy hx hx'
      have heq : ∀ w, (Op.equalIn 10000 28 (.agg #[.int .i64 u1, .int .i64 u2, .int .i64 u3, .int .i64 u4]) (.agg #[.int .i64 v1, .int .i64 v2, .int .i64 v3, .int .i64 v4])).run Tryz.prog w = .ok (decide ((⟨u1, u2, u3, u4⟩ : Prg) = ⟨v1, v2, v3, v4⟩)) w := fun w => eql_pr ⟨u1, u2, u3, u4⟩ ⟨v1, v2, v3, v4⟩ w
      by_cases hu : (⟨u1, u2, u3, u4⟩ : Prg) = ⟨v1, v2, v3, v4⟩
      · rw [decide_eq_true hu] at heq
        have HU := Lib.hid hu; clear hu
        go_wp2_with fail
        go_quiet (fail)
        go_wp2
        go_roundw
        case rel => exact ⟨k + 1, by omega, by go_num, by rw [List.take_add_one, List.take_add_one, HE.out, HXX.out, HYY.out, HU.out], hb.trans ⟨rfl, rfl, rfl, Nat.le_refl _, fun _ _ => rfl⟩⟩
        case measure => simp [intOf]; omega
      · rw [decide_eq_false hu] at heq
        have HU := Lib.hid hu; clear hu
        go_wp2_with fail
        go_quiet (fail)
        go_wp2
        go_ret
        exact ⟨ret_bool (by
         symm
         apply decide_eq_false
         intro h
         rw [h, HYY.out] at HXX
         exact HU.out (by injection HXX.out with h; exact h.symm)), hb.trans ⟨rfl, rfl, rfl, Nat.le_refl _, fun _ _ => rfl⟩⟩
    · obtain rfl : k = m := by omega
      go_wp2
      go_ret
      exact ⟨ret_bool (by
       symm
       apply decide_eq_true
       have := HE.out
       rwa [List.take_of_length_le (by rw [HL.out]; exact Nat.le_refl _), List.take_of_length_le (by rw [HL'.out]; exact Nat.le_refl _)] at this), hb⟩
 · have h1 : ((m : Int) != (m' : Int)) = true := by simp; omega
   have H := Lib.hid hmm; clear hmm
   go_enter Tryz.func53, Tryz.ntmps53
   go_wp2
   go_ret
   exact ⟨ret_bool (by
    symm
    apply decide_eq_false
    intro h
    exact H.out (by rw [← HL.out, ← HL'.out, h])), Below.refl _ _⟩
end Go.Proofs.YtaoanagmgheicaaGreat
set_option linter.unusedSimpArgs false
set_option linter.unusedVariables false
namespace Go.Proofs.YtaoanagmgheicaaGreat
open Go.RowKit
theorem rdI_blk {w : World} {g : Nat} (h : Blk w g 3 #[.int .i64 0, .int .i64 7]) : RdI w (some ⟨g, 0, none⟩) 2 2 [0, 7] := by
 refine ⟨rfl, Nat.le_refl _, (fun h => by cases h), .inr ⟨g, 0, rfl, h.lt, fun j u hu => ?_⟩⟩
 rw [Nat.zero_add, h.cell j]
 simpa using hu
theorem Same_yes2 (A B : Option Addr) (m d m' d' : Nat) (x : List Int) (w : World) (hx : RdI w A m d x) (hy : RdI w B m' d' x) (hm : m ≤ maxLen) :
 Calls Tryz.prog 42 #[.slice A m d, .slice B m' d'] w fun e w' => e = .returned (.bool true) ∧ Below w.heap.size w w' :=
 (Same_any A B m d m' d' x x w hx hy hm).mono (fun e w' h => ⟨by rw [h.1, decide_eq_true rfl], h.2⟩)
set_option maxRecDepth 100000 in
theorem joined_any (w : World) : Calls Tryz.prog 17 #[] w fun e w' => e = .returned (.bool true) ∧ Below w.heap.size w w' := by
 go_enter Tryz.func17, Tryz.ntmps17
 have bel_1 := Lib.hid (show Below w.heap.size w w from Below.refl _ w)
 have hc := ffirst_any w
 have HC := Lib.hid hc; clear hc
 go_wp2_with fail
 refine HC.out.mono ?_
 rintro e w_2 ⟨A1, B1, rfl, rA, rB, hb⟩
 clear HC
 have hb_3 := Lib.hid hb
 clear hb
 have ra_4 := Lib.hid (rA)
 clear rA
 have rb_5 := Lib.hid (rB)
 clear rB
 obtain ⟨o_, ho_⟩ : ∃ o, o = ((.cells #[.int .i64 3, .slice A1 6 6, .slice B1 4 4] 24) : Obj) := ⟨_, rfl⟩
 replace bel_1 := bA (bH bel_1 hb_3) o_
 replace ra_4 := rA ra_4 o_
 replace rb_5 := rA rb_5 o_
 subst ho_
 have ba_6 := Lib.hid (Blk.new w_2 24 #[.int .i64 3, .slice A1 6 6, .slice B1 4 4])
 obtain ⟨z_7, z_8, z_9⟩ := at3 ba_6
 have hc := sfirst_any ((w_2.alloc (.cells #[.int .i64 3, .slice A1 6 6, .slice B1 4 4] 24)))
 have HC := Lib.hid hc; clear hc
 go_wp2_with fail
 refine HC.out.mono ?_
 rintro e w_10 ⟨C1, D1, rfl, rC, rD, hb⟩
 clear HC
 clear z_7 z_8 z_9
 have hb_11 := Lib.hid hb
 clear hb
 have rc_12 := Lib.hid (rC)
 clear rC
 have rd_13 := Lib.hid (rD)
 clear rD
 obtain ⟨o_, ho_⟩ : ∃ o, o = ((.cells #[.int .i64 3, .slice C1 6 6, .slice D1 4 4] 24) : Obj) := ⟨_, rfl⟩
 replace bel_1 := bA (bH bel_1 hb_11) o_
 replace ra_4 := rA (rH ra_4 hb_11) o_
 replace rb_5 := rA (rH rb_5 hb_11) o_
 replace ba_6 := kA (kH ba_6 hb_11) o_
 replace rc_12 := rA rc_12 o_
 replace rd_13 := rA rd_13 o_
 subst ho_
 have bb_14 := Lib.hid (Blk.new w_10 24 #[.int .i64 3, .slice C1 6 6, .slice D1 4 4])
 go_upto_region 3 with fail
 replace bel_1 := bD bel_1
 replace ra_4 := rD ra_4
 replace rb_5 := rD rb_5
 replace ba_6 := kD ba_6
 replace rc_12 := rD rc_12
 replace rd_13 := rD rd_13
 replace bb_14 := kD bb_14
 refine wp_region_held_drew (S := (fun W' => Blk W' (w_2.heap.size) 24 #[.int .i64 3, .slice A1 6 6, .slice B1 4 4] ∧ Blk W' (w_10.heap.size) 24 #[.int .i64 3, .slice C1 6 6, .slice D1 4 4])) (by kernel_rfl) ⟨ba_6.out, bb_14.out⟩ (fun _ => ?_)
 obtain ⟨w1523, hw1524⟩ : ∃ w', w' = ((w_10.alloc (.cells #[.int .i64 3, .slice C1 6 6, .slice D1 4 4] 24)).drew) := ⟨_, rfl⟩
 rw [← hw1524] at bel_1 ra_4 rb_5 ba_6 rc_12 rd_13 bb_14
 rw [← hw1524]
 clear hw1524
 refine' tkH 0 ⟨ba_6.out, bb_14.out⟩ ?hyR1525 ?_
 case hyR1525 => (rintro W' ⟨hS0, hS1⟩; have hc0 := Blk.nth hS0 0; have hc1 := Blk.nth hS0 1; have hc2 := Blk.nth hS0 2; clear hS0 hS1; go_simp; try with_reducible rfl)
 refine' tkH 1 ⟨ba_6.out, bb_14.out⟩ ?hyR1526 ?_
 case hyR1526 => (rintro W' ⟨hS0, hS1⟩; have hc0 := Blk.nth hS1 0; have hc1 := Blk.nth hS1 1; have hc2 := Blk.nth hS1 2; clear hS0 hS1; go_simp; try with_reducible rfl)
 try simp only [Act.put, qsA, qsZ, qsS]
 refine oneH 2 rfl fun K hK => ?_
 go_simp
 go_at_call 58
 refine (of_any 0 2 0 2 _).mono ?_
 rintro e w1527 ⟨rfl, hb1528⟩
 dsimp only
 replace hb1528 := Lib.hid hb1528
 replace ba_6 := kH ba_6 hb1528
 replace bb_14 := kH bb_14 hb1528
 refine hK.out _ _ ⟨ba_6.out, bb_14.out⟩ (fun _ => ?_); clear hK K
 try simp only [Act.put, qsA, qsZ, qsS]
 refine oneH 3 rfl fun K hK => ?_
 replace ra_4 := rH ra_4 hb1528
 replace rb_5 := rH rb_5 hb1528
 replace rc_12 := rH rc_12 hb1528
 replace rd_13 := rH rd_13 hb1528
 go_simp
 go_at_call 31
 refine (j_meets _ A1 B1 C1 D1 ra_4.out rb_5.out rc_12.out rd_13.out).mono ?_
 rintro e w1529 ⟨rfl, hb1530⟩
 dsimp only
 replace hb1530 := Lib.hid hb1530
 replace ba_6 := kH ba_6 hb1530
 replace bb_14 := kH bb_14 hb1530
 refine hK.out _ _ ⟨ba_6.out, bb_14.out⟩ (fun _ => ?_); clear hK K
 try simp only [Act.put, qsA, qsZ, qsS]
 refine' twH 4 ⟨ba_6.out, bb_14.out⟩ ?_
 refine' twH 5 ⟨ba_6.out, bb_14.out⟩ ?_
 refine' twH 6 ⟨ba_6.out, bb_14.out⟩ ?_
 refine' twH 7 ⟨ba_6.out, bb_14.out⟩ ?_
 try simp only [Act.put, qsA, qsZ, qsS]
 refine' twH 8 ⟨ba_6.out, bb_14.out⟩ ?_
 try simp only [Act.put, qsA, qsZ, qsS]
 refine wpAnyH_done (by kernel_rfl) ?_ _
 go_upto_region 4 with fail
 replace bel_1 := bD (bH (bH bel_1 hb1528) hb1530)
 replace ra_4 := rD (rH ra_4 hb1530)
 replace rb_5 := rD (rH rb_5 hb1530)
 replace ba_6 := kD ba_6
 replace rc_12 := rD (rH rc_12 hb1530)
 replace rd_13 := rD (rH rd_13 hb1530)
 replace bb_14 := kD bb_14
 refine wp_region_held_drew (S := (fun W' => Blk W' (w_2.heap.size) 24 #[.int .i64 3, .slice A1 6 6, .slice B1 4 4] ∧ Blk W' (w_10.heap.size) 24 #[.int .i64 3, .slice C1 6 6, .slice D1 4 4])) (by kernel_rfl) ⟨ba_6.out, bb_14.out⟩ (fun _ => ?_)
 obtain ⟨w1536, hw1537⟩ : ∃ w', w' = (w1529.drew) := ⟨_, rfl⟩
 rw [← hw1537] at bel_1 ra_4 rb_5 ba_6 rc_12 rd_13 bb_14
 rw [← hw1537]
 clear hw1537
 refine' tkH 0 ⟨ba_6.out, bb_14.out⟩ ?hyR1538 ?_
 case hyR1538 => (rintro W' ⟨hS0, hS1⟩; have hc0 := Blk.nth hS0 0; have hc1 := Blk.nth hS0 1; have hc2 := Blk.nth hS0 2; clear hS0 hS1; go_simp; try with_reducible rfl)
 refine' tkH 1 ⟨ba_6.out, bb_14.out⟩ ?hyR1539 ?_
 case hyR1539 => (rintro W' ⟨hS0, hS1⟩; have hc0 := Blk.nth hS1 0; have hc1 := Blk.nth hS1 1; have hc2 := Blk.nth hS1 2; clear hS0 hS1; go_simp; try with_reducible rfl)
 try simp only [Act.put, qsA, qsZ, qsS]
 refine oneH 2 rfl fun K hK => ?_
 go_simp
 go_at_call 58
 refine (of_any 0 1 0 1 _).mono ?_
 rintro e w1540 ⟨rfl, hb1541⟩
 dsimp only
 replace hb1541 := Lib.hid hb1541
 replace ba_6 := kH ba_6 hb1541
 replace bb_14 := kH bb_14 hb1541
 refine hK.out _ _ ⟨ba_6.out, bb_14.out⟩ (fun _ => ?_); clear hK K
 try simp only [Act.put, qsA, qsZ, qsS]
 refine oneH 3 rfl fun K hK => ?_
 replace ra_4 := rH ra_4 hb1541
 replace rb_5 := rH rb_5 hb1541
 replace rc_12 := rH rc_12 hb1541
 replace rd_13 := rH rd_13 hb1541
 go_simp
 go_at_call 31
 refine (j_not _ A1 B1 C1 D1 ra_4.out rb_5.out rc_12.out rd_13.out).mono ?_
 rintro e w1542 ⟨rfl, hb1543⟩
 dsimp only
 replace hb1543 := Lib.hid hb1543
 replace ba_6 := kH ba_6 hb1543
 replace bb_14 := kH bb_14 hb1543
 refine hK.out _ _ ⟨ba_6.out, bb_14.out⟩ (fun _ => ?_); clear hK K
 try simp only [Act.put, qsA, qsZ, qsS]
 refine' twH 4 ⟨ba_6.out, bb_14.out⟩ ?_
 refine' twH 5 ⟨ba_6.out, bb_14.out⟩ ?_
 refine' twH 6 ⟨ba_6.out, bb_14.out⟩ ?_
 refine' twH 7 ⟨ba_6.out, bb_14.out⟩ ?_
 try simp only [Act.put, qsA, qsZ, qsS]
 refine' twH 8 ⟨ba_6.out, bb_14.out⟩ ?_
 try simp only [Act.put, qsA, qsZ, qsS]
 refine wpAnyH_done (by kernel_rfl) ?_ _
 go_upto_region 5 with fail
 replace bel_1 := bD (bH (bH bel_1 hb1541) hb1543)
 replace ra_4 := rD (rH ra_4 hb1543)
 replace rb_5 := rD (rH rb_5 hb1543)
 replace ba_6 := kD ba_6
 replace rc_12 := rD (rH rc_12 hb1543)
 replace rd_13 := rD (rH rd_13 hb1543)
 replace bb_14 := kD bb_14
 refine wp_region_held_drew (S := (fun W' => Blk W' (w_2.heap.size) 24 #[.int .i64 3, .slice A1 6 6, .slice B1 4 4] ∧ Blk W' (w_10.heap.size) 24 #[.int .i64 3, .slice C1 6 6, .slice D1 4 4])) (by kernel_rfl) ⟨ba_6.out, bb_14.out⟩ (fun _ => ?_)
 obtain ⟨w1549, hw1550⟩ : ∃ w', w' = (w1542.drew) := ⟨_, rfl⟩
 rw [← hw1550] at bel_1 ra_4 rb_5 ba_6 rc_12 rd_13 bb_14
 rw [← hw1550]
 clear hw1550
 refine' tkH 0 ⟨ba_6.out, bb_14.out⟩ ?hyR1551 ?_
 case hyR1551 => (rintro W' ⟨hS0, hS1⟩; have hc0 := Blk.nth hS0 0; have hc1 := Blk.nth hS0 1; have hc2 := Blk.nth hS0 2; clear hS0 hS1; go_simp; try with_reducible rfl)
 refine' tkH 1 ⟨ba_6.out, bb_14.out⟩ ?hyR1552 ?_
 case hyR1552 => (rintro W' ⟨hS0, hS1⟩; have hc0 := Blk.nth hS1 0; have hc1 := Blk.nth hS1 1; have hc2 := Blk.nth hS1 2; clear hS0 hS1; go_simp; try with_reducible rfl)
 try simp only [Act.put, qsA, qsZ, qsS]
 refine oneH 2 rfl fun K hK => ?_
 go_simp
 go_at_call 58
 refine (of_any 0 1 1 2 _).mono ?_
 rintro e w1553 ⟨rfl, hb1554⟩
 dsimp only
 replace hb1554 := Lib.hid hb1554
 replace ba_6 := kH ba_6 hb1554
 replace bb_14 := kH bb_14 hb1554
 refine hK.out _ _ ⟨ba_6.out, bb_14.out⟩ (fun _ => ?_); clear hK K
 try simp only [Act.put, qsA, qsZ, qsS]
 refine oneH 3 rfl fun K hK => ?_
 replace ra_4 := rH ra_4 hb1554
 replace rb_5 := rH rb_5 hb1554
 replace rc_12 := rH rc_12 hb1554
 replace rd_13 := rH rd_13 hb1554
 go_simp
 go_at_call 45
 refine (j_shared _ A1 B1 C1 D1 ra_4.out rb_5.out rc_12.out rd_13.out).mono ?_
 rintro e w1555 ⟨rfl, hb1556⟩
 dsimp only
 replace hb1556 := Lib.hid hb1556
 replace ba_6 := kH ba_6 hb1556
 replace bb_14 := kH bb_14 hb1556
 refine hK.out _ _ ⟨ba_6.out, bb_14.out⟩ (fun _ => ?_); clear hK K
 try simp only [Act.put, qsA, qsZ, qsS]
 refine' twH 4 ⟨ba_6.out, bb_14.out⟩ ?_
 refine' twH 5 ⟨ba_6.out, bb_14.out⟩ ?_
 refine' twH 6 ⟨ba_6.out, bb_14.out⟩ ?_
 refine' twH 7 ⟨ba_6.out, bb_14.out⟩ ?_
 try simp only [Act.put, qsA, qsZ, qsS]
 refine' twH 8 ⟨ba_6.out, bb_14.out⟩ ?_
 refine' twH 9 ⟨ba_6.out, bb_14.out⟩ ?_
 refine' twH 10 ⟨ba_6.out, bb_14.out⟩ ?_
 try simp only [Act.put, qsA, qsZ, qsS]
 refine wpAnyH_done (by kernel_rfl) ?_ _
 obtain ⟨z_3015, z_3016, z_3017⟩ := at3 ba_6
 obtain ⟨z_3018, z_3019, z_3020⟩ := at3 bb_14
 replace ra_4 := rH ra_4 hb1556
 replace rb_5 := rH rb_5 hb1556
 replace rc_12 := rH rc_12 hb1556
 replace rd_13 := rH rd_13 hb1556
 have hc := j_max _ A1 B1 C1 D1 ra_4.out rb_5.out rc_12.out rd_13.out
 have HC := Lib.hid hc; clear hc
 go_wp2_with fail
 refine HC.out.mono ?_
 rintro e w_3021 ⟨EM, cm, rfl, rM, hb⟩
 clear HC
 clear z_3015 z_3016 z_3017 z_3018 z_3019 z_3020
 have hb_3022 := Lib.hid hb
 clear hb
 have rm_3023 := Lib.hid (rM)
 clear rM
 replace ba_6 := kH ba_6 hb_3022
 obtain ⟨z_3024, z_3025, z_3026⟩ := at3 ba_6
 replace bb_14 := kH bb_14 hb_3022
 obtain ⟨z_3027, z_3028, z_3029⟩ := at3 bb_14
 replace ra_4 := rH ra_4 hb_3022
 replace rb_5 := rH rb_5 hb_3022
 replace rc_12 := rH rc_12 hb_3022
 replace rd_13 := rH rd_13 hb_3022
 have hc := j_long _ A1 B1 C1 D1 ra_4.out rb_5.out rc_12.out rd_13.out
 have HC := Lib.hid hc; clear hc
 go_wp2_with fail
 refine HC.out.mono ?_
 rintro e w_3030 ⟨rfl, hb⟩
 clear HC
 clear z_3024 z_3025 z_3026 z_3027 z_3028 z_3029
 have hb_3031 := Lib.hid hb
 clear hb
 replace ba_6 := kH ba_6 hb_3031
 obtain ⟨z_3032, z_3033, z_3034⟩ := at3 ba_6
 replace bb_14 := kH bb_14 hb_3031
 obtain ⟨z_3035, z_3036, z_3037⟩ := at3 bb_14
 replace rc_12 := rH rc_12 hb_3031
 replace rd_13 := rH rd_13 hb_3031
 have hc := j_with _ C1 D1 rc_12.out rd_13.out
 have HC := Lib.hid hc; clear hc
 go_wp2_with fail
 refine HC.out.mono ?_
 rintro e w_3038 ⟨EW_, kw, GW_, lw, rfl, rE, rG, hb⟩
 clear HC
 clear z_3032 z_3033 z_3034 z_3035 z_3036 z_3037
 have hb_3039 := Lib.hid hb
 clear hb
 have re_3040 := Lib.hid (rE)
 clear rE
 have rg_3041 := Lib.hid (rG)
 clear rG
 obtain ⟨o_, ho_⟩ : ∃ o, o = ((.cells #[.int .i64 3, .slice EW_ 6 kw, .slice GW_ 5 lw] 24) : Obj) := ⟨_, rfl⟩
 replace bel_1 := bA (bH (bH (bH (bH (bH bel_1 hb1554) hb1556) hb_3022) hb_3031) hb_3039) o_
 replace ra_4 := rA (rH (rH ra_4 hb_3031) hb_3039) o_
 replace rb_5 := rA (rH (rH rb_5 hb_3031) hb_3039) o_
 replace ba_6 := kA (kH ba_6 hb_3039) o_
 replace rc_12 := rA (rH rc_12 hb_3039) o_
 replace rd_13 := rA (rH rd_13 hb_3039) o_
 replace bb_14 := kA (kH bb_14 hb_3039) o_
 replace rm_3023 := rA (rH (rH rm_3023 hb_3031) hb_3039) o_
 replace re_3040 := rA re_3040 o_
 replace rg_3041 := rA rg_3041 o_
 subst ho_
 have bc_3042 := Lib.hid (Blk.new w_3038 24 #[.int .i64 3, .slice EW_ 6 kw, .slice GW_ 5 lw])
 obtain ⟨z_3043, z_3044, z_3045⟩ := at3 ba_6
 obtain ⟨z_3046, z_3047, z_3048⟩ := at3 bb_14
 obtain ⟨z_3049, z_3050, z_3051⟩ := at3 bc_3042
 go_upto_region 9 with fail
 clear z_3043 z_3044 z_3045 z_3046 z_3047 z_3048 z_3049 z_3050 z_3051
 obtain ⟨W_3052, hW⟩ : ∃ w', w' = (w_3038.alloc (.cells #[.int .i64 3, .slice EW_ 6 kw, .slice GW_ 5 lw] 24)) := ⟨_, rfl⟩
 rw [← hW] at bel_1 ra_4 rb_5 ba_6 rc_12 rd_13 bb_14 rm_3023 re_3040 rg_3041 bc_3042
 rw [← hW]
 clear hW
 go_cut [16, 17, 18] from 65 to 171 (fun s16 s17 s18 wx => ∃ (gF : Nat) (I : Option Addr) (ci : Nat), s16 = .pointer (some ⟨gF, 0, none⟩) ∧ s17 = .bool true ∧ s18 = .int .i64 0 ∧ Blk wx gF 33 #[.bool true, .slice I 2 ci] ∧ Blk wx (w_2.heap.size) 24 #[.int .i64 3, .slice A1 6 6, .slice B1 4 4] ∧ Blk wx (w_10.heap.size) 24 #[.int .i64 3, .slice C1 6 6, .slice D1 4 4] ∧ RdB wx A1 6 6 fW ∧ RdB wx B1 4 4 fT ∧ RdB wx C1 6 6 sW ∧ RdB wx D1 4 4 sT ∧ RdB wx EM 1 cm ([⟨0, 2, 0, 2⟩].map pB) ∧ Below w.heap.size w wx)
 case first =>
  have ba_3001 := Lib.hid (ba_6.out)
  have bc_3002 := Lib.hid (bc_3042.out)
  have bel_3003 := Lib.hid (Below.refl W_3052.heap.size W_3052)
  replace ba_3001 := kD ba_3001
  replace bc_3002 := kD bc_3002
  replace bel_3003 := bD bel_3003
  refine wp_region_held_drew (S := (fun W' => Blk W' (w_2.heap.size) 24 #[.int .i64 3, .slice A1 6 6, .slice B1 4 4] ∧ Blk W' (w_3038.heap.size) 24 #[.int .i64 3, .slice EW_ 6 kw, .slice GW_ 5 lw])) (by kernel_rfl) ⟨ba_3001.out, bc_3002.out⟩ (fun _ => ?_)
  obtain ⟨w1564, hw1565⟩ : ∃ w', w' = (W_3052.drew) := ⟨_, rfl⟩
  rw [← hw1565] at ba_3001 bc_3002 bel_3003
  rw [← hw1565]
  clear hw1565
  refine' tkH 0 ⟨ba_3001.out, bc_3002.out⟩ ?hyR1566 ?_
  case hyR1566 => (rintro W' ⟨hS0, hS1⟩; have hc0 := Blk.nth hS0 0; have hc1 := Blk.nth hS0 1; have hc2 := Blk.nth hS0 2; clear hS0 hS1; go_simp; try with_reducible rfl)
  refine' tkH 1 ⟨ba_3001.out, bc_3002.out⟩ ?hyR1567 ?_
  case hyR1567 => (rintro W' ⟨hS0, hS1⟩; have hc0 := Blk.nth hS1 0; have hc1 := Blk.nth hS1 1; have hc2 := Blk.nth hS1 2; clear hS0 hS1; go_simp; try with_reducible rfl)
  try simp only [Act.put, qsA, qsZ, qsS]
  refine wpAnyH_ready (rs := [2, 8]) (by kernel_rfl) (by simp) ?_
  refine rdH rfl (fun K hK => ?_) ?_
  · -- 2: call
   go_simp
   go_at_call 58
   refine (of_any 0 2 0 2 _).mono ?_
   rintro e w1568 ⟨rfl, hb1569⟩
   dsimp only
   replace hb1569 := Lib.hid hb1569
   replace ba_3001 := kH ba_3001 hb1569
   replace bc_3002 := kH bc_3002 hb1569
   refine hK.out _ _ ⟨ba_3001.out, bc_3002.out⟩ (fun _ => ?_); clear hK K
   try simp only [Act.put, qsA, qsZ, qsS]
   refine wpAnyH_ready (rs := [3, 8]) (by kernel_rfl) (by simp) ?_
   refine rdH rfl (fun K hK => ?_) ?_
   · -- 3: call
    replace bel_3003 := bH bel_3003 hb1569
    go_simp
    go_at_call 33
    refine (j_clash _ A1 B1 (RdB.below ra_4.out bel_3003.out) (RdB.below rb_5.out bel_3003.out) EW_ kw GW_ lw (RdB.below re_3040.out bel_3003.out) (RdB.below rg_3041.out bel_3003.out)).mono ?_
    rintro e w1570 ⟨IC, cc, rfl, hb1571⟩
    dsimp only
    replace hb1571 := Lib.hid hb1571
    replace ba_3001 := kH ba_3001 hb1571
    replace bc_3002 := kH bc_3002 hb1571
    refine hK.out _ _ ⟨ba_3001.out, bc_3002.out⟩ (fun _ => ?_); clear hK K
    try simp only [Act.put, qsA, qsZ, qsS]
    refine' twH 4 ⟨ba_3001.out, bc_3002.out⟩ ?_
    refine' twH 5 ⟨ba_3001.out, bc_3002.out⟩ ?_
    refine' twH 6 ⟨ba_3001.out, bc_3002.out⟩ ?_
    refine' twH 7 ⟨ba_3001.out, bc_3002.out⟩ ?_
    try simp only [Act.put, qsA, qsZ, qsS]
    refine oneH 8 rfl fun K hK => ?_
    replace bel_3003 := bH bel_3003 hb1571
    go_simp
    have ne1580 := Lib.hid (Nat.ne_of_lt (Blk.lt ba_3001.out))
    have ne1581 := Lib.hid (Nat.ne_of_lt (Blk.lt bc_3002.out))
    have lb1582 := Lib.hid (bel_3003.out.size)
    obtain ⟨o_, ho_⟩ : ∃ o, o = (.cells #[.bool false, .slice none 0 0] 33 : Obj) := ⟨_, rfl⟩
    replace ba_3001 := kA ba_3001 o_
    replace bc_3002 := kA bc_3002 o_
    replace bel_3003 := bA bel_3003 o_
    subst ho_
    have bf_1583 := Lib.hid (Blk.new (w1570) 33 #[.bool false, .slice none 0 0])
    obtain ⟨g1576, hg1577⟩ : ∃ g, g = (w1570).heap.size := ⟨_, rfl⟩
    obtain ⟨w1578, hw1579⟩ : ∃ w', w' = (w1570).alloc (.cells #[.bool false, .slice none 0 0] 33) := ⟨_, rfl⟩
    rw [← hw1579] at ba_3001 bc_3002 bel_3003 bf_1583
    rw [← hg1577] at ne1580 ne1581 lb1582 bf_1583
    rw [← hg1577, ← hw1579]
    clear hg1577 hw1579
    refine hK.out _ _ ⟨ba_3001.out, bc_3002.out⟩ (fun _ => ?_); clear hK K
    try simp only [Act.put, qsA, qsZ, qsS]
    refine oneH 9 rfl fun K hK => ?_
    have v1584 : (w1578).cell? ⟨g1576, 0, none⟩ = some (.bool false) := Blk.cell (bf_1583.out) 0
    have f1585 : (w1578).frozen? ⟨g1576, 0, none⟩ = false := Blk.frozen (bf_1583.out) 0
    have v1586 : (w1578).cell? ⟨g1576, 1, none⟩ = some (.slice none 0 0) := Blk.cell (bf_1583.out) 1
    have f1587 : (w1578).frozen? ⟨g1576, 1, none⟩ = false := Blk.frozen (bf_1583.out) 1
    have hlt_ := Blk.lt (bf_1583.out)
    go_simp
    have k1588 := Lib.hid (Blk.far (Blk.far (ba_3001.out) (p := ⟨g1576, 0, none⟩) (ne1580.out) (.bool true)) (p := ⟨g1576, 1, none⟩) (ne1580.out) (.slice IC 2 cc))
    have k1589 := Lib.hid (Blk.far (Blk.far (bc_3002.out) (p := ⟨g1576, 0, none⟩) (ne1581.out) (.bool true)) (p := ⟨g1576, 1, none⟩) (ne1581.out) (.slice IC 2 cc))
    have k1590 := Lib.hid (Below.setCell (Below.setCell (bel_3003.out) (p := ⟨g1576, 0, none⟩) (lb1582.out) (.bool true)) (p := ⟨g1576, 1, none⟩) (lb1582.out) (.slice IC 2 cc))
    have k1591 := Lib.hid (Blk.set_ (Blk.set_ (bf_1583.out) 0 (.bool true)) 1 (.slice IC 2 cc))
    obtain ⟨w1592, hw1593⟩ : ∃ w', w' = (((w1578).setCell ⟨g1576, 0, none⟩ (.bool true)).setCell ⟨g1576, 1, none⟩ (.slice IC 2 cc)) := ⟨_, rfl⟩
    rw [← hw1593] at k1588 k1589 k1590 k1591
    rw [← hw1593]
    clear hw1593 v1584 f1585 v1586 f1587 hlt_
    refine hK.out _ _ ⟨k1588.out, k1589.out⟩ (fun _ => ?_); clear hK K
    try simp only [Act.put, qsA, qsZ, qsS]
    refine' twH 10 ⟨k1588.out, k1589.out⟩ ?_
    refine' twH 11 ⟨k1588.out, k1589.out⟩ ?_
    try simp only [Act.put, qsA, qsZ, qsS]
    refine wpAnyH_done (by kernel_rfl) ?_ _
    go_wp2
    go_meet
    exact ⟨_, _, _, rfl, rfl, rfl, k1591.out, Blk.keep ba_6.out k1590.out, Blk.keep bb_14.out k1590.out, RdB.below ra_4.out k1590.out, RdB.below rb_5.out k1590.out, RdB.below rc_12.out k1590.out, RdB.below rd_13.out k1590.out, RdB.below rm_3023.out k1590.out, Below.trans bel_1.out (Below.mono k1590.out (bel_1.out.size))⟩
   refine rdH rfl (fun K hK => ?_) ?_
   · -- 8: alloc
    replace bel_3003 := bH bel_3003 hb1569
    go_simp
    have ne1600 := Lib.hid (Nat.ne_of_lt (Blk.lt ba_3001.out))
    have ne1601 := Lib.hid (Nat.ne_of_lt (Blk.lt bc_3002.out))
    have lb1602 := Lib.hid (bel_3003.out.size)
    obtain ⟨o_, ho_⟩ : ∃ o, o = (.cells #[.bool false, .slice none 0 0] 33 : Obj) := ⟨_, rfl⟩
    replace ba_3001 := kA ba_3001 o_
    replace bc_3002 := kA bc_3002 o_
    replace bel_3003 := bA bel_3003 o_
    subst ho_
    have bf_1603 := Lib.hid (Blk.new (w1568) 33 #[.bool false, .slice none 0 0])
    obtain ⟨g1596, hg1597⟩ : ∃ g, g = (w1568).heap.size := ⟨_, rfl⟩
    obtain ⟨w1598, hw1599⟩ : ∃ w', w' = (w1568).alloc (.cells #[.bool false, .slice none 0 0] 33) := ⟨_, rfl⟩
    rw [← hw1599] at ba_3001 bc_3002 bel_3003 bf_1603
    rw [← hg1597] at ne1600 ne1601 lb1602 bf_1603
    rw [← hg1597, ← hw1599]
    clear hg1597 hw1599
    refine hK.out _ _ ⟨ba_3001.out, bc_3002.out⟩ (fun _ => ?_); clear hK K
    try simp only [Act.put, qsA, qsZ, qsS]
    refine oneH 3 rfl fun K hK => ?_
    go_simp
    go_at_call 33
    refine (j_clash _ A1 B1 (RdB.below ra_4.out bel_3003.out) (RdB.below rb_5.out bel_3003.out) EW_ kw GW_ lw (RdB.below re_3040.out bel_3003.out) (RdB.below rg_3041.out bel_3003.out)).mono ?_
    rintro e w1604 ⟨IC, cc, rfl, hb1605⟩
    dsimp only
    replace hb1605 := Lib.hid hb1605
    replace ba_3001 := kH ba_3001 hb1605
    replace bc_3002 := kH bc_3002 hb1605
    refine hK.out _ _ ⟨ba_3001.out, bc_3002.out⟩ (fun _ => ?_); clear hK K
    try simp only [Act.put, qsA, qsZ, qsS]
    refine' twH 4 ⟨ba_3001.out, bc_3002.out⟩ ?_
    refine' twH 5 ⟨ba_3001.out, bc_3002.out⟩ ?_
    refine' twH 6 ⟨ba_3001.out, bc_3002.out⟩ ?_
    refine' twH 7 ⟨ba_3001.out, bc_3002.out⟩ ?_
    try simp only [Act.put, qsA, qsZ, qsS]
    refine oneH 9 rfl fun K hK => ?_
    replace bf_1603 := kH bf_1603 hb1605
    replace bel_3003 := bH bel_3003 hb1605
    have v1610 : (w1604).cell? ⟨g1596, 0, none⟩ = some (.bool false) := Blk.cell (bf_1603.out) 0
    have f1611 : (w1604).frozen? ⟨g1596, 0, none⟩ = false := Blk.frozen (bf_1603.out) 0
    have v1612 : (w1604).cell? ⟨g1596, 1, none⟩ = some (.slice none 0 0) := Blk.cell (bf_1603.out) 1
    have f1613 : (w1604).frozen? ⟨g1596, 1, none⟩ = false := Blk.frozen (bf_1603.out) 1
    have hlt_ := Blk.lt (bf_1603.out)
    go_simp
    have k1614 := Lib.hid (Blk.far (Blk.far (ba_3001.out) (p := ⟨g1596, 0, none⟩) (ne1600.out) (.bool true)) (p := ⟨g1596, 1, none⟩) (ne1600.out) (.slice IC 2 cc))
    have k1615 := Lib.hid (Blk.far (Blk.far (bc_3002.out) (p := ⟨g1596, 0, none⟩) (ne1601.out) (.bool true)) (p := ⟨g1596, 1, none⟩) (ne1601.out) (.slice IC 2 cc))
    have k1616 := Lib.hid (Below.setCell (Below.setCell (bel_3003.out) (p := ⟨g1596, 0, none⟩) (lb1602.out) (.bool true)) (p := ⟨g1596, 1, none⟩) (lb1602.out) (.slice IC 2 cc))
    have k1617 := Lib.hid (Blk.set_ (Blk.set_ (bf_1603.out) 0 (.bool true)) 1 (.slice IC 2 cc))
    obtain ⟨w1618, hw1619⟩ : ∃ w', w' = (((w1604).setCell ⟨g1596, 0, none⟩ (.bool true)).setCell ⟨g1596, 1, none⟩ (.slice IC 2 cc)) := ⟨_, rfl⟩
    rw [← hw1619] at k1614 k1615 k1616 k1617
    rw [← hw1619]
    clear hw1619 v1610 f1611 v1612 f1613 hlt_
    refine hK.out _ _ ⟨k1614.out, k1615.out⟩ (fun _ => ?_); clear hK K
    try simp only [Act.put, qsA, qsZ, qsS]
    refine' twH 10 ⟨k1614.out, k1615.out⟩ ?_
    refine' twH 11 ⟨k1614.out, k1615.out⟩ ?_
    try simp only [Act.put, qsA, qsZ, qsS]
    refine wpAnyH_done (by kernel_rfl) ?_ _
    go_wp2
    go_meet
    exact ⟨_, _, _, rfl, rfl, rfl, k1617.out, Blk.keep ba_6.out k1616.out, Blk.keep bb_14.out k1616.out, RdB.below ra_4.out k1616.out, RdB.below rb_5.out k1616.out, RdB.below rc_12.out k1616.out, RdB.below rd_13.out k1616.out, RdB.below rm_3023.out k1616.out, Below.trans bel_1.out (Below.mono k1616.out (bel_1.out.size))⟩
   exact AllReadyH.nil
  refine rdH rfl (fun K hK => ?_) ?_
  · -- 8: alloc
   go_simp
   have ne1626 := Lib.hid (Nat.ne_of_lt (Blk.lt ba_3001.out))
   have ne1627 := Lib.hid (Nat.ne_of_lt (Blk.lt bc_3002.out))
   have lb1628 := Lib.hid (bel_3003.out.size)
   obtain ⟨o_, ho_⟩ : ∃ o, o = (.cells #[.bool false, .slice none 0 0] 33 : Obj) := ⟨_, rfl⟩
   replace ba_3001 := kA ba_3001 o_
   replace bc_3002 := kA bc_3002 o_
   replace bel_3003 := bA bel_3003 o_
   subst ho_
   have bf_1629 := Lib.hid (Blk.new (w1564) 33 #[.bool false, .slice none 0 0])
   obtain ⟨g1622, hg1623⟩ : ∃ g, g = (w1564).heap.size := ⟨_, rfl⟩
   obtain ⟨w1624, hw1625⟩ : ∃ w', w' = (w1564).alloc (.cells #[.bool false, .slice none 0 0] 33) := ⟨_, rfl⟩
   rw [← hw1625] at ba_3001 bc_3002 bel_3003 bf_1629
   rw [← hg1623] at ne1626 ne1627 lb1628 bf_1629
   rw [← hg1623, ← hw1625]
   clear hg1623 hw1625
   refine hK.out _ _ ⟨ba_3001.out, bc_3002.out⟩ (fun _ => ?_); clear hK K
   try simp only [Act.put, qsA, qsZ, qsS]
   refine oneH 2 rfl fun K hK => ?_
   go_simp
   go_at_call 58
   refine (of_any 0 2 0 2 _).mono ?_
   rintro e w1630 ⟨rfl, hb1631⟩
   dsimp only
   replace hb1631 := Lib.hid hb1631
   replace ba_3001 := kH ba_3001 hb1631
   replace bc_3002 := kH bc_3002 hb1631
   refine hK.out _ _ ⟨ba_3001.out, bc_3002.out⟩ (fun _ => ?_); clear hK K
   try simp only [Act.put, qsA, qsZ, qsS]
   refine oneH 3 rfl fun K hK => ?_
   replace bel_3003 := bH bel_3003 hb1631
   go_simp
   go_at_call 33
   refine (j_clash _ A1 B1 (RdB.below ra_4.out bel_3003.out) (RdB.below rb_5.out bel_3003.out) EW_ kw GW_ lw (RdB.below re_3040.out bel_3003.out) (RdB.below rg_3041.out bel_3003.out)).mono ?_
   rintro e w1632 ⟨IC, cc, rfl, hb1633⟩
   dsimp only
   replace hb1633 := Lib.hid hb1633
   replace ba_3001 := kH ba_3001 hb1633
   replace bc_3002 := kH bc_3002 hb1633
   refine hK.out _ _ ⟨ba_3001.out, bc_3002.out⟩ (fun _ => ?_); clear hK K
   try simp only [Act.put, qsA, qsZ, qsS]
   refine' twH 4 ⟨ba_3001.out, bc_3002.out⟩ ?_
   refine' twH 5 ⟨ba_3001.out, bc_3002.out⟩ ?_
   refine' twH 6 ⟨ba_3001.out, bc_3002.out⟩ ?_
   refine' twH 7 ⟨ba_3001.out, bc_3002.out⟩ ?_
   try simp only [Act.put, qsA, qsZ, qsS]
   refine oneH 9 rfl fun K hK => ?_
   replace bf_1629 := kH (kH bf_1629 hb1631) hb1633
   replace bel_3003 := bH bel_3003 hb1633
   have v1638 : (w1632).cell? ⟨g1622, 0, none⟩ = some (.bool false) := Blk.cell (bf_1629.out) 0
   have f1639 : (w1632).frozen? ⟨g1622, 0, none⟩ = false := Blk.frozen (bf_1629.out) 0
   have v1640 : (w1632).cell? ⟨g1622, 1, none⟩ = some (.slice none 0 0) := Blk.cell (bf_1629.out) 1
   have f1641 : (w1632).frozen? ⟨g1622, 1, none⟩ = false := Blk.frozen (bf_1629.out) 1
   have hlt_ := Blk.lt (bf_1629.out)
   go_simp
   have k1642 := Lib.hid (Blk.far (Blk.far (ba_3001.out) (p := ⟨g1622, 0, none⟩) (ne1626.out) (.bool true)) (p := ⟨g1622, 1, none⟩) (ne1626.out) (.slice IC 2 cc))
   have k1643 := Lib.hid (Blk.far (Blk.far (bc_3002.out) (p := ⟨g1622, 0, none⟩) (ne1627.out) (.bool true)) (p := ⟨g1622, 1, none⟩) (ne1627.out) (.slice IC 2 cc))
   have k1644 := Lib.hid (Below.setCell (Below.setCell (bel_3003.out) (p := ⟨g1622, 0, none⟩) (lb1628.out) (.bool true)) (p := ⟨g1622, 1, none⟩) (lb1628.out) (.slice IC 2 cc))
   have k1645 := Lib.hid (Blk.set_ (Blk.set_ (bf_1629.out) 0 (.bool true)) 1 (.slice IC 2 cc))
   obtain ⟨w1646, hw1647⟩ : ∃ w', w' = (((w1632).setCell ⟨g1622, 0, none⟩ (.bool true)).setCell ⟨g1622, 1, none⟩ (.slice IC 2 cc)) := ⟨_, rfl⟩
   rw [← hw1647] at k1642 k1643 k1644 k1645
   rw [← hw1647]
   clear hw1647 v1638 f1639 v1640 f1641 hlt_
   refine hK.out _ _ ⟨k1642.out, k1643.out⟩ (fun _ => ?_); clear hK K
   try simp only [Act.put, qsA, qsZ, qsS]
   refine' twH 10 ⟨k1642.out, k1643.out⟩ ?_
   refine' twH 11 ⟨k1642.out, k1643.out⟩ ?_
   try simp only [Act.put, qsA, qsZ, qsS]
   refine wpAnyH_done (by kernel_rfl) ?_ _
   go_wp2
   go_meet
   exact ⟨_, _, _, rfl, rfl, rfl, k1645.out, Blk.keep ba_6.out k1644.out, Blk.keep bb_14.out k1644.out, RdB.below ra_4.out k1644.out, RdB.below rb_5.out k1644.out, RdB.below rc_12.out k1644.out, RdB.below rd_13.out k1644.out, RdB.below rm_3023.out k1644.out, Below.trans bel_1.out (Below.mono k1644.out (bel_1.out.size))⟩
  exact AllReadyH.nil
 case rest =>
  obtain ⟨gF, I, ci, rfl, rfl, rfl, kf, kba, kbb, kra, krb, krc, krd, krm, kbel⟩ := hcut
  have HJ0 := Lib.hid (And.intro kf (And.intro kba (And.intro kbb (And.intro kra (And.intro krb (And.intro krc (And.intro krd (And.intro krm kbel))))))))
  clear bel_1 ra_4 rb_5 ba_6 rc_12 rd_13 bb_14 rm_3023 re_3040 rg_3041 bc_3042 kf kba kbb kra krb krc krd krm kbel
  go_upto_region 10 with fail
  go_cut [19, 20] from 73 to 171 (fun s19 s20 wx => s19 = .bool true ∧ s20 = .int .i64 0 ∧ Blk wx gF 33 #[.bool true, .slice I 2 ci] ∧ Blk wx (w_2.heap.size) 24 #[.int .i64 3, .slice A1 6 6, .slice B1 4 4] ∧ Blk wx (w_10.heap.size) 24 #[.int .i64 3, .slice C1 6 6, .slice D1 4 4] ∧ RdB wx A1 6 6 fW ∧ RdB wx B1 4 4 fT ∧ RdB wx C1 6 6 sW ∧ RdB wx D1 4 4 sT ∧ RdB wx EM 1 cm ([⟨0, 2, 0, 2⟩].map pB) ∧ Below w.heap.size w wx)
  case first =>
   refine wp_region_held_drew (S := fun wx => Blk wx gF 33 #[.bool true, .slice I 2 ci] ∧ Blk wx (w_2.heap.size) 24 #[.int .i64 3, .slice A1 6 6, .slice B1 4 4] ∧ Blk wx (w_10.heap.size) 24 #[.int .i64 3, .slice C1 6 6, .slice D1 4 4] ∧ RdB wx A1 6 6 fW ∧ RdB wx B1 4 4 fT ∧ RdB wx C1 6 6 sW ∧ RdB wx D1 4 4 sT ∧ RdB wx EM 1 cm ([⟨0, 2, 0, 2⟩].map pB) ∧ Below w.heap.size w wx) (by kernel_rfl) ?_ (fun hj => ?_)
   · obtain ⟨kf, kba, kbb, kra, krb, krc, krd, krm, kbel⟩ := HJ0.out
     exact ⟨kf.drew, kba.drew, kbb.drew, kra.drew, krb.drew, krc.drew, krd.drew, krm.drew, kbel.drew⟩
   · refine joined_r10 A1 B1 C1 D1 (fun wx => Blk wx gF 33 #[.bool true, .slice I 2 ci] ∧ Blk wx (w_2.heap.size) 24 #[.int .i64 3, .slice A1 6 6, .slice B1 4 4] ∧ Blk wx (w_10.heap.size) 24 #[.int .i64 3, .slice C1 6 6, .slice D1 4 4] ∧ RdB wx A1 6 6 fW ∧ RdB wx B1 4 4 fT ∧ RdB wx C1 6 6 sW ∧ RdB wx D1 4 4 sT ∧ RdB wx EM 1 cm ([⟨0, 2, 0, 2⟩].map pB) ∧ Below w.heap.size w wx) ?_ ?_ ?_ ?_ ?_ _ hj
     · rintro W o ⟨kf, kba, kbb, kra, krb, krc, krd, krm, kbel⟩
       exact ⟨kf.alloc o, kba.alloc o, kbb.alloc o, kra.alloc o, krb.alloc o, krc.alloc o, krd.alloc o, krm.alloc o, kbel.alloc kbel.size o⟩
     · rintro W W' ⟨kf, kba, kbb, kra, krb, krc, krd, krm, kbel⟩ hb
       exact ⟨kf.keep hb, kba.keep hb, kbb.keep hb, kra.below hb, krb.below hb, krc.below hb, krd.below hb, krm.below hb, kbel.trans (hb.mono kbel.size)⟩
     · rintro W ⟨kf, kba, kbb, kra, krb, krc, krd, krm, kbel⟩
       exact ⟨kba, kbb, kra, krb, krc, krd⟩
     · exact fun _ _ _ _ _ h => h
     · intro u73 u74 u75 u76 u77 u78 u79 u80 u81 u82 u83 u84 W hj
       clear HJ0
       have HJ := Lib.hid hj; clear hj
       go_wp2
       go_meet
       exact ⟨rfl, rfl, HJ.out⟩
  case rest =>
   obtain ⟨rfl, rfl, kf, kba, kbb, kra, krb, krc, krd, krm, kbel⟩ := hcut
   clear HJ0
   obtain ⟨wd, hwd⟩ : ∃ x, x = wc := ⟨_, rfl⟩
   rw [← hwd] at kf kba kbb kra krb krc krd krm kbel ⊢
   clear hwd
   have bf_6001 := Lib.hid (kf)
   have ba_6002 := Lib.hid (kba)
   have bb_6003 := Lib.hid (kbb)
   have ra_6004 := Lib.hid (kra)
   have rb_6005 := Lib.hid (krb)
   have rc_6006 := Lib.hid (krc)
   have rd_6007 := Lib.hid (krd)
   have rm_6008 := Lib.hid (krm)
   have bel_6009 := Lib.hid (kbel)
   clear kf kba kbb kra krb krc krd krm kbel
   go_upto_region 13 with fail
   go_cut [21, 22] from 115 to 171 (fun s21 s22 wx => ∃ (X : Option Addr) (cx : Nat), s21 = .slice X 2 cx ∧ s22 = .int .i64 0 ∧ RdI wx X 2 cx [1, 6] ∧ Blk wx gF 33 #[.bool true, .slice I 2 ci] ∧ RdB wx EM 1 cm ([⟨0, 2, 0, 2⟩].map pB) ∧ Below w.heap.size w wx)
   case first =>
    replace bf_6001 := kD bf_6001
    replace ba_6002 := kD ba_6002
    replace bb_6003 := kD bb_6003
    replace ra_6004 := rD ra_6004
    replace rb_6005 := rD rb_6005
    replace rc_6006 := rD rc_6006
    replace rd_6007 := rD rd_6007
    replace rm_6008 := rD rm_6008
    replace bel_6009 := bD bel_6009
    refine wp_region_held_drew (S := (fun W' => Blk W' (w_2.heap.size) 24 #[.int .i64 3, .slice A1 6 6, .slice B1 4 4] ∧ Blk W' (w_10.heap.size) 24 #[.int .i64 3, .slice C1 6 6, .slice D1 4 4])) (by kernel_rfl) ⟨ba_6002.out, bb_6003.out⟩ (fun _ => ?_)
    obtain ⟨w1650, hw1651⟩ : ∃ w', w' = (wd.drew) := ⟨_, rfl⟩
    rw [← hw1651] at bf_6001 ba_6002 bb_6003 ra_6004 rb_6005 rc_6006 rd_6007 rm_6008 bel_6009
    rw [← hw1651]
    clear hw1651
    refine' tkH 0 ⟨ba_6002.out, bb_6003.out⟩ ?hyR1652 ?_
    case hyR1652 => (rintro W' ⟨hS0, hS1⟩; have hc0 := Blk.nth hS0 0; have hc1 := Blk.nth hS0 1; have hc2 := Blk.nth hS0 2; clear hS0 hS1; go_simp; try with_reducible rfl)
    refine' tkH 1 ⟨ba_6002.out, bb_6003.out⟩ ?hyR1653 ?_
    case hyR1653 => (rintro W' ⟨hS0, hS1⟩; have hc0 := Blk.nth hS1 0; have hc1 := Blk.nth hS1 1; have hc2 := Blk.nth hS1 2; clear hS0 hS1; go_simp; try with_reducible rfl)
    try simp only [Act.put, qsA, qsZ, qsS]
    refine wpAnyH_ready (rs := [2, 3]) (by kernel_rfl) (by simp) ?_
    refine rdH rfl (fun K hK => ?_) ?_
    · -- 2: call
     go_simp
     go_at_call 58
     refine (of_any 0 1 0 1 _).mono ?_
     rintro e w1654 ⟨rfl, hb1655⟩
     dsimp only
     replace hb1655 := Lib.hid hb1655
     replace ba_6002 := kH ba_6002 hb1655
     replace bb_6003 := kH bb_6003 hb1655
     refine hK.out _ _ ⟨ba_6002.out, bb_6003.out⟩ (fun _ => ?_); clear hK K
     try simp only [Act.put, qsA, qsZ, qsS]
     refine oneH 3 rfl fun K hK => ?_
     replace bf_6001 := kH bf_6001 hb1655
     replace ra_6004 := rH ra_6004 hb1655
     replace rb_6005 := rH rb_6005 hb1655
     replace rc_6006 := rH rc_6006 hb1655
     replace rd_6007 := rH rd_6007 hb1655
     replace rm_6008 := rH rm_6008 hb1655
     replace bel_6009 := bH bel_6009 hb1655
     go_simp
     have ne1660 := Lib.hid (Nat.ne_of_lt (Blk.lt bf_6001.out))
     have ne1661 := Lib.hid (Nat.ne_of_lt (Blk.lt ba_6002.out))
     have ne1662 := Lib.hid (Nat.ne_of_lt (Blk.lt bb_6003.out))
     have lb1663 := Lib.hid (bel_6009.out.size)
     obtain ⟨o_, ho_⟩ : ∃ o, o = (.cells #[.int .i64 0, .int .i64 7] 3 : Obj) := ⟨_, rfl⟩
     replace bf_6001 := kA bf_6001 o_
     replace ba_6002 := kA ba_6002 o_
     replace bb_6003 := kA bb_6003 o_
     replace ra_6004 := rA ra_6004 o_
     replace rb_6005 := rA rb_6005 o_
     replace rc_6006 := rA rc_6006 o_
     replace rd_6007 := rA rd_6007 o_
     replace rm_6008 := rA rm_6008 o_
     replace bel_6009 := bA bel_6009 o_
     subst ho_
     have bl_1664 := Lib.hid (Blk.new (w1654) 3 #[.int .i64 0, .int .i64 7])
     obtain ⟨g1656, hg1657⟩ : ∃ g, g = (w1654).heap.size := ⟨_, rfl⟩
     obtain ⟨w1658, hw1659⟩ : ∃ w', w' = (w1654).alloc (.cells #[.int .i64 0, .int .i64 7] 3) := ⟨_, rfl⟩
     rw [← hw1659] at bf_6001 ba_6002 bb_6003 ra_6004 rb_6005 rc_6006 rd_6007 rm_6008 bel_6009 bl_1664
     rw [← hg1657] at ne1660 ne1661 ne1662 lb1663 bl_1664
     rw [← hg1657, ← hw1659]
     clear hg1657 hw1659
     have rl_1665 := Lib.hid (rdI_blk (bl_1664.out))
     refine hK.out _ _ ⟨ba_6002.out, bb_6003.out⟩ (fun _ => ?_); clear hK K
     try simp only [Act.put, qsA, qsZ, qsS]
     refine' twH 4 ⟨ba_6002.out, bb_6003.out⟩ ?_
     try simp only [Act.put, qsA, qsZ, qsS]
     refine oneH 5 rfl fun K hK => ?_
     go_simp
     go_at_call 40
     refine (j_rests _ A1 B1 C1 D1 ra_6004.out rb_6005.out rc_6006.out rd_6007.out _ rl_1665.out).mono ?_
     rintro e w1667 ⟨XR, cr, rfl, hrx, hb1668⟩
     dsimp only
     replace hb1668 := Lib.hid hb1668
     have rx_1669 := Lib.hid (hrx)
     replace ba_6002 := kH ba_6002 hb1668
     replace bb_6003 := kH bb_6003 hb1668
     refine hK.out _ _ ⟨ba_6002.out, bb_6003.out⟩ (fun _ => ?_); clear hK K
     try simp only [Act.put, qsA, qsZ, qsS]
     refine' twH 6 ⟨ba_6002.out, bb_6003.out⟩ ?_
     refine' twH 7 ⟨ba_6002.out, bb_6003.out⟩ ?_
     refine' twH 8 ⟨ba_6002.out, bb_6003.out⟩ ?_
     refine' twH 9 ⟨ba_6002.out, bb_6003.out⟩ ?_
     try simp only [Act.put, qsA, qsZ, qsS]
     refine' twH 10 ⟨ba_6002.out, bb_6003.out⟩ ?_
     try simp only [Act.put, qsA, qsZ, qsS]
     refine wpAnyH_done (by kernel_rfl) ?_ _
     go_wp2
     go_meet
     replace bf_6001 := kH bf_6001 hb1668
     replace rm_6008 := rH rm_6008 hb1668
     replace bel_6009 := bH bel_6009 hb1668
     exact ⟨_, _, rfl, rfl, rx_1669.out, bf_6001.out, rm_6008.out, bel_6009.out⟩
    refine rdH rfl (fun K hK => ?_) ?_
    · -- 3: buildSlice
     go_simp
     have ne1679 := Lib.hid (Nat.ne_of_lt (Blk.lt bf_6001.out))
     have ne1680 := Lib.hid (Nat.ne_of_lt (Blk.lt ba_6002.out))
     have ne1681 := Lib.hid (Nat.ne_of_lt (Blk.lt bb_6003.out))
     have lb1682 := Lib.hid (bel_6009.out.size)
     obtain ⟨o_, ho_⟩ : ∃ o, o = (.cells #[.int .i64 0, .int .i64 7] 3 : Obj) := ⟨_, rfl⟩
     replace bf_6001 := kA bf_6001 o_
     replace ba_6002 := kA ba_6002 o_
     replace bb_6003 := kA bb_6003 o_
     replace ra_6004 := rA ra_6004 o_
     replace rb_6005 := rA rb_6005 o_
     replace rc_6006 := rA rc_6006 o_
     replace rd_6007 := rA rd_6007 o_
     replace rm_6008 := rA rm_6008 o_
     replace bel_6009 := bA bel_6009 o_
     subst ho_
     have bl_1683 := Lib.hid (Blk.new (w1650) 3 #[.int .i64 0, .int .i64 7])
     obtain ⟨g1675, hg1676⟩ : ∃ g, g = (w1650).heap.size := ⟨_, rfl⟩
     obtain ⟨w1677, hw1678⟩ : ∃ w', w' = (w1650).alloc (.cells #[.int .i64 0, .int .i64 7] 3) := ⟨_, rfl⟩
     rw [← hw1678] at bf_6001 ba_6002 bb_6003 ra_6004 rb_6005 rc_6006 rd_6007 rm_6008 bel_6009 bl_1683
     rw [← hg1676] at ne1679 ne1680 ne1681 lb1682 bl_1683
     rw [← hg1676, ← hw1678]
     clear hg1676 hw1678
     have rl_1684 := Lib.hid (rdI_blk (bl_1683.out))
     refine hK.out _ _ ⟨ba_6002.out, bb_6003.out⟩ (fun _ => ?_); clear hK K
     try simp only [Act.put, qsA, qsZ, qsS]
     refine' twH 4 ⟨ba_6002.out, bb_6003.out⟩ ?_
     try simp only [Act.put, qsA, qsZ, qsS]
     refine oneH 2 rfl fun K hK => ?_
     go_simp
     go_at_call 58
     refine (of_any 0 1 0 1 _).mono ?_
     rintro e w1686 ⟨rfl, hb1687⟩
     dsimp only
     replace hb1687 := Lib.hid hb1687
     replace ba_6002 := kH ba_6002 hb1687
     replace bb_6003 := kH bb_6003 hb1687
     refine hK.out _ _ ⟨ba_6002.out, bb_6003.out⟩ (fun _ => ?_); clear hK K
     try simp only [Act.put, qsA, qsZ, qsS]
     refine oneH 5 rfl fun K hK => ?_
     replace ra_6004 := rH ra_6004 hb1687
     replace rb_6005 := rH rb_6005 hb1687
     replace rc_6006 := rH rc_6006 hb1687
     replace rd_6007 := rH rd_6007 hb1687
     replace rl_1684 := iH rl_1684 hb1687
     go_simp
     go_at_call 40
     refine (j_rests _ A1 B1 C1 D1 ra_6004.out rb_6005.out rc_6006.out rd_6007.out _ rl_1684.out).mono ?_
     rintro e w1688 ⟨XR, cr, rfl, hrx, hb1689⟩
     dsimp only
     replace hb1689 := Lib.hid hb1689
     have rx_1690 := Lib.hid (hrx)
     replace ba_6002 := kH ba_6002 hb1689
     replace bb_6003 := kH bb_6003 hb1689
     refine hK.out _ _ ⟨ba_6002.out, bb_6003.out⟩ (fun _ => ?_); clear hK K
     try simp only [Act.put, qsA, qsZ, qsS]
     refine' twH 6 ⟨ba_6002.out, bb_6003.out⟩ ?_
     refine' twH 7 ⟨ba_6002.out, bb_6003.out⟩ ?_
     refine' twH 8 ⟨ba_6002.out, bb_6003.out⟩ ?_
     refine' twH 9 ⟨ba_6002.out, bb_6003.out⟩ ?_
     try simp only [Act.put, qsA, qsZ, qsS]
     refine' twH 10 ⟨ba_6002.out, bb_6003.out⟩ ?_
     try simp only [Act.put, qsA, qsZ, qsS]
     refine wpAnyH_done (by kernel_rfl) ?_ _
     go_wp2
     go_meet
     replace bf_6001 := kH (kH bf_6001 hb1687) hb1689
     replace rm_6008 := rH (rH rm_6008 hb1687) hb1689
     replace bel_6009 := bH (bH bel_6009 hb1687) hb1689
     exact ⟨_, _, rfl, rfl, rx_1690.out, bf_6001.out, rm_6008.out, bel_6009.out⟩
    exact AllReadyH.nil
   case rest =>
    obtain ⟨X, cx, rfl, rfl, krx, kf, krm, kbel⟩ := hcut
    clear bf_6001 ba_6002 bb_6003 ra_6004 rb_6005 rc_6006 rd_6007 rm_6008 bel_6009
    obtain ⟨we, hwe⟩ : ∃ x, x = wc := ⟨_, rfl⟩
    rw [← hwe] at krx kf krm kbel ⊢
    clear hwe
    have bf_9001 := Lib.hid (kf)
    have rx_9002 := Lib.hid (krx)
    have rm_9003 := Lib.hid (krm)
    have bel_9004 := Lib.hid (kbel)
    clear kf krx krm kbel
    obtain ⟨z_9005, z_9006⟩ := at2 bf_9001
    have hc := of_any 0 2 0 2 (we)
    have HC := Lib.hid hc; clear hc
    go_wp2_with fail
    refine HC.out.mono ?_
    rintro e w_9007 ⟨rfl, hb⟩
    clear HC
    clear z_9005 z_9006
    have hb_9008 := Lib.hid hb
    clear hb
    obtain ⟨o_, ho_⟩ : ∃ o, o = ((.cells #[.int .i64 0, .int .i64 2, .int .i64 0, .int .i64 2] 28) : Obj) := ⟨_, rfl⟩
    replace bf_9001 := kA (kH bf_9001 hb_9008) o_
    replace rx_9002 := iA (iH rx_9002 hb_9008) o_
    replace rm_9003 := rA (rH rm_9003 hb_9008) o_
    replace bel_9004 := bA (bH bel_9004 hb_9008) o_
    subst ho_
    obtain ⟨z_9009, z_9010⟩ := at2 bf_9001
    have hc := SamePairings_any EM (some ⟨w_9007.heap.size, 0, none⟩) 1 cm 1 1 [⟨0, 2, 0, 2⟩] [⟨0, 2, 0, 2⟩] ((w_9007.alloc (.cells #[.int .i64 0, .int .i64 2, .int .i64 0, .int .i64 2] 28))) rm_9003.out (rdB_newP w_9007 ⟨0, 2, 0, 2⟩) (by unfold maxLen; omega)
    rw [decide_eq_true rfl] at hc
    try dsimp only at hc
    have HC := Lib.hid hc; clear hc
    go_wp2_with fail
    refine HC.out.mono ?_
    rintro e w_9011 ⟨rfl, hb⟩
    clear HC
    clear z_9009 z_9010
    have hb_9012 := Lib.hid hb
    clear hb
    replace bf_9001 := kH bf_9001 hb_9012
    obtain ⟨z_9013, z_9014⟩ := at2 bf_9001
    obtain ⟨o_, ho_⟩ : ∃ o, o = ((.cells #[.int .i64 1, .int .i64 6] 3) : Obj) := ⟨_, rfl⟩
    replace bf_9001 := kA bf_9001 o_
    replace rx_9002 := iA (iH rx_9002 hb_9012) o_
    replace rm_9003 := rA (rH rm_9003 hb_9012) o_
    replace bel_9004 := bA (bH bel_9004 hb_9012) o_
    subst ho_
    have hc := Same_yes2 X (some ⟨w_9011.heap.size, 0, none⟩) 2 cx 2 2 [1, 6] ((w_9011.alloc (.cells #[.int .i64 1, .int .i64 6] 3))) rx_9002.out (rdI_new w_9011 [1, 6] 2 rfl) (by unfold maxLen; omega)
    have HC := Lib.hid hc; clear hc
    go_wp2_with fail
    refine HC.out.mono ?_
    rintro e w_9015 ⟨rfl, hb⟩
    clear HC
    clear z_9013 z_9014
    have hb_9016 := Lib.hid hb
    clear hb
    replace bf_9001 := kH bf_9001 hb_9016
    obtain ⟨z_9017, z_9018⟩ := at2 bf_9001
    go_wp2
    go_ret
    replace bel_9004 := bH bel_9004 hb_9016
    exact ⟨rfl, bel_9004.out⟩
end Go.Proofs.YtaoanagmgheicaaGreat
