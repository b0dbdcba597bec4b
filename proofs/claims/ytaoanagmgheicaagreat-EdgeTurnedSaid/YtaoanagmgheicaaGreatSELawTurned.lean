import Derived.Test.YtaoanagmgheicaaGreatRows
import Derived.Test.YtaoanagmgheicaaGreatSEOpen
import Derived.Test.YtaoanagmgheicaaGreatSELawM
set_option linter.unusedSimpArgs false
set_option linter.unusedVariables false
namespace Go.Proofs.YtaoanagmgheicaaGreat
open Go.ChangeShapes Go.WideShapes Go.ChangeAt Go.RowKit
set_option maxRecDepth 100000 in
set_option maxHeartbeats 4000000 in
theorem et_w (c : Int) (A B : Option Addr) (n k m j : Nat) (ws ts : List Bnd) (d : Int) (C D : Option Addr) (n2 k2 m2 j2 : Nat) (ws2 ts2 : List Bnd) (p1 p2 p3 p4 : Int) (w : World) (h1 : RdB w A n k ws) (h2 : RdB w B m j ts) (hn : n ≤ maxLen) (hm : m ≤ maxLen) (h3 : RdB w C n2 k2 ws2) (h4 : RdB w D m2 j2 ts2) (hn2 : n2 ≤ maxLen) (hm2 : m2 ≤ maxLen) (hs : (decide (n ≤ 40) && decide (m ≤ 40) && decide (n2 ≤ 40) && decide (m2 ≤ 40)) = false) :
 Calls Tryz.prog 12 #[.agg #[.int .i64 c, .slice A n k, .slice B m j], .agg #[.int .i64 d, .slice C n2 k2, .slice D m2 j2], .agg #[.int .i64 p1, .int .i64 p2, .int .i64 p3, .int .i64 p4]] w fun e w' => e = .returned (.bool true) ∧ Below w.heap.size w w' := by
  go_enter Tryz.func12, Tryz.ntmps12
  have bel_1 := Lib.hid (show Below w.heap.size w w from Below.refl _ w)
  have ra_2 := Lib.hid (h1)
  clear h1
  have rb_3 := Lib.hid (h2)
  clear h2
  have rc_4 := Lib.hid (h3)
  clear h3
  have rd_5 := Lib.hid (h4)
  clear h4
  obtain ⟨o_, ho_⟩ : ∃ o, o = ((.cells #[.int .i64 c, .slice A n k, .slice B m j] 24) : Obj) := ⟨_, rfl⟩
  replace bel_1 := bA bel_1 o_
  replace ra_2 := rA ra_2 o_
  replace rb_3 := rA rb_3 o_
  replace rc_4 := rA rc_4 o_
  replace rd_5 := rA rd_5 o_
  subst ho_
  have ba_6 := Lib.hid (Blk.new w 24 #[.int .i64 c, .slice A n k, .slice B m j])
  obtain ⟨o_, ho_⟩ : ∃ o, o = ((.cells #[.int .i64 d, .slice C n2 k2, .slice D m2 j2] 24) : Obj) := ⟨_, rfl⟩
  replace bel_1 := bA bel_1 o_
  replace ra_2 := rA ra_2 o_
  replace rb_3 := rA rb_3 o_
  replace rc_4 := rA rc_4 o_
  replace rd_5 := rA rd_5 o_
  replace ba_6 := kA ba_6 o_
  subst ho_
  have nb_ := Blk.new (w.alloc (.cells #[.int .i64 c, .slice A n k, .slice B m j] 24)) 24 #[.int .i64 d, .slice C n2 k2, .slice D m2 j2]
  simp only [World.size_alloc] at nb_
  have bb_7 := Lib.hid nb_; clear nb_
  obtain ⟨o_, ho_⟩ : ∃ o, o = ((.cells #[.int .i64 p1, .int .i64 p2, .int .i64 p3, .int .i64 p4] 28) : Obj) := ⟨_, rfl⟩
  replace bel_1 := bA bel_1 o_
  replace ra_2 := rA ra_2 o_
  replace rb_3 := rA rb_3 o_
  replace rc_4 := rA rc_4 o_
  replace rd_5 := rA rd_5 o_
  replace ba_6 := kA ba_6 o_
  replace bb_7 := kA bb_7 o_
  subst ho_
  have nb_ := Blk.new ((w.alloc (.cells #[.int .i64 c, .slice A n k, .slice B m j] 24)).alloc (.cells #[.int .i64 d, .slice C n2 k2, .slice D m2 j2] 24)) 28 #[.int .i64 p1, .int .i64 p2, .int .i64 p3, .int .i64 p4]
  simp only [World.size_alloc] at nb_
  have bp_8 := Lib.hid nb_; clear nb_
  obtain ⟨z_9, z_10, z_11⟩ := at3 ba_6
  obtain ⟨z_12, z_13, z_14⟩ := at3 bb_7
  obtain ⟨z_15, z_16, z_17, z_18⟩ := at4 bp_8
  clear z_9 z_10 z_11 z_12 z_13 z_14 z_15 z_16 z_17 z_18
  obtain ⟨z_19, z_20, z_21⟩ := at3 ba_6
  obtain ⟨z_22, z_23, z_24⟩ := at3 bb_7
  obtain ⟨z_25, z_26, z_27, z_28⟩ := at4 bp_8
  clear z_19 z_20 z_21 z_22 z_23 z_24 z_25 z_26 z_27 z_28
  obtain ⟨o_, ho_⟩ : ∃ o, o = ((.cells #[.int .i64 c, .slice A n k, .slice B m j, .int .i64 d, .slice C n2 k2, .slice D m2 j2] 24) : Obj) := ⟨_, rfl⟩
  replace bel_1 := bA bel_1 o_
  replace ra_2 := rA ra_2 o_
  replace rb_3 := rA rb_3 o_
  replace rc_4 := rA rc_4 o_
  replace rd_5 := rA rd_5 o_
  replace ba_6 := kA ba_6 o_
  replace bb_7 := kA bb_7 o_
  replace bp_8 := kA bp_8 o_
  subst ho_
  have nb_ := Blk.new (((w.alloc (.cells #[.int .i64 c, .slice A n k, .slice B m j] 24)).alloc (.cells #[.int .i64 d, .slice C n2 k2, .slice D m2 j2] 24)).alloc (.cells #[.int .i64 p1, .int .i64 p2, .int .i64 p3, .int .i64 p4] 28)) 24 #[.int .i64 c, .slice A n k, .slice B m j, .int .i64 d, .slice C n2 k2, .slice D m2 j2]
  simp only [World.size_alloc] at nb_
  have bs_29 := Lib.hid nb_; clear nb_
  have hc := (show Calls Tryz.prog 30 #[.slice (some ⟨w.heap.size + 1 + 1 + 1, 0, none⟩) 2 2] (((((w.alloc (.cells #[.int .i64 c, .slice A n k, .slice B m j] 24)).alloc (.cells #[.int .i64 d, .slice C n2 k2, .slice D m2 j2] 24)).alloc (.cells #[.int .i64 p1, .int .i64 p2, .int .i64 p3, .int .i64 p4] 28)).alloc (.cells #[.int .i64 c, .slice A n k, .slice B m j, .int .i64 d, .slice C n2 k2, .slice D m2 j2] 24))) fun e w' => e = .returned (.bool false) ∧ Below (((((w.alloc (.cells #[.int .i64 c, .slice A n k, .slice B m j] 24)).alloc (.cells #[.int .i64 d, .slice C n2 k2, .slice D m2 j2] 24)).alloc (.cells #[.int .i64 p1, .int .i64 p2, .int .i64 p3, .int .i64 p4] 28)).alloc (.cells #[.int .i64 c, .slice A n k, .slice B m j, .int .i64 d, .slice C n2 k2, .slice D m2 j2] 24))).heap.size (((((w.alloc (.cells #[.int .i64 c, .slice A n k, .slice B m j] 24)).alloc (.cells #[.int .i64 d, .slice C n2 k2, .slice D m2 j2] 24)).alloc (.cells #[.int .i64 p1, .int .i64 p2, .int .i64 p3, .int .i64 p4] 28)).alloc (.cells #[.int .i64 c, .slice A n k, .slice B m j, .int .i64 d, .slice C n2 k2, .slice D m2 j2] 24))) w' from by have h := small3_any c A B n k m j d C D n2 k2 m2 j2 (w.heap.size + 1 + 1 + 1) (((((w.alloc (.cells #[.int .i64 c, .slice A n k, .slice B m j] 24)).alloc (.cells #[.int .i64 d, .slice C n2 k2, .slice D m2 j2] 24)).alloc (.cells #[.int .i64 p1, .int .i64 p2, .int .i64 p3, .int .i64 p4] 28)).alloc (.cells #[.int .i64 c, .slice A n k, .slice B m j, .int .i64 d, .slice C n2 k2, .slice D m2 j2] 24))) bs_29.out; rw [show (decide (n ≤ 40) && decide (m ≤ 40) && decide (n2 ≤ 40) && decide (m2 ≤ 40)) = false from hs] at h; exact h)
  have HC := Lib.hid hc; clear hc
  go_wp2_with fail
  refine HC.out.mono ?_
  rintro e w_30 ⟨rfl, hb⟩
  clear HC
  replace bel_1 := bB bel_1 hb
  replace ra_2 := rB ra_2 hb
  replace rb_3 := rB rb_3 hb
  replace rc_4 := rB rc_4 hb
  replace rd_5 := rB rd_5 hb
  replace ba_6 := kB ba_6 hb
  replace bb_7 := kB bb_7 hb
  replace bp_8 := kB bp_8 hb
  replace bs_29 := kB bs_29 hb
  clear hb
  obtain ⟨z_31, z_32, z_33⟩ := at3 ba_6
  obtain ⟨z_34, z_35, z_36⟩ := at3 bb_7
  obtain ⟨z_37, z_38, z_39, z_40⟩ := at4 bp_8
  have hc := joined_any (w_30)
  have HC := Lib.hid hc; clear hc
  go_wp2_with fail
  refine HC.out.mono ?_
  rintro e w_41 ⟨rfl, hb⟩
  clear HC
  clear z_31 z_32 z_33 z_34 z_35 z_36 z_37 z_38 z_39 z_40
  replace bel_1 := bB bel_1 hb
  replace ra_2 := rB ra_2 hb
  replace rb_3 := rB rb_3 hb
  replace rc_4 := rB rc_4 hb
  replace rd_5 := rB rd_5 hb
  replace ba_6 := kB ba_6 hb
  replace bb_7 := kB bb_7 hb
  replace bp_8 := kB bp_8 hb
  clear hb
  obtain ⟨z_42, z_43, z_44⟩ := at3 ba_6
  obtain ⟨z_45, z_46, z_47⟩ := at3 bb_7
  obtain ⟨z_48, z_49, z_50, z_51⟩ := at4 bp_8
  go_wp2
  go_ret
  exact ⟨rfl, bel_1.out⟩
set_option maxRecDepth 100000 in
set_option maxHeartbeats 4000000 in
theorem et_ok (c : Int) (A B : Option Addr) (n k m j : Nat) (ws ts : List Bnd) (d : Int) (C D : Option Addr) (n2 k2 m2 j2 : Nat) (ws2 ts2 : List Bnd) (p1 p2 p3 p4 : Int) (w : World) (h1 : RdB w A n k ws) (h2 : RdB w B m j ts) (hn : n ≤ maxLen) (hm : m ≤ maxLen) (h3 : RdB w C n2 k2 ws2) (h4 : RdB w D m2 j2 ts2) (hn2 : n2 ≤ maxLen) (hm2 : m2 ≤ maxLen) (hs : (decide (n ≤ 40) && decide (m ≤ 40) && decide (n2 ≤ 40) && decide (m2 ≤ 40)) = true) (M : Bool) (q1 q2 q3 q4 lo hi : Int) (z y : Bool) (hz1 : (q1 == 0) = z) (hz2 : (q2 == 0) = z) (hy1 : (q3 == 0) = y) (hy2 : (q4 == 0) = y)
 (E1 : Hid (meetsV ⟨c, ws, ts⟩ ⟨d, ws2, ts2⟩ ⟨p1, p2, p3, p4⟩ = (M, q1))) (E2 : Hid (meetsV ⟨d, ws2, ts2⟩ ⟨c, ws, ts⟩ ⟨p3, p4, p1, p2⟩ = (M, q2))) (E3 : Hid (sharedV ⟨c, ws, ts⟩ ⟨d, ws2, ts2⟩ ⟨p1, p2, p3, p4⟩ = (lo, hi, q3))) (E4 : Hid (sharedV ⟨d, ws2, ts2⟩ ⟨c, ws, ts⟩ ⟨p3, p4, p1, p2⟩ = (lo, hi, q4))) :
 Calls Tryz.prog 12 #[.agg #[.int .i64 c, .slice A n k, .slice B m j], .agg #[.int .i64 d, .slice C n2 k2, .slice D m2 j2], .agg #[.int .i64 p1, .int .i64 p2, .int .i64 p3, .int .i64 p4]] w fun e w' => e = .returned (.bool true) ∧ Below w.heap.size w w' := by
  go_enter Tryz.func12, Tryz.ntmps12
  have bel_1 := Lib.hid (show Below w.heap.size w w from Below.refl _ w)
  have ra_2 := Lib.hid (h1)
  clear h1
  have rb_3 := Lib.hid (h2)
  clear h2
  have rc_4 := Lib.hid (h3)
  clear h3
  have rd_5 := Lib.hid (h4)
  clear h4
  obtain ⟨o_, ho_⟩ : ∃ o, o = ((.cells #[.int .i64 c, .slice A n k, .slice B m j] 24) : Obj) := ⟨_, rfl⟩
  replace bel_1 := bA bel_1 o_
  replace ra_2 := rA ra_2 o_
  replace rb_3 := rA rb_3 o_
  replace rc_4 := rA rc_4 o_
  replace rd_5 := rA rd_5 o_
  subst ho_
  have ba_6 := Lib.hid (Blk.new w 24 #[.int .i64 c, .slice A n k, .slice B m j])
  obtain ⟨o_, ho_⟩ : ∃ o, o = ((.cells #[.int .i64 d, .slice C n2 k2, .slice D m2 j2] 24) : Obj) := ⟨_, rfl⟩
  replace bel_1 := bA bel_1 o_
  replace ra_2 := rA ra_2 o_
  replace rb_3 := rA rb_3 o_
  replace rc_4 := rA rc_4 o_
  replace rd_5 := rA rd_5 o_
  replace ba_6 := kA ba_6 o_
  subst ho_
  have nb_ := Blk.new (w.alloc (.cells #[.int .i64 c, .slice A n k, .slice B m j] 24)) 24 #[.int .i64 d, .slice C n2 k2, .slice D m2 j2]
  simp only [World.size_alloc] at nb_
  have bb_7 := Lib.hid nb_; clear nb_
  obtain ⟨o_, ho_⟩ : ∃ o, o = ((.cells #[.int .i64 p1, .int .i64 p2, .int .i64 p3, .int .i64 p4] 28) : Obj) := ⟨_, rfl⟩
  replace bel_1 := bA bel_1 o_
  replace ra_2 := rA ra_2 o_
  replace rb_3 := rA rb_3 o_
  replace rc_4 := rA rc_4 o_
  replace rd_5 := rA rd_5 o_
  replace ba_6 := kA ba_6 o_
  replace bb_7 := kA bb_7 o_
  subst ho_
  have nb_ := Blk.new ((w.alloc (.cells #[.int .i64 c, .slice A n k, .slice B m j] 24)).alloc (.cells #[.int .i64 d, .slice C n2 k2, .slice D m2 j2] 24)) 28 #[.int .i64 p1, .int .i64 p2, .int .i64 p3, .int .i64 p4]
  simp only [World.size_alloc] at nb_
  have bp_8 := Lib.hid nb_; clear nb_
  obtain ⟨z_9, z_10, z_11⟩ := at3 ba_6
  obtain ⟨z_12, z_13, z_14⟩ := at3 bb_7
  obtain ⟨z_15, z_16, z_17, z_18⟩ := at4 bp_8
  clear z_9 z_10 z_11 z_12 z_13 z_14 z_15 z_16 z_17 z_18
  obtain ⟨z_19, z_20, z_21⟩ := at3 ba_6
  obtain ⟨z_22, z_23, z_24⟩ := at3 bb_7
  obtain ⟨z_25, z_26, z_27, z_28⟩ := at4 bp_8
  clear z_19 z_20 z_21 z_22 z_23 z_24 z_25 z_26 z_27 z_28
  obtain ⟨o_, ho_⟩ : ∃ o, o = ((.cells #[.int .i64 c, .slice A n k, .slice B m j, .int .i64 d, .slice C n2 k2, .slice D m2 j2] 24) : Obj) := ⟨_, rfl⟩
  replace bel_1 := bA bel_1 o_
  replace ra_2 := rA ra_2 o_
  replace rb_3 := rA rb_3 o_
  replace rc_4 := rA rc_4 o_
  replace rd_5 := rA rd_5 o_
  replace ba_6 := kA ba_6 o_
  replace bb_7 := kA bb_7 o_
  replace bp_8 := kA bp_8 o_
  subst ho_
  have nb_ := Blk.new (((w.alloc (.cells #[.int .i64 c, .slice A n k, .slice B m j] 24)).alloc (.cells #[.int .i64 d, .slice C n2 k2, .slice D m2 j2] 24)).alloc (.cells #[.int .i64 p1, .int .i64 p2, .int .i64 p3, .int .i64 p4] 28)) 24 #[.int .i64 c, .slice A n k, .slice B m j, .int .i64 d, .slice C n2 k2, .slice D m2 j2]
  simp only [World.size_alloc] at nb_
  have bs_29 := Lib.hid nb_; clear nb_
  have hc := (show Calls Tryz.prog 30 #[.slice (some ⟨w.heap.size + 1 + 1 + 1, 0, none⟩) 2 2] (((((w.alloc (.cells #[.int .i64 c, .slice A n k, .slice B m j] 24)).alloc (.cells #[.int .i64 d, .slice C n2 k2, .slice D m2 j2] 24)).alloc (.cells #[.int .i64 p1, .int .i64 p2, .int .i64 p3, .int .i64 p4] 28)).alloc (.cells #[.int .i64 c, .slice A n k, .slice B m j, .int .i64 d, .slice C n2 k2, .slice D m2 j2] 24))) fun e w' => e = .returned (.bool true) ∧ Below (((((w.alloc (.cells #[.int .i64 c, .slice A n k, .slice B m j] 24)).alloc (.cells #[.int .i64 d, .slice C n2 k2, .slice D m2 j2] 24)).alloc (.cells #[.int .i64 p1, .int .i64 p2, .int .i64 p3, .int .i64 p4] 28)).alloc (.cells #[.int .i64 c, .slice A n k, .slice B m j, .int .i64 d, .slice C n2 k2, .slice D m2 j2] 24))).heap.size (((((w.alloc (.cells #[.int .i64 c, .slice A n k, .slice B m j] 24)).alloc (.cells #[.int .i64 d, .slice C n2 k2, .slice D m2 j2] 24)).alloc (.cells #[.int .i64 p1, .int .i64 p2, .int .i64 p3, .int .i64 p4] 28)).alloc (.cells #[.int .i64 c, .slice A n k, .slice B m j, .int .i64 d, .slice C n2 k2, .slice D m2 j2] 24))) w' from by have h := small3_any c A B n k m j d C D n2 k2 m2 j2 (w.heap.size + 1 + 1 + 1) (((((w.alloc (.cells #[.int .i64 c, .slice A n k, .slice B m j] 24)).alloc (.cells #[.int .i64 d, .slice C n2 k2, .slice D m2 j2] 24)).alloc (.cells #[.int .i64 p1, .int .i64 p2, .int .i64 p3, .int .i64 p4] 28)).alloc (.cells #[.int .i64 c, .slice A n k, .slice B m j, .int .i64 d, .slice C n2 k2, .slice D m2 j2] 24))) bs_29.out; rw [show (decide (n ≤ 40) && decide (m ≤ 40) && decide (n2 ≤ 40) && decide (m2 ≤ 40)) = true from hs] at h; exact h)
  have HC := Lib.hid hc; clear hc
  go_wp2_with fail
  refine HC.out.mono ?_
  rintro e w_30 ⟨rfl, hb⟩
  clear HC
  replace bel_1 := bB bel_1 hb
  replace ra_2 := rB ra_2 hb
  replace rb_3 := rB rb_3 hb
  replace rc_4 := rB rc_4 hb
  replace rd_5 := rB rd_5 hb
  replace ba_6 := kB ba_6 hb
  replace bb_7 := kB bb_7 hb
  replace bp_8 := kB bp_8 hb
  replace bs_29 := kB bs_29 hb
  clear hb
  obtain ⟨z_31, z_32, z_33⟩ := at3 ba_6
  obtain ⟨z_34, z_35, z_36⟩ := at3 bb_7
  obtain ⟨z_37, z_38, z_39, z_40⟩ := at4 bp_8
  obtain ⟨o_, ho_⟩ : ∃ o, o = ((.cells #[.int .i64 p3, .int .i64 p4, .int .i64 p1, .int .i64 p2] 28) : Obj) := ⟨_, rfl⟩
  replace bel_1 := bA bel_1 o_
  replace ra_2 := rA ra_2 o_
  replace rb_3 := rA rb_3 o_
  replace rc_4 := rA rc_4 o_
  replace rd_5 := rA rd_5 o_
  replace ba_6 := kA ba_6 o_
  replace bb_7 := kA bb_7 o_
  replace bp_8 := kA bp_8 o_
  subst ho_
  have bq_41 := Lib.hid (Blk.new w_30 28 #[.int .i64 p3, .int .i64 p4, .int .i64 p1, .int .i64 p2])
  obtain ⟨z_42, z_43, z_44⟩ := at3 ba_6
  obtain ⟨z_45, z_46, z_47⟩ := at3 bb_7
  obtain ⟨z_48, z_49, z_50, z_51⟩ := at4 bp_8
  obtain ⟨z_52, z_53, z_54, z_55⟩ := at4 bq_41
  have hc := Meets_any c A B n k m j ws ts d C D n2 k2 m2 j2 ws2 ts2 p1 p2 p3 p4 _ ra_2.out rb_3.out hn hm rc_4.out rd_5.out hn2 hm2
  rw [E1.out] at hc
  try dsimp only at hc
  have HC := Lib.hid hc; clear hc
  go_wp2_with fail
  refine HC.out.mono ?_
  rintro e w_56 ⟨rfl, hb⟩
  clear HC
  clear z_31 z_32 z_33 z_34 z_35 z_36 z_37 z_38 z_39 z_40 z_42 z_43 z_44 z_45 z_46 z_47 z_48 z_49 z_50 z_51 z_52 z_53 z_54 z_55
  replace bel_1 := bB bel_1 hb
  replace ra_2 := rB ra_2 hb
  replace rb_3 := rB rb_3 hb
  replace rc_4 := rB rc_4 hb
  replace rd_5 := rB rd_5 hb
  replace ba_6 := kB ba_6 hb
  replace bb_7 := kB bb_7 hb
  replace bp_8 := kB bp_8 hb
  replace bq_41 := kB bq_41 hb
  clear hb
  obtain ⟨z_57, z_58, z_59⟩ := at3 ba_6
  obtain ⟨z_60, z_61, z_62⟩ := at3 bb_7
  obtain ⟨z_63, z_64, z_65, z_66⟩ := at4 bp_8
  obtain ⟨z_67, z_68, z_69, z_70⟩ := at4 bq_41
  have hc := Meets_any d C D n2 k2 m2 j2 ws2 ts2 c A B n k m j ws ts p3 p4 p1 p2 _ rc_4.out rd_5.out hn2 hm2 ra_2.out rb_3.out hn hm
  rw [E2.out] at hc
  try dsimp only at hc
  have HC := Lib.hid hc; clear hc
  go_wp2_with fail
  refine HC.out.mono ?_
  rintro e w_71 ⟨rfl, hb⟩
  clear HC
  clear z_57 z_58 z_59 z_60 z_61 z_62 z_63 z_64 z_65 z_66 z_67 z_68 z_69 z_70
  replace bel_1 := bB bel_1 hb
  replace ra_2 := rB ra_2 hb
  replace rb_3 := rB rb_3 hb
  replace rc_4 := rB rc_4 hb
  replace rd_5 := rB rd_5 hb
  replace ba_6 := kB ba_6 hb
  replace bb_7 := kB bb_7 hb
  replace bp_8 := kB bp_8 hb
  replace bq_41 := kB bq_41 hb
  clear hb
  obtain ⟨z_72, z_73, z_74⟩ := at3 ba_6
  obtain ⟨z_75, z_76, z_77⟩ := at3 bb_7
  obtain ⟨z_78, z_79, z_80, z_81⟩ := at4 bp_8
  obtain ⟨z_82, z_83, z_84, z_85⟩ := at4 bq_41
  have hc := Shared_any c A B n k m j ws ts d C D n2 k2 m2 j2 ws2 ts2 p1 p2 p3 p4 _ ra_2.out rb_3.out hn hm rc_4.out rd_5.out hn2 hm2
  rw [E3.out] at hc
  try dsimp only at hc
  have HC := Lib.hid hc; clear hc
  go_wp2_with fail
  refine HC.out.mono ?_
  rintro e w_86 ⟨rfl, hb⟩
  clear HC
  clear z_72 z_73 z_74 z_75 z_76 z_77 z_78 z_79 z_80 z_81 z_82 z_83 z_84 z_85
  replace bel_1 := bB bel_1 hb
  replace ra_2 := rB ra_2 hb
  replace rb_3 := rB rb_3 hb
  replace rc_4 := rB rc_4 hb
  replace rd_5 := rB rd_5 hb
  replace ba_6 := kB ba_6 hb
  replace bb_7 := kB bb_7 hb
  replace bp_8 := kB bp_8 hb
  replace bq_41 := kB bq_41 hb
  clear hb
  obtain ⟨z_87, z_88, z_89⟩ := at3 ba_6
  obtain ⟨z_90, z_91, z_92⟩ := at3 bb_7
  obtain ⟨z_93, z_94, z_95, z_96⟩ := at4 bp_8
  obtain ⟨z_97, z_98, z_99, z_100⟩ := at4 bq_41
  have hc := Shared_any d C D n2 k2 m2 j2 ws2 ts2 c A B n k m j ws ts p3 p4 p1 p2 _ rc_4.out rd_5.out hn2 hm2 ra_2.out rb_3.out hn hm
  rw [E4.out] at hc
  try dsimp only at hc
  have HC := Lib.hid hc; clear hc
  go_wp2_with fail
  refine HC.out.mono ?_
  rintro e w_101 ⟨rfl, hb⟩
  clear HC
  clear z_87 z_88 z_89 z_90 z_91 z_92 z_93 z_94 z_95 z_96 z_97 z_98 z_99 z_100
  replace bel_1 := bB bel_1 hb
  replace ra_2 := rB ra_2 hb
  replace rb_3 := rB rb_3 hb
  replace rc_4 := rB rc_4 hb
  replace rd_5 := rB rd_5 hb
  replace ba_6 := kB ba_6 hb
  replace bb_7 := kB bb_7 hb
  replace bp_8 := kB bp_8 hb
  replace bq_41 := kB bq_41 hb
  clear hb
  obtain ⟨z_102, z_103, z_104⟩ := at3 ba_6
  obtain ⟨z_105, z_106, z_107⟩ := at3 bb_7
  obtain ⟨z_108, z_109, z_110, z_111⟩ := at4 bp_8
  obtain ⟨z_112, z_113, z_114, z_115⟩ := at4 bq_41
  have hc := joined_any (w_101)
  have HC := Lib.hid hc; clear hc
  go_wp2_with fail
  refine HC.out.mono ?_
  rintro e w_116 ⟨rfl, hb⟩
  clear HC
  clear z_102 z_103 z_104 z_105 z_106 z_107 z_108 z_109 z_110 z_111 z_112 z_113 z_114 z_115
  replace bel_1 := bB bel_1 hb
  replace ra_2 := rB ra_2 hb
  replace rb_3 := rB rb_3 hb
  replace rc_4 := rB rc_4 hb
  replace rd_5 := rB rd_5 hb
  replace ba_6 := kB ba_6 hb
  replace bb_7 := kB bb_7 hb
  replace bp_8 := kB bp_8 hb
  replace bq_41 := kB bq_41 hb
  clear hb
  obtain ⟨z_117, z_118, z_119⟩ := at3 ba_6
  obtain ⟨z_120, z_121, z_122⟩ := at3 bb_7
  obtain ⟨z_123, z_124, z_125, z_126⟩ := at4 bp_8
  obtain ⟨z_127, z_128, z_129, z_130⟩ := at4 bq_41
  go_wp2
  go_ret
  exact ⟨rfl, bel_1.out⟩
theorem turned_rows (a b : Otl) (p : Prg) : ∃ (M : Bool) (q1 q2 q3 q4 lo hi : Int) (z y : Bool), (q1 == 0) = z ∧ (q2 == 0) = z ∧ (q3 == 0) = y ∧ (q4 == 0) = y ∧ meetsV a b p = (M, q1) ∧ meetsV b a (swp p) = (M, q2) ∧ sharedV a b p = (lo, hi, q3) ∧ sharedV b a (swp p) = (lo, hi, q4) := by
 by_cases h : asked a b p = 0
 · have h2 := asked_swap h
   refine ⟨meetsB a b p, 0, 0, (sharedV a b p).2.2, (sharedV a b p).2.2, (sharedV a b p).1, (sharedV a b p).2.1, true, ((sharedV a b p).2.2 == 0), rfl, rfl, rfl, rfl, ?_, ?_, rfl, ?_⟩
   · unfold meetsV; rw [if_pos h]
   · unfold meetsV; rw [if_pos h2, meets_swap h]
   · rw [← shared_swap h]
 · have h2 : asked b a (swp p) ≠ 0 := fun e => h (by have := asked_swap e; rwa [swp_swp] at this)
   refine ⟨false, asked a b p, asked b a (swp p), asked a b p, asked b a (swp p), 0, 0, false, false, by simpa using h, by simpa using h2, by simpa using h, by simpa using h2, ?_, ?_, ?_, ?_⟩
   · unfold meetsV; rw [if_neg h]
   · unfold meetsV; rw [if_neg h2]
   · unfold sharedV; rw [if_neg h]
   · unfold sharedV; rw [if_neg h2]
theorem et_walk (w : World) (c : Int) (A : Option Addr) (n k : Nat) (B : Option Addr) (m j : Nat) (ws ts : List Bnd) (_ : (Lit.int .i64 c).wf = true) (h1 : RdB w A n k ws) (h2 : RdB w B m j ts) (hn : n ≤ maxLen) (hm : m ≤ maxLen) (d : Int) (C : Option Addr) (n2 k2 : Nat) (D : Option Addr) (m2 j2 : Nat) (ws2 ts2 : List Bnd) (_ : (Lit.int .i64 d).wf = true) (h3 : RdB w C n2 k2 ws2) (h4 : RdB w D m2 j2 ts2) (hn2 : n2 ≤ maxLen) (hm2 : m2 ≤ maxLen) (p1 p2 p3 p4 : Int) :
 Calls Tryz.prog 12 #[.agg #[.int .i64 c, .slice A n k, .slice B m j], .agg #[.int .i64 d, .slice C n2 k2, .slice D m2 j2], .agg #[.int .i64 p1, .int .i64 p2, .int .i64 p3, .int .i64 p4]] w fun e w' => e = .returned (.bool true) ∧ Below w.heap.size w w' := by
 cases hs : (decide (n ≤ 40) && decide (m ≤ 40) && decide (n2 ≤ 40) && decide (m2 ≤ 40))
 · exact et_w c A B n k m j ws ts d C D n2 k2 m2 j2 ws2 ts2 p1 p2 p3 p4 w h1 h2 hn hm h3 h4 hn2 hm2 hs
 · obtain ⟨M, q1, q2, q3, q4, lo, hi, z, y, a1, a2, a3, a4, e1, e2, e3, e4⟩ := turned_rows ⟨c, ws, ts⟩ ⟨d, ws2, ts2⟩ ⟨p1, p2, p3, p4⟩
   exact et_ok c A B n k m j ws ts d C D n2 k2 m2 j2 ws2 ts2 p1 p2 p3 p4 w h1 h2 hn hm h3 h4 hn2 hm2 hs M q1 q2 q3 q4 lo hi z y a1 a2 a3 a4 (Lib.hid e1) (Lib.hid e2) (Lib.hid e3) (Lib.hid e4)
set_option maxRecDepth 100000 in
theorem edgeTurned_lifted (os : Os) (started : os.Started) (H : Type) (enc : TypeId × Value → H) :
 ReturnsInHanded {} Tryz.checked os 12 .any (Rows.edgeTurnedSpec.pre6 enc Tryz.prog Tryz.f12 Rows.edgeTurnedRow.domain false) (Rows.edgeTurnedSpec.post enc Tryz.prog Tryz.f12 false true false false) := by
 refine returnsInHanded_of_change (C := Tryz.checked) Law.own started (by kernel_rfl) Tryz.func12
  (ChangeSpec.witness6 (enc := enc) (C := Tryz.checked) false ⟨#[], #[.agg #[.int .i64 0, .slice none 0 0, .slice none 0 0], .agg #[.int .i64 0, .slice none 0 0, .slice none 0 0], .agg #[.int .i64 0, .int .i64 0, .int .i64 0, .int .i64 0]], []⟩ 8 (by kernel_rfl) (by kernel_rfl) (by kernel_rfl) (by kernel_rfl)) ?_
 intro W base args ds gs before hval0 hW hcnd _
 have hval : ∀ (j : Nat) t v, Tryz.f12.params[j]? = some t → args[j]? = some v → Value.okWide Tryz.prog W .any base t v := hval0
 have hW' := hW
 obtain ⟨p, q, hA0, hV, rfl, hfz, hnd⟩ := hW
 have hA : DataW.TrodAll enc Tryz.prog W 0 (fun _ => true) true Tryz.f12.params.toList args.toList ds p := hA0
 rw [Tryz.params12] at hA hval
 obtain ⟨v0, vs0, d0, ds0, p0, q0, hargs, rfl, rfl, h0, r0⟩ := trodAll_cons hA
 obtain ⟨v1, vs1, d1, ds1, p1, q1, rfl, rfl, rfl, h1, r1⟩ := trodAll_cons r0
 obtain ⟨v2, vs2, d2, ds2, p2, q2, rfl, rfl, rfl, h2, r2⟩ := trodAll_cons r1
 obtain ⟨rfl, rfl, rfl⟩ := trodAll_nil r2
 obtain rfl : args = #[v0, v1, v2] := by cases args; simp_all
 obtain ⟨rfl, rfl⟩ := trodVars_none hV
 have k0 := h0
 have lt0 : ∀ x ∈ p0, x.block < W.heap.size := by obtain ⟨m, hm⟩ := k0; exact DataW.trod_lt m _ _ _ hm
 obtain ⟨c0, A0, n0, k0', B0, m0, j0, ws0, ts0, rfl, w0, ra0, rb0, xa0, xb0⟩ := open_outl (hval 0 24 v0 rfl rfl) h0
 have k1 := h1
 have lt1 : ∀ x ∈ p1, x.block < W.heap.size := by obtain ⟨m, hm⟩ := k1; exact DataW.trod_lt m _ _ _ hm
 obtain ⟨c1, A1, n1, k1', B1, m1, j1, ws1, ts1, rfl, w1, ra1, rb1, xa1, xb1⟩ := open_outl (hval 1 24 v1 rfl rfl) h1
 have k2 := h2
 have lt2 : ∀ x ∈ p2, x.block < W.heap.size := by obtain ⟨m, hm⟩ := k2; exact DataW.trod_lt m _ _ _ hm
 obtain ⟨f2, t2, m2, i2, rfl⟩ := open_pair (hval 2 28 v2 rfl rfl) h2
 clear hA0 hval0
 refine (et_walk W c0 A0 n0 k0' B0 m0 j0 ws0 ts0 w0 ra0 rb0 xa0 xb0 c1 A1 n1 k1' B1 m1 j1 ws1 ts1 w1 ra1 rb1 xa1 xb1 f2 t2 m2 i2).mono fun e W' ⟨he, bel⟩ => ?_
 subst he
 exact ⟨_, rfl, _, _, _, [], _, [], hW', trodAll_mk1 (shut_bool Tryz.underlying4 _), (trodAll_cons_mk (Below.trod Law.laidOut (by kernel_rfl) (of_decide_eq_true (by kernel_rfl)) k0 bel lt0) (trodAll_cons_mk (Below.trod Law.laidOut (by kernel_rfl) (of_decide_eq_true (by kernel_rfl)) k1 bel lt1) (trodAll_cons_mk (Below.trod Law.laidOut (by kernel_rfl) (of_decide_eq_true (by kernel_rfl)) k2 bel lt2) trodAll_mk0))), rfl, bel.frame _, fun h => by cases h⟩
theorem edgeTurned_over : Rows.edgeTurnedRow.holds Tryz.pinned (OpenSpec.ofChange Rows.edgeTurnedSpec) :=
 OpenClaim.holds_of_wide 12 Tryz.f12 rfl rfl rfl rfl rfl rfl rfl ⟨rfl, rfl, rfl, rfl, rfl⟩ rfl rfl rfl rfl rfl (by kernel_rfl) Tryz.func12 (by kernel_rfl)
  (of_decide_eq_true (by kernel_rfl)) (by unfold Func.isWrapper; first | (rw [if_pos (by decide +kernel)]; kernel_rfl) | (rw [if_neg (by decide +kernel)]; exact ⟨rfl, rfl⟩))
  (fun os started H enc _ => edgeTurned_lifted os started H enc)
theorem edgeTurned_proved : Rows.EdgeTurnedSaid := edgeTurned_over
end Go.Proofs.YtaoanagmgheicaaGreat
