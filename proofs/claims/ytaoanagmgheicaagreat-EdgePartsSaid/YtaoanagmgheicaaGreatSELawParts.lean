import Derived.Test.YtaoanagmgheicaaGreatRows
import Derived.Test.YtaoanagmgheicaaGreatSEOpen
import Derived.Test.YtaoanagmgheicaaGreatSELawM
set_option linter.unusedSimpArgs false
set_option linter.unusedVariables false
namespace Go.Proofs.YtaoanagmgheicaaGreat
open Go.ChangeShapes Go.WideShapes Go.ChangeAt Go.RowKit
set_option maxRecDepth 100000 in
set_option maxHeartbeats 4000000 in
theorem ep_w (c : Int) (A B : Option Addr) (n k m j : Nat) (ws ts : List Bnd) (d : Int) (C D : Option Addr) (n2 k2 m2 j2 : Nat) (ws2 ts2 : List Bnd) (p1 p2 p3 p4 : Int) (w : World) (h1 : RdB w A n k ws) (h2 : RdB w B m j ts) (hn : n ≤ maxLen) (hm : m ≤ maxLen) (h3 : RdB w C n2 k2 ws2) (h4 : RdB w D m2 j2 ts2) (hn2 : n2 ≤ maxLen) (hm2 : m2 ≤ maxLen) (hs : (decide (n ≤ 40) && decide (m ≤ 40) && decide (n2 ≤ 40) && decide (m2 ≤ 40)) = false) :
 Calls Tryz.prog 13 #[.agg #[.int .i64 c, .slice A n k, .slice B m j], .agg #[.int .i64 d, .slice C n2 k2, .slice D m2 j2], .agg #[.int .i64 p1, .int .i64 p2, .int .i64 p3, .int .i64 p4]] w fun e w' => e = .returned (.bool true) ∧ Below w.heap.size w w' := by
  go_enter Tryz.func13, Tryz.ntmps13
  have bel_1 := Lib.hid (show Below w.heap.size w w from Below.refl _ w)
  have ra_2 := Lib.hid (h1)
  clear h1
  have rb_3 := Lib.hid (h2)
  clear h2
  have rc_4 := Lib.hid (h3)
  clear h3
  have rd_5 := Lib.hid (h4)
  clear h4
  obtain ⟨o_, ho_⟩ : ∃ o, o = ((.cells #[.int .i64 c, .slice A n k, .slice B m j] 24) : Obj) := ⟨_, rfl⟩
  replace bel_1 := bA bel_1 o_
  replace ra_2 := rA ra_2 o_
  replace rb_3 := rA rb_3 o_
  replace rc_4 := rA rc_4 o_
  replace rd_5 := rA rd_5 o_
  subst ho_
  have ba_6 := Lib.hid (Blk.new w 24 #[.int .i64 c, .slice A n k, .slice B m j])
  obtain ⟨o_, ho_⟩ : ∃ o, o = ((.cells #[.int .i64 d, .slice C n2 k2, .slice D m2 j2] 24) : Obj) := ⟨_, rfl⟩
  replace bel_1 := bA bel_1 o_
  replace ra_2 := rA ra_2 o_
  replace rb_3 := rA rb_3 o_
  replace rc_4 := rA rc_4 o_
  replace rd_5 := rA rd_5 o_
  replace ba_6 := kA ba_6 o_
  subst ho_
  have nb_ := Blk.new (w.alloc (.cells #[.int .i64 c, .slice A n k, .slice B m j] 24)) 24 #[.int .i64 d, .slice C n2 k2, .slice D m2 j2]
  simp only [World.size_alloc] at nb_
  have bb_7 := Lib.hid nb_; clear nb_
  obtain ⟨o_, ho_⟩ : ∃ o, o = ((.cells #[.int .i64 p1, .int .i64 p2, .int .i64 p3, .int .i64 p4] 28) : Obj) := ⟨_, rfl⟩
  replace bel_1 := bA bel_1 o_
  replace ra_2 := rA ra_2 o_
  replace rb_3 := rA rb_3 o_
  replace rc_4 := rA rc_4 o_
  replace rd_5 := rA rd_5 o_
  replace ba_6 := kA ba_6 o_
  replace bb_7 := kA bb_7 o_
  subst ho_
  have nb_ := Blk.new ((w.alloc (.cells #[.int .i64 c, .slice A n k, .slice B m j] 24)).alloc (.cells #[.int .i64 d, .slice C n2 k2, .slice D m2 j2] 24)) 28 #[.int .i64 p1, .int .i64 p2, .int .i64 p3, .int .i64 p4]
  simp only [World.size_alloc] at nb_
  have bp_8 := Lib.hid nb_; clear nb_
  obtain ⟨z_9, z_10, z_11⟩ := at3 ba_6
  obtain ⟨z_12, z_13, z_14⟩ := at3 bb_7
  obtain ⟨z_15, z_16, z_17, z_18⟩ := at4 bp_8
  clear z_9 z_10 z_11 z_12 z_13 z_14 z_15 z_16 z_17 z_18
  obtain ⟨o_, ho_⟩ : ∃ o, o = ((.cells #[.int .i64 c, .slice A n k, .slice B m j, .int .i64 d, .slice C n2 k2, .slice D m2 j2] 24) : Obj) := ⟨_, rfl⟩
  replace bel_1 := bA bel_1 o_
  replace ra_2 := rA ra_2 o_
  replace rb_3 := rA rb_3 o_
  replace rc_4 := rA rc_4 o_
  replace rd_5 := rA rd_5 o_
  replace ba_6 := kA ba_6 o_
  replace bb_7 := kA bb_7 o_
  replace bp_8 := kA bp_8 o_
  subst ho_
  have nb_ := Blk.new (((w.alloc (.cells #[.int .i64 c, .slice A n k, .slice B m j] 24)).alloc (.cells #[.int .i64 d, .slice C n2 k2, .slice D m2 j2] 24)).alloc (.cells #[.int .i64 p1, .int .i64 p2, .int .i64 p3, .int .i64 p4] 28)) 24 #[.int .i64 c, .slice A n k, .slice B m j, .int .i64 d, .slice C n2 k2, .slice D m2 j2]
  simp only [World.size_alloc] at nb_
  have bs_19 := Lib.hid nb_; clear nb_
  have hc := (show Calls Tryz.prog 30 #[.slice (some ⟨w.heap.size + 1 + 1 + 1, 0, none⟩) 2 2] (((((w.alloc (.cells #[.int .i64 c, .slice A n k, .slice B m j] 24)).alloc (.cells #[.int .i64 d, .slice C n2 k2, .slice D m2 j2] 24)).alloc (.cells #[.int .i64 p1, .int .i64 p2, .int .i64 p3, .int .i64 p4] 28)).alloc (.cells #[.int .i64 c, .slice A n k, .slice B m j, .int .i64 d, .slice C n2 k2, .slice D m2 j2] 24))) fun e w' => e = .returned (.bool false) ∧ Below (((((w.alloc (.cells #[.int .i64 c, .slice A n k, .slice B m j] 24)).alloc (.cells #[.int .i64 d, .slice C n2 k2, .slice D m2 j2] 24)).alloc (.cells #[.int .i64 p1, .int .i64 p2, .int .i64 p3, .int .i64 p4] 28)).alloc (.cells #[.int .i64 c, .slice A n k, .slice B m j, .int .i64 d, .slice C n2 k2, .slice D m2 j2] 24))).heap.size (((((w.alloc (.cells #[.int .i64 c, .slice A n k, .slice B m j] 24)).alloc (.cells #[.int .i64 d, .slice C n2 k2, .slice D m2 j2] 24)).alloc (.cells #[.int .i64 p1, .int .i64 p2, .int .i64 p3, .int .i64 p4] 28)).alloc (.cells #[.int .i64 c, .slice A n k, .slice B m j, .int .i64 d, .slice C n2 k2, .slice D m2 j2] 24))) w' from by have h := small3_any c A B n k m j d C D n2 k2 m2 j2 (w.heap.size + 1 + 1 + 1) (((((w.alloc (.cells #[.int .i64 c, .slice A n k, .slice B m j] 24)).alloc (.cells #[.int .i64 d, .slice C n2 k2, .slice D m2 j2] 24)).alloc (.cells #[.int .i64 p1, .int .i64 p2, .int .i64 p3, .int .i64 p4] 28)).alloc (.cells #[.int .i64 c, .slice A n k, .slice B m j, .int .i64 d, .slice C n2 k2, .slice D m2 j2] 24))) bs_19.out; rw [show (decide (n ≤ 40) && decide (m ≤ 40) && decide (n2 ≤ 40) && decide (m2 ≤ 40)) = false from hs] at h; exact h)
  have HC := Lib.hid hc; clear hc
  go_wp2_with fail
  refine HC.out.mono ?_
  rintro e w_20 ⟨rfl, hb⟩
  clear HC
  replace bel_1 := bB bel_1 hb
  replace ra_2 := rB ra_2 hb
  replace rb_3 := rB rb_3 hb
  replace rc_4 := rB rc_4 hb
  replace rd_5 := rB rd_5 hb
  replace ba_6 := kB ba_6 hb
  replace bb_7 := kB bb_7 hb
  replace bp_8 := kB bp_8 hb
  replace bs_19 := kB bs_19 hb
  clear hb
  obtain ⟨z_21, z_22, z_23⟩ := at3 ba_6
  obtain ⟨z_24, z_25, z_26⟩ := at3 bb_7
  obtain ⟨z_27, z_28, z_29, z_30⟩ := at4 bp_8
  have hc := joined_any (w_20)
  have HC := Lib.hid hc; clear hc
  go_wp2_with fail
  refine HC.out.mono ?_
  rintro e w_31 ⟨rfl, hb⟩
  clear HC
  clear z_21 z_22 z_23 z_24 z_25 z_26 z_27 z_28 z_29 z_30
  replace bel_1 := bB bel_1 hb
  replace ra_2 := rB ra_2 hb
  replace rb_3 := rB rb_3 hb
  replace rc_4 := rB rc_4 hb
  replace rd_5 := rB rd_5 hb
  replace ba_6 := kB ba_6 hb
  replace bb_7 := kB bb_7 hb
  replace bp_8 := kB bp_8 hb
  clear hb
  obtain ⟨z_32, z_33, z_34⟩ := at3 ba_6
  obtain ⟨z_35, z_36, z_37⟩ := at3 bb_7
  obtain ⟨z_38, z_39, z_40, z_41⟩ := at4 bp_8
  go_wp2
  go_ret
  exact ⟨rfl, bel_1.out⟩
set_option maxRecDepth 100000 in
set_option maxHeartbeats 4000000 in
theorem ep_err (c : Int) (A B : Option Addr) (n k m j : Nat) (ws ts : List Bnd) (d : Int) (C D : Option Addr) (n2 k2 m2 j2 : Nat) (ws2 ts2 : List Bnd) (p1 p2 p3 p4 : Int) (w : World) (h1 : RdB w A n k ws) (h2 : RdB w B m j ts) (hn : n ≤ maxLen) (hm : m ≤ maxLen) (h3 : RdB w C n2 k2 ws2) (h4 : RdB w D m2 j2 ts2) (hn2 : n2 ≤ maxLen) (hm2 : m2 ≤ maxLen) (hs : (decide (n ≤ 40) && decide (m ≤ 40) && decide (n2 ≤ 40) && decide (m2 ≤ 40)) = true) (M : Bool) (q : Int) (hq : (q != 0) = true) (E1 : Hid (meetsV ⟨c, ws, ts⟩ ⟨d, ws2, ts2⟩ ⟨p1, p2, p3, p4⟩ = (M, q))) :
 Calls Tryz.prog 13 #[.agg #[.int .i64 c, .slice A n k, .slice B m j], .agg #[.int .i64 d, .slice C n2 k2, .slice D m2 j2], .agg #[.int .i64 p1, .int .i64 p2, .int .i64 p3, .int .i64 p4]] w fun e w' => e = .returned (.bool true) ∧ Below w.heap.size w w' := by
  go_enter Tryz.func13, Tryz.ntmps13
  have bel_1 := Lib.hid (show Below w.heap.size w w from Below.refl _ w)
  have ra_2 := Lib.hid (h1)
  clear h1
  have rb_3 := Lib.hid (h2)
  clear h2
  have rc_4 := Lib.hid (h3)
  clear h3
  have rd_5 := Lib.hid (h4)
  clear h4
  obtain ⟨o_, ho_⟩ : ∃ o, o = ((.cells #[.int .i64 c, .slice A n k, .slice B m j] 24) : Obj) := ⟨_, rfl⟩
  replace bel_1 := bA bel_1 o_
  replace ra_2 := rA ra_2 o_
  replace rb_3 := rA rb_3 o_
  replace rc_4 := rA rc_4 o_
  replace rd_5 := rA rd_5 o_
  subst ho_
  have ba_6 := Lib.hid (Blk.new w 24 #[.int .i64 c, .slice A n k, .slice B m j])
  obtain ⟨o_, ho_⟩ : ∃ o, o = ((.cells #[.int .i64 d, .slice C n2 k2, .slice D m2 j2] 24) : Obj) := ⟨_, rfl⟩
  replace bel_1 := bA bel_1 o_
  replace ra_2 := rA ra_2 o_
  replace rb_3 := rA rb_3 o_
  replace rc_4 := rA rc_4 o_
  replace rd_5 := rA rd_5 o_
  replace ba_6 := kA ba_6 o_
  subst ho_
  have nb_ := Blk.new (w.alloc (.cells #[.int .i64 c, .slice A n k, .slice B m j] 24)) 24 #[.int .i64 d, .slice C n2 k2, .slice D m2 j2]
  simp only [World.size_alloc] at nb_
  have bb_7 := Lib.hid nb_; clear nb_
  obtain ⟨o_, ho_⟩ : ∃ o, o = ((.cells #[.int .i64 p1, .int .i64 p2, .int .i64 p3, .int .i64 p4] 28) : Obj) := ⟨_, rfl⟩
  replace bel_1 := bA bel_1 o_
  replace ra_2 := rA ra_2 o_
  replace rb_3 := rA rb_3 o_
  replace rc_4 := rA rc_4 o_
  replace rd_5 := rA rd_5 o_
  replace ba_6 := kA ba_6 o_
  replace bb_7 := kA bb_7 o_
  subst ho_
  have nb_ := Blk.new ((w.alloc (.cells #[.int .i64 c, .slice A n k, .slice B m j] 24)).alloc (.cells #[.int .i64 d, .slice C n2 k2, .slice D m2 j2] 24)) 28 #[.int .i64 p1, .int .i64 p2, .int .i64 p3, .int .i64 p4]
  simp only [World.size_alloc] at nb_
  have bp_8 := Lib.hid nb_; clear nb_
  obtain ⟨z_9, z_10, z_11⟩ := at3 ba_6
  obtain ⟨z_12, z_13, z_14⟩ := at3 bb_7
  obtain ⟨z_15, z_16, z_17, z_18⟩ := at4 bp_8
  clear z_9 z_10 z_11 z_12 z_13 z_14 z_15 z_16 z_17 z_18
  obtain ⟨o_, ho_⟩ : ∃ o, o = ((.cells #[.int .i64 c, .slice A n k, .slice B m j, .int .i64 d, .slice C n2 k2, .slice D m2 j2] 24) : Obj) := ⟨_, rfl⟩
  replace bel_1 := bA bel_1 o_
  replace ra_2 := rA ra_2 o_
  replace rb_3 := rA rb_3 o_
  replace rc_4 := rA rc_4 o_
  replace rd_5 := rA rd_5 o_
  replace ba_6 := kA ba_6 o_
  replace bb_7 := kA bb_7 o_
  replace bp_8 := kA bp_8 o_
  subst ho_
  have nb_ := Blk.new (((w.alloc (.cells #[.int .i64 c, .slice A n k, .slice B m j] 24)).alloc (.cells #[.int .i64 d, .slice C n2 k2, .slice D m2 j2] 24)).alloc (.cells #[.int .i64 p1, .int .i64 p2, .int .i64 p3, .int .i64 p4] 28)) 24 #[.int .i64 c, .slice A n k, .slice B m j, .int .i64 d, .slice C n2 k2, .slice D m2 j2]
  simp only [World.size_alloc] at nb_
  have bs_19 := Lib.hid nb_; clear nb_
  have hc := (show Calls Tryz.prog 30 #[.slice (some ⟨w.heap.size + 1 + 1 + 1, 0, none⟩) 2 2] (((((w.alloc (.cells #[.int .i64 c, .slice A n k, .slice B m j] 24)).alloc (.cells #[.int .i64 d, .slice C n2 k2, .slice D m2 j2] 24)).alloc (.cells #[.int .i64 p1, .int .i64 p2, .int .i64 p3, .int .i64 p4] 28)).alloc (.cells #[.int .i64 c, .slice A n k, .slice B m j, .int .i64 d, .slice C n2 k2, .slice D m2 j2] 24))) fun e w' => e = .returned (.bool true) ∧ Below (((((w.alloc (.cells #[.int .i64 c, .slice A n k, .slice B m j] 24)).alloc (.cells #[.int .i64 d, .slice C n2 k2, .slice D m2 j2] 24)).alloc (.cells #[.int .i64 p1, .int .i64 p2, .int .i64 p3, .int .i64 p4] 28)).alloc (.cells #[.int .i64 c, .slice A n k, .slice B m j, .int .i64 d, .slice C n2 k2, .slice D m2 j2] 24))).heap.size (((((w.alloc (.cells #[.int .i64 c, .slice A n k, .slice B m j] 24)).alloc (.cells #[.int .i64 d, .slice C n2 k2, .slice D m2 j2] 24)).alloc (.cells #[.int .i64 p1, .int .i64 p2, .int .i64 p3, .int .i64 p4] 28)).alloc (.cells #[.int .i64 c, .slice A n k, .slice B m j, .int .i64 d, .slice C n2 k2, .slice D m2 j2] 24))) w' from by have h := small3_any c A B n k m j d C D n2 k2 m2 j2 (w.heap.size + 1 + 1 + 1) (((((w.alloc (.cells #[.int .i64 c, .slice A n k, .slice B m j] 24)).alloc (.cells #[.int .i64 d, .slice C n2 k2, .slice D m2 j2] 24)).alloc (.cells #[.int .i64 p1, .int .i64 p2, .int .i64 p3, .int .i64 p4] 28)).alloc (.cells #[.int .i64 c, .slice A n k, .slice B m j, .int .i64 d, .slice C n2 k2, .slice D m2 j2] 24))) bs_19.out; rw [show (decide (n ≤ 40) && decide (m ≤ 40) && decide (n2 ≤ 40) && decide (m2 ≤ 40)) = true from hs] at h; exact h)
  have HC := Lib.hid hc; clear hc
  go_wp2_with fail
  refine HC.out.mono ?_
  rintro e w_20 ⟨rfl, hb⟩
  clear HC
  replace bel_1 := bB bel_1 hb
  replace ra_2 := rB ra_2 hb
  replace rb_3 := rB rb_3 hb
  replace rc_4 := rB rc_4 hb
  replace rd_5 := rB rd_5 hb
  replace ba_6 := kB ba_6 hb
  replace bb_7 := kB bb_7 hb
  replace bp_8 := kB bp_8 hb
  replace bs_19 := kB bs_19 hb
  clear hb
  obtain ⟨z_21, z_22, z_23⟩ := at3 ba_6
  obtain ⟨z_24, z_25, z_26⟩ := at3 bb_7
  obtain ⟨z_27, z_28, z_29, z_30⟩ := at4 bp_8
  have hc := Meets_any c A B n k m j ws ts d C D n2 k2 m2 j2 ws2 ts2 p1 p2 p3 p4 _ ra_2.out rb_3.out hn hm rc_4.out rd_5.out hn2 hm2
  rw [E1.out] at hc
  try dsimp only at hc
  have HC := Lib.hid hc; clear hc
  go_wp2_with fail
  refine HC.out.mono ?_
  rintro e w_31 ⟨rfl, hb⟩
  clear HC
  clear z_21 z_22 z_23 z_24 z_25 z_26 z_27 z_28 z_29 z_30
  replace bel_1 := bB bel_1 hb
  replace ra_2 := rB ra_2 hb
  replace rb_3 := rB rb_3 hb
  replace rc_4 := rB rc_4 hb
  replace rd_5 := rB rd_5 hb
  replace ba_6 := kB ba_6 hb
  replace bb_7 := kB bb_7 hb
  replace bp_8 := kB bp_8 hb
  clear hb
  obtain ⟨z_32, z_33, z_34⟩ := at3 ba_6
  obtain ⟨z_35, z_36, z_37⟩ := at3 bb_7
  obtain ⟨z_38, z_39, z_40, z_41⟩ := at4 bp_8
  have hc := joined_any (w_31)
  have HC := Lib.hid hc; clear hc
  go_wp2_with fail
  refine HC.out.mono ?_
  rintro e w_42 ⟨rfl, hb⟩
  clear HC
  clear z_32 z_33 z_34 z_35 z_36 z_37 z_38 z_39 z_40 z_41
  replace bel_1 := bB bel_1 hb
  replace ra_2 := rB ra_2 hb
  replace rb_3 := rB rb_3 hb
  replace rc_4 := rB rc_4 hb
  replace rd_5 := rB rd_5 hb
  replace ba_6 := kB ba_6 hb
  replace bb_7 := kB bb_7 hb
  replace bp_8 := kB bp_8 hb
  clear hb
  obtain ⟨z_43, z_44, z_45⟩ := at3 ba_6
  obtain ⟨z_46, z_47, z_48⟩ := at3 bb_7
  obtain ⟨z_49, z_50, z_51, z_52⟩ := at4 bp_8
  go_wp2
  go_ret
  exact ⟨rfl, bel_1.out⟩
set_option maxRecDepth 100000 in
set_option maxHeartbeats 4000000 in
theorem ep_not (c : Int) (A B : Option Addr) (n k m j : Nat) (ws ts : List Bnd) (d : Int) (C D : Option Addr) (n2 k2 m2 j2 : Nat) (ws2 ts2 : List Bnd) (p1 p2 p3 p4 : Int) (w : World) (h1 : RdB w A n k ws) (h2 : RdB w B m j ts) (hn : n ≤ maxLen) (hm : m ≤ maxLen) (h3 : RdB w C n2 k2 ws2) (h4 : RdB w D m2 j2 ts2) (hn2 : n2 ≤ maxLen) (hm2 : m2 ≤ maxLen) (hs : (decide (n ≤ 40) && decide (m ≤ 40) && decide (n2 ≤ 40) && decide (m2 ≤ 40)) = true) (E1 : Hid (meetsV ⟨c, ws, ts⟩ ⟨d, ws2, ts2⟩ ⟨p1, p2, p3, p4⟩ = (false, 0))) :
 Calls Tryz.prog 13 #[.agg #[.int .i64 c, .slice A n k, .slice B m j], .agg #[.int .i64 d, .slice C n2 k2, .slice D m2 j2], .agg #[.int .i64 p1, .int .i64 p2, .int .i64 p3, .int .i64 p4]] w fun e w' => e = .returned (.bool true) ∧ Below w.heap.size w w' := by
  go_enter Tryz.func13, Tryz.ntmps13
  have bel_1 := Lib.hid (show Below w.heap.size w w from Below.refl _ w)
  have ra_2 := Lib.hid (h1)
  clear h1
  have rb_3 := Lib.hid (h2)
  clear h2
  have rc_4 := Lib.hid (h3)
  clear h3
  have rd_5 := Lib.hid (h4)
  clear h4
  obtain ⟨o_, ho_⟩ : ∃ o, o = ((.cells #[.int .i64 c, .slice A n k, .slice B m j] 24) : Obj) := ⟨_, rfl⟩
  replace bel_1 := bA bel_1 o_
  replace ra_2 := rA ra_2 o_
  replace rb_3 := rA rb_3 o_
  replace rc_4 := rA rc_4 o_
  replace rd_5 := rA rd_5 o_
  subst ho_
  have ba_6 := Lib.hid (Blk.new w 24 #[.int .i64 c, .slice A n k, .slice B m j])
  obtain ⟨o_, ho_⟩ : ∃ o, o = ((.cells #[.int .i64 d, .slice C n2 k2, .slice D m2 j2] 24) : Obj) := ⟨_, rfl⟩
  replace bel_1 := bA bel_1 o_
  replace ra_2 := rA ra_2 o_
  replace rb_3 := rA rb_3 o_
  replace rc_4 := rA rc_4 o_
  replace rd_5 := rA rd_5 o_
  replace ba_6 := kA ba_6 o_
  subst ho_
  have nb_ := Blk.new (w.alloc (.cells #[.int .i64 c, .slice A n k, .slice B m j] 24)) 24 #[.int .i64 d, .slice C n2 k2, .slice D m2 j2]
  simp only [World.size_alloc] at nb_
  have bb_7 := Lib.hid nb_; clear nb_
  obtain ⟨o_, ho_⟩ : ∃ o, o = ((.cells #[.int .i64 p1, .int .i64 p2, .int .i64 p3, .int .i64 p4] 28) : Obj) := ⟨_, rfl⟩
  replace bel_1 := bA bel_1 o_
  replace ra_2 := rA ra_2 o_
  replace rb_3 := rA rb_3 o_
  replace rc_4 := rA rc_4 o_
  replace rd_5 := rA rd_5 o_
  replace ba_6 := kA ba_6 o_
  replace bb_7 := kA bb_7 o_
  subst ho_
  have nb_ := Blk.new ((w.alloc (.cells #[.int .i64 c, .slice A n k, .slice B m j] 24)).alloc (.cells #[.int .i64 d, .slice C n2 k2, .slice D m2 j2] 24)) 28 #[.int .i64 p1, .int .i64 p2, .int .i64 p3, .int .i64 p4]
  simp only [World.size_alloc] at nb_
  have bp_8 := Lib.hid nb_; clear nb_
  obtain ⟨z_9, z_10, z_11⟩ := at3 ba_6
  obtain ⟨z_12, z_13, z_14⟩ := at3 bb_7
  obtain ⟨z_15, z_16, z_17, z_18⟩ := at4 bp_8
  clear z_9 z_10 z_11 z_12 z_13 z_14 z_15 z_16 z_17 z_18
  obtain ⟨o_, ho_⟩ : ∃ o, o = ((.cells #[.int .i64 c, .slice A n k, .slice B m j, .int .i64 d, .slice C n2 k2, .slice D m2 j2] 24) : Obj) := ⟨_, rfl⟩
  replace bel_1 := bA bel_1 o_
  replace ra_2 := rA ra_2 o_
  replace rb_3 := rA rb_3 o_
  replace rc_4 := rA rc_4 o_
  replace rd_5 := rA rd_5 o_
  replace ba_6 := kA ba_6 o_
  replace bb_7 := kA bb_7 o_
  replace bp_8 := kA bp_8 o_
  subst ho_
  have nb_ := Blk.new (((w.alloc (.cells #[.int .i64 c, .slice A n k, .slice B m j] 24)).alloc (.cells #[.int .i64 d, .slice C n2 k2, .slice D m2 j2] 24)).alloc (.cells #[.int .i64 p1, .int .i64 p2, .int .i64 p3, .int .i64 p4] 28)) 24 #[.int .i64 c, .slice A n k, .slice B m j, .int .i64 d, .slice C n2 k2, .slice D m2 j2]
  simp only [World.size_alloc] at nb_
  have bs_19 := Lib.hid nb_; clear nb_
  have hc := (show Calls Tryz.prog 30 #[.slice (some ⟨w.heap.size + 1 + 1 + 1, 0, none⟩) 2 2] (((((w.alloc (.cells #[.int .i64 c, .slice A n k, .slice B m j] 24)).alloc (.cells #[.int .i64 d, .slice C n2 k2, .slice D m2 j2] 24)).alloc (.cells #[.int .i64 p1, .int .i64 p2, .int .i64 p3, .int .i64 p4] 28)).alloc (.cells #[.int .i64 c, .slice A n k, .slice B m j, .int .i64 d, .slice C n2 k2, .slice D m2 j2] 24))) fun e w' => e = .returned (.bool true) ∧ Below (((((w.alloc (.cells #[.int .i64 c, .slice A n k, .slice B m j] 24)).alloc (.cells #[.int .i64 d, .slice C n2 k2, .slice D m2 j2] 24)).alloc (.cells #[.int .i64 p1, .int .i64 p2, .int .i64 p3, .int .i64 p4] 28)).alloc (.cells #[.int .i64 c, .slice A n k, .slice B m j, .int .i64 d, .slice C n2 k2, .slice D m2 j2] 24))).heap.size (((((w.alloc (.cells #[.int .i64 c, .slice A n k, .slice B m j] 24)).alloc (.cells #[.int .i64 d, .slice C n2 k2, .slice D m2 j2] 24)).alloc (.cells #[.int .i64 p1, .int .i64 p2, .int .i64 p3, .int .i64 p4] 28)).alloc (.cells #[.int .i64 c, .slice A n k, .slice B m j, .int .i64 d, .slice C n2 k2, .slice D m2 j2] 24))) w' from by have h := small3_any c A B n k m j d C D n2 k2 m2 j2 (w.heap.size + 1 + 1 + 1) (((((w.alloc (.cells #[.int .i64 c, .slice A n k, .slice B m j] 24)).alloc (.cells #[.int .i64 d, .slice C n2 k2, .slice D m2 j2] 24)).alloc (.cells #[.int .i64 p1, .int .i64 p2, .int .i64 p3, .int .i64 p4] 28)).alloc (.cells #[.int .i64 c, .slice A n k, .slice B m j, .int .i64 d, .slice C n2 k2, .slice D m2 j2] 24))) bs_19.out; rw [show (decide (n ≤ 40) && decide (m ≤ 40) && decide (n2 ≤ 40) && decide (m2 ≤ 40)) = true from hs] at h; exact h)
  have HC := Lib.hid hc; clear hc
  go_wp2_with fail
  refine HC.out.mono ?_
  rintro e w_20 ⟨rfl, hb⟩
  clear HC
  replace bel_1 := bB bel_1 hb
  replace ra_2 := rB ra_2 hb
  replace rb_3 := rB rb_3 hb
  replace rc_4 := rB rc_4 hb
  replace rd_5 := rB rd_5 hb
  replace ba_6 := kB ba_6 hb
  replace bb_7 := kB bb_7 hb
  replace bp_8 := kB bp_8 hb
  replace bs_19 := kB bs_19 hb
  clear hb
  obtain ⟨z_21, z_22, z_23⟩ := at3 ba_6
  obtain ⟨z_24, z_25, z_26⟩ := at3 bb_7
  obtain ⟨z_27, z_28, z_29, z_30⟩ := at4 bp_8
  have hc := Meets_any c A B n k m j ws ts d C D n2 k2 m2 j2 ws2 ts2 p1 p2 p3 p4 _ ra_2.out rb_3.out hn hm rc_4.out rd_5.out hn2 hm2
  rw [E1.out] at hc
  try dsimp only at hc
  have HC := Lib.hid hc; clear hc
  go_wp2_with fail
  refine HC.out.mono ?_
  rintro e w_31 ⟨rfl, hb⟩
  clear HC
  clear z_21 z_22 z_23 z_24 z_25 z_26 z_27 z_28 z_29 z_30
  replace bel_1 := bB bel_1 hb
  replace ra_2 := rB ra_2 hb
  replace rb_3 := rB rb_3 hb
  replace rc_4 := rB rc_4 hb
  replace rd_5 := rB rd_5 hb
  replace ba_6 := kB ba_6 hb
  replace bb_7 := kB bb_7 hb
  replace bp_8 := kB bp_8 hb
  clear hb
  obtain ⟨z_32, z_33, z_34⟩ := at3 ba_6
  obtain ⟨z_35, z_36, z_37⟩ := at3 bb_7
  obtain ⟨z_38, z_39, z_40, z_41⟩ := at4 bp_8
  have hc := joined_any (w_31)
  have HC := Lib.hid hc; clear hc
  go_wp2_with fail
  refine HC.out.mono ?_
  rintro e w_42 ⟨rfl, hb⟩
  clear HC
  clear z_32 z_33 z_34 z_35 z_36 z_37 z_38 z_39 z_40 z_41
  replace bel_1 := bB bel_1 hb
  replace ra_2 := rB ra_2 hb
  replace rb_3 := rB rb_3 hb
  replace rc_4 := rB rc_4 hb
  replace rd_5 := rB rd_5 hb
  replace ba_6 := kB ba_6 hb
  replace bb_7 := kB bb_7 hb
  replace bp_8 := kB bp_8 hb
  clear hb
  obtain ⟨z_43, z_44, z_45⟩ := at3 ba_6
  obtain ⟨z_46, z_47, z_48⟩ := at3 bb_7
  obtain ⟨z_49, z_50, z_51, z_52⟩ := at4 bp_8
  go_wp2
  go_ret
  exact ⟨rfl, bel_1.out⟩
set_option maxRecDepth 100000 in
set_option maxHeartbeats 4000000 in
theorem ep_short (c : Int) (A B : Option Addr) (n k m j : Nat) (ws ts : List Bnd) (d : Int) (C D : Option Addr) (n2 k2 m2 j2 : Nat) (ws2 ts2 : List Bnd) (p1 p2 p3 p4 : Int) (w : World) (h1 : RdB w A n k ws) (h2 : RdB w B m j ts) (hn : n ≤ maxLen) (hm : m ≤ maxLen) (h3 : RdB w C n2 k2 ws2) (h4 : RdB w D m2 j2 ts2) (hn2 : n2 ≤ maxLen) (hm2 : m2 ≤ maxLen) (hs : (decide (n ≤ 40) && decide (m ≤ 40) && decide (n2 ≤ 40) && decide (m2 ≤ 40)) = true) (hw : IntKind.i64.wrap (p2 - p1) = p2 - p1) (hl : p2 - p1 < 2) (E1 : Hid (meetsV ⟨c, ws, ts⟩ ⟨d, ws2, ts2⟩ ⟨p1, p2, p3, p4⟩ = (true, 0))) :
 Calls Tryz.prog 13 #[.agg #[.int .i64 c, .slice A n k, .slice B m j], .agg #[.int .i64 d, .slice C n2 k2, .slice D m2 j2], .agg #[.int .i64 p1, .int .i64 p2, .int .i64 p3, .int .i64 p4]] w fun e w' => e = .returned (.bool true) ∧ Below w.heap.size w w' := by
  go_enter Tryz.func13, Tryz.ntmps13
  have bel_1 := Lib.hid (show Below w.heap.size w w from Below.refl _ w)
  have ra_2 := Lib.hid (h1)
  clear h1
  have rb_3 := Lib.hid (h2)
  clear h2
  have rc_4 := Lib.hid (h3)
  clear h3
  have rd_5 := Lib.hid (h4)
  clear h4
  obtain ⟨o_, ho_⟩ : ∃ o, o = ((.cells #[.int .i64 c, .slice A n k, .slice B m j] 24) : Obj) := ⟨_, rfl⟩
  replace bel_1 := bA bel_1 o_
  replace ra_2 := rA ra_2 o_
  replace rb_3 := rA rb_3 o_
  replace rc_4 := rA rc_4 o_
  replace rd_5 := rA rd_5 o_
  subst ho_
  have ba_6 := Lib.hid (Blk.new w 24 #[.int .i64 c, .slice A n k, .slice B m j])
  obtain ⟨o_, ho_⟩ : ∃ o, o = ((.cells #[.int .i64 d, .slice C n2 k2, .slice D m2 j2] 24) : Obj) := ⟨_, rfl⟩
  replace bel_1 := bA bel_1 o_
  replace ra_2 := rA ra_2 o_
  replace rb_3 := rA rb_3 o_
  replace rc_4 := rA rc_4 o_
  replace rd_5 := rA rd_5 o_
  replace ba_6 := kA ba_6 o_
  subst ho_
  have nb_ := Blk.new (w.alloc (.cells #[.int .i64 c, .slice A n k, .slice B m j] 24)) 24 #[.int .i64 d, .slice C n2 k2, .slice D m2 j2]
  simp only [World.size_alloc] at nb_
  have bb_7 := Lib.hid nb_; clear nb_
  obtain ⟨o_, ho_⟩ : ∃ o, o = ((.cells #[.int .i64 p1, .int .i64 p2, .int .i64 p3, .int .i64 p4] 28) : Obj) := ⟨_, rfl⟩
  replace bel_1 := bA bel_1 o_
  replace ra_2 := rA ra_2 o_
  replace rb_3 := rA rb_3 o_
  replace rc_4 := rA rc_4 o_
  replace rd_5 := rA rd_5 o_
  replace ba_6 := kA ba_6 o_
  replace bb_7 := kA bb_7 o_
  subst ho_
  have nb_ := Blk.new ((w.alloc (.cells #[.int .i64 c, .slice A n k, .slice B m j] 24)).alloc (.cells #[.int .i64 d, .slice C n2 k2, .slice D m2 j2] 24)) 28 #[.int .i64 p1, .int .i64 p2, .int .i64 p3, .int .i64 p4]
  simp only [World.size_alloc] at nb_
  have bp_8 := Lib.hid nb_; clear nb_
  obtain ⟨z_9, z_10, z_11⟩ := at3 ba_6
  obtain ⟨z_12, z_13, z_14⟩ := at3 bb_7
  obtain ⟨z_15, z_16, z_17, z_18⟩ := at4 bp_8
  clear z_9 z_10 z_11 z_12 z_13 z_14 z_15 z_16 z_17 z_18
  obtain ⟨o_, ho_⟩ : ∃ o, o = ((.cells #[.int .i64 c, .slice A n k, .slice B m j, .int .i64 d, .slice C n2 k2, .slice D m2 j2] 24) : Obj) := ⟨_, rfl⟩
  replace bel_1 := bA bel_1 o_
  replace ra_2 := rA ra_2 o_
  replace rb_3 := rA rb_3 o_
  replace rc_4 := rA rc_4 o_
  replace rd_5 := rA rd_5 o_
  replace ba_6 := kA ba_6 o_
  replace bb_7 := kA bb_7 o_
  replace bp_8 := kA bp_8 o_
  subst ho_
  have nb_ := Blk.new (((w.alloc (.cells #[.int .i64 c, .slice A n k, .slice B m j] 24)).alloc (.cells #[.int .i64 d, .slice C n2 k2, .slice D m2 j2] 24)).alloc (.cells #[.int .i64 p1, .int .i64 p2, .int .i64 p3, .int .i64 p4] 28)) 24 #[.int .i64 c, .slice A n k, .slice B m j, .int .i64 d, .slice C n2 k2, .slice D m2 j2]
  simp only [World.size_alloc] at nb_
  have bs_19 := Lib.hid nb_; clear nb_
  have hc := (show Calls Tryz.prog 30 #[.slice (some ⟨w.heap.size + 1 + 1 + 1, 0, none⟩) 2 2] (((((w.alloc (.cells #[.int .i64 c, .slice A n k, .slice B m j] 24)).alloc (.cells #[.int .i64 d, .slice C n2 k2, .slice D m2 j2] 24)).alloc (.cells #[.int .i64 p1, .int .i64 p2, .int .i64 p3, .int .i64 p4] 28)).alloc (.cells #[.int .i64 c, .slice A n k, .slice B m j, .int .i64 d, .slice C n2 k2, .slice D m2 j2] 24))) fun e w' => e = .returned (.bool true) ∧ Below (((((w.alloc (.cells #[.int .i64 c, .slice A n k, .slice B m j] 24)).alloc (.cells #[.int .i64 d, .slice C n2 k2, .slice D m2 j2] 24)).alloc (.cells #[.int .i64 p1, .int .i64 p2, .int .i64 p3, .int .i64 p4] 28)).alloc (.cells #[.int .i64 c, .slice A n k, .slice B m j, .int .i64 d, .slice C n2 k2, .slice D m2 j2] 24))).heap.size (((((w.alloc (.cells #[.int .i64 c, .slice A n k, .slice B m j] 24)).alloc (.cells #[.int .i64 d, .slice C n2 k2, .slice D m2 j2] 24)).alloc (.cells #[.int .i64 p1, .int .i64 p2, .int .i64 p3, .int .i64 p4] 28)).alloc (.cells #[.int .i64 c, .slice A n k, .slice B m j, .int .i64 d, .slice C n2 k2, .slice D m2 j2] 24))) w' from by have h := small3_any c A B n k m j d C D n2 k2 m2 j2 (w.heap.size + 1 + 1 + 1) (((((w.alloc (.cells #[.int .i64 c, .slice A n k, .slice B m j] 24)).alloc (.cells #[.int .i64 d, .slice C n2 k2, .slice D m2 j2] 24)).alloc (.cells #[.int .i64 p1, .int .i64 p2, .int .i64 p3, .int .i64 p4] 28)).alloc (.cells #[.int .i64 c, .slice A n k, .slice B m j, .int .i64 d, .slice C n2 k2, .slice D m2 j2] 24))) bs_19.out; rw [show (decide (n ≤ 40) && decide (m ≤ 40) && decide (n2 ≤ 40) && decide (m2 ≤ 40)) = true from hs] at h; exact h)
  have HC := Lib.hid hc; clear hc
  go_wp2_with fail
  refine HC.out.mono ?_
  rintro e w_20 ⟨rfl, hb⟩
  clear HC
  replace bel_1 := bB bel_1 hb
  replace ra_2 := rB ra_2 hb
  replace rb_3 := rB rb_3 hb
  replace rc_4 := rB rc_4 hb
  replace rd_5 := rB rd_5 hb
  replace ba_6 := kB ba_6 hb
  replace bb_7 := kB bb_7 hb
  replace bp_8 := kB bp_8 hb
  replace bs_19 := kB bs_19 hb
  clear hb
  obtain ⟨z_21, z_22, z_23⟩ := at3 ba_6
  obtain ⟨z_24, z_25, z_26⟩ := at3 bb_7
  obtain ⟨z_27, z_28, z_29, z_30⟩ := at4 bp_8
  have hc := Meets_any c A B n k m j ws ts d C D n2 k2 m2 j2 ws2 ts2 p1 p2 p3 p4 _ ra_2.out rb_3.out hn hm rc_4.out rd_5.out hn2 hm2
  rw [E1.out] at hc
  try dsimp only at hc
  have HC := Lib.hid hc; clear hc
  go_wp2_with fail
  refine HC.out.mono ?_
  rintro e w_31 ⟨rfl, hb⟩
  clear HC
  clear z_21 z_22 z_23 z_24 z_25 z_26 z_27 z_28 z_29 z_30
  replace bel_1 := bB bel_1 hb
  replace ra_2 := rB ra_2 hb
  replace rb_3 := rB rb_3 hb
  replace rc_4 := rB rc_4 hb
  replace rd_5 := rB rd_5 hb
  replace ba_6 := kB ba_6 hb
  replace bb_7 := kB bb_7 hb
  replace bp_8 := kB bp_8 hb
  clear hb
  obtain ⟨z_32, z_33, z_34⟩ := at3 ba_6
  obtain ⟨z_35, z_36, z_37⟩ := at3 bb_7
  obtain ⟨z_38, z_39, z_40, z_41⟩ := at4 bp_8
  have hc := joined_any (w_31)
  have HC := Lib.hid hc; clear hc
  go_wp2_with fail
  refine HC.out.mono ?_
  rintro e w_42 ⟨rfl, hb⟩
  clear HC
  clear z_32 z_33 z_34 z_35 z_36 z_37 z_38 z_39 z_40 z_41
  replace bel_1 := bB bel_1 hb
  replace ra_2 := rB ra_2 hb
  replace rb_3 := rB rb_3 hb
  replace rc_4 := rB rc_4 hb
  replace rd_5 := rB rd_5 hb
  replace ba_6 := kB ba_6 hb
  replace bb_7 := kB bb_7 hb
  replace bp_8 := kB bp_8 hb
  clear hb
  obtain ⟨z_43, z_44, z_45⟩ := at3 ba_6
  obtain ⟨z_46, z_47, z_48⟩ := at3 bb_7
  obtain ⟨z_49, z_50, z_51, z_52⟩ := at4 bp_8
  go_wp2
  go_ret
  exact ⟨rfl, bel_1.out⟩
set_option maxRecDepth 100000 in
set_option maxHeartbeats 4000000 in
theorem ep_ok (c : Int) (A B : Option Addr) (n k m j : Nat) (ws ts : List Bnd) (d : Int) (C D : Option Addr) (n2 k2 m2 j2 : Nat) (ws2 ts2 : List Bnd) (p1 p2 p3 p4 : Int) (w : World) (h1 : RdB w A n k ws) (h2 : RdB w B m j ts) (hn : n ≤ maxLen) (hm : m ≤ maxLen) (h3 : RdB w C n2 k2 ws2) (h4 : RdB w D m2 j2 ts2) (hn2 : n2 ≤ maxLen) (hm2 : m2 ≤ maxLen) (hs : (decide (n ≤ 40) && decide (m ≤ 40) && decide (n2 ≤ 40) && decide (m2 ≤ 40)) = true) (hw : IntKind.i64.wrap (p2 - p1) = p2 - p1) (hl : ¬ p2 - p1 < 2) (w1 : IntKind.i64.wrap (p1 + 1) = p1 + 1) (w2 : IntKind.i64.wrap (p4 - 1) = p4 - 1) (w3 : IntKind.i64.wrap (p2 - 1) = p2 - 1) (w4 : IntKind.i64.wrap (p3 + 1) = p3 + 1)
 (E1 : Hid (meetsV ⟨c, ws, ts⟩ ⟨d, ws2, ts2⟩ ⟨p1, p2, p3, p4⟩ = (true, 0))) (E2 : Hid (meetsV ⟨c, ws, ts⟩ ⟨d, ws2, ts2⟩ ⟨p1 + 1, p2, p3, p4 - 1⟩ = (true, 0))) (E3 : Hid (meetsV ⟨c, ws, ts⟩ ⟨d, ws2, ts2⟩ ⟨p1, p2 - 1, p3 + 1, p4⟩ = (true, 0))) :
 Calls Tryz.prog 13 #[.agg #[.int .i64 c, .slice A n k, .slice B m j], .agg #[.int .i64 d, .slice C n2 k2, .slice D m2 j2], .agg #[.int .i64 p1, .int .i64 p2, .int .i64 p3, .int .i64 p4]] w fun e w' => e = .returned (.bool true) ∧ Below w.heap.size w w' := by
  go_enter Tryz.func13, Tryz.ntmps13
  have bel_1 := Lib.hid (show Below w.heap.size w w from Below.refl _ w)
  have ra_2 := Lib.hid (h1)
  clear h1
  have rb_3 := Lib.hid (h2)
  clear h2
  have rc_4 := Lib.hid (h3)
  clear h3
  have rd_5 := Lib.hid (h4)
  clear h4
  obtain ⟨o_, ho_⟩ : ∃ o, o = ((.cells #[.int .i64 c, .slice A n k, .slice B m j] 24) : Obj) := ⟨_, rfl⟩
  replace bel_1 := bA bel_1 o_
  replace ra_2 := rA ra_2 o_
  replace rb_3 := rA rb_3 o_
  replace rc_4 := rA rc_4 o_
  replace rd_5 := rA rd_5 o_
  subst ho_
  have ba_6 := Lib.hid (Blk.new w 24 #[.int .i64 c, .slice A n k, .slice B m j])
  obtain ⟨o_, ho_⟩ : ∃ o, o = ((.cells #[.int .i64 d, .slice C n2 k2, .slice D m2 j2] 24) : Obj) := ⟨_, rfl⟩
  replace bel_1 := bA bel_1 o_
  replace ra_2 := rA ra_2 o_
  replace rb_3 := rA rb_3 o_
  replace rc_4 := rA rc_4 o_
  replace rd_5 := rA rd_5 o_
  replace ba_6 := kA ba_6 o_
  subst ho_
  have nb_ := Blk.new (w.alloc (.cells #[.int .i64 c, .slice A n k, .slice B m j] 24)) 24 #[.int .i64 d, .slice C n2 k2, .slice D m2 j2]
  simp only [World.size_alloc] at nb_
  have bb_7 := Lib.hid nb_; clear nb_
  obtain ⟨o_, ho_⟩ : ∃ o, o = ((.cells #[.int .i64 p1, .int .i64 p2, .int .i64 p3, .int .i64 p4] 28) : Obj) := ⟨_, rfl⟩
  replace bel_1 := bA bel_1 o_
  replace ra_2 := rA ra_2 o_
  replace rb_3 := rA rb_3 o_
  replace rc_4 := rA rc_4 o_
  replace rd_5 := rA rd_5 o_
  replace ba_6 := kA ba_6 o_
  replace bb_7 := kA bb_7 o_
  subst ho_
  have nb_ := Blk.new ((w.alloc (.cells #[.int .i64 c, .slice A n k, .slice B m j] 24)).alloc (.cells #[.int .i64 d, .slice C n2 k2, .slice D m2 j2] 24)) 28 #[.int .i64 p1, .int .i64 p2, .int .i64 p3, .int .i64 p4]
  simp only [World.size_alloc] at nb_
  have bp_8 := Lib.hid nb_; clear nb_
  obtain ⟨z_9, z_10, z_11⟩ := at3 ba_6
  obtain ⟨z_12, z_13, z_14⟩ := at3 bb_7
  obtain ⟨z_15, z_16, z_17, z_18⟩ := at4 bp_8
  clear z_9 z_10 z_11 z_12 z_13 z_14 z_15 z_16 z_17 z_18
  obtain ⟨o_, ho_⟩ : ∃ o, o = ((.cells #[.int .i64 c, .slice A n k, .slice B m j, .int .i64 d, .slice C n2 k2, .slice D m2 j2] 24) : Obj) := ⟨_, rfl⟩
  replace bel_1 := bA bel_1 o_
  replace ra_2 := rA ra_2 o_
  replace rb_3 := rA rb_3 o_
  replace rc_4 := rA rc_4 o_
  replace rd_5 := rA rd_5 o_
  replace ba_6 := kA ba_6 o_
  replace bb_7 := kA bb_7 o_
  replace bp_8 := kA bp_8 o_
  subst ho_
  have nb_ := Blk.new (((w.alloc (.cells #[.int .i64 c, .slice A n k, .slice B m j] 24)).alloc (.cells #[.int .i64 d, .slice C n2 k2, .slice D m2 j2] 24)).alloc (.cells #[.int .i64 p1, .int .i64 p2, .int .i64 p3, .int .i64 p4] 28)) 24 #[.int .i64 c, .slice A n k, .slice B m j, .int .i64 d, .slice C n2 k2, .slice D m2 j2]
  simp only [World.size_alloc] at nb_
  have bs_19 := Lib.hid nb_; clear nb_
  have hc := (show Calls Tryz.prog 30 #[.slice (some ⟨w.heap.size + 1 + 1 + 1, 0, none⟩) 2 2] (((((w.alloc (.cells #[.int .i64 c, .slice A n k, .slice B m j] 24)).alloc (.cells #[.int .i64 d, .slice C n2 k2, .slice D m2 j2] 24)).alloc (.cells #[.int .i64 p1, .int .i64 p2, .int .i64 p3, .int .i64 p4] 28)).alloc (.cells #[.int .i64 c, .slice A n k, .slice B m j, .int .i64 d, .slice C n2 k2, .slice D m2 j2] 24))) fun e w' => e = .returned (.bool true) ∧ Below (((((w.alloc (.cells #[.int .i64 c, .slice A n k, .slice B m j] 24)).alloc (.cells #[.int .i64 d, .slice C n2 k2, .slice D m2 j2] 24)).alloc (.cells #[.int .i64 p1, .int .i64 p2, .int .i64 p3, .int .i64 p4] 28)).alloc (.cells #[.int .i64 c, .slice A n k, .slice B m j, .int .i64 d, .slice C n2 k2, .slice D m2 j2] 24))).heap.size (((((w.alloc (.cells #[.int .i64 c, .slice A n k, .slice B m j] 24)).alloc (.cells #[.int .i64 d, .slice C n2 k2, .slice D m2 j2] 24)).alloc (.cells #[.int .i64 p1, .int .i64 p2, .int .i64 p3, .int .i64 p4] 28)).alloc (.cells #[.int .i64 c, .slice A n k, .slice B m j, .int .i64 d, .slice C n2 k2, .slice D m2 j2] 24))) w' from by have h := small3_any c A B n k m j d C D n2 k2 m2 j2 (w.heap.size + 1 + 1 + 1) (((((w.alloc (.cells #[.int .i64 c, .slice A n k, .slice B m j] 24)).alloc (.cells #[.int .i64 d, .slice C n2 k2, .slice D m2 j2] 24)).alloc (.cells #[.int .i64 p1, .int .i64 p2, .int .i64 p3, .int .i64 p4] 28)).alloc (.cells #[.int .i64 c, .slice A n k, .slice B m j, .int .i64 d, .slice C n2 k2, .slice D m2 j2] 24))) bs_19.out; rw [show (decide (n ≤ 40) && decide (m ≤ 40) && decide (n2 ≤ 40) && decide (m2 ≤ 40)) = true from hs] at h; exact h)
  have HC := Lib.hid hc; clear hc
  go_wp2_with fail
  refine HC.out.mono ?_
  rintro e w_20 ⟨rfl, hb⟩
  clear HC
  replace bel_1 := bB bel_1 hb
  replace ra_2 := rB ra_2 hb
  replace rb_3 := rB rb_3 hb
  replace rc_4 := rB rc_4 hb
  replace rd_5 := rB rd_5 hb
  replace ba_6 := kB ba_6 hb
  replace bb_7 := kB bb_7 hb
  replace bp_8 := kB bp_8 hb
  replace bs_19 := kB bs_19 hb
  clear hb
  obtain ⟨z_21, z_22, z_23⟩ := at3 ba_6
  obtain ⟨z_24, z_25, z_26⟩ := at3 bb_7
  obtain ⟨z_27, z_28, z_29, z_30⟩ := at4 bp_8
  have hc := Meets_any c A B n k m j ws ts d C D n2 k2 m2 j2 ws2 ts2 p1 p2 p3 p4 _ ra_2.out rb_3.out hn hm rc_4.out rd_5.out hn2 hm2
  rw [E1.out] at hc
  try dsimp only at hc
  have HC := Lib.hid hc; clear hc
  go_wp2_with fail
  refine HC.out.mono ?_
  rintro e w_31 ⟨rfl, hb⟩
  clear HC
  clear z_21 z_22 z_23 z_24 z_25 z_26 z_27 z_28 z_29 z_30
  replace bel_1 := bB bel_1 hb
  replace ra_2 := rB ra_2 hb
  replace rb_3 := rB rb_3 hb
  replace rc_4 := rB rc_4 hb
  replace rd_5 := rB rd_5 hb
  replace ba_6 := kB ba_6 hb
  replace bb_7 := kB bb_7 hb
  replace bp_8 := kB bp_8 hb
  clear hb
  obtain ⟨z_32, z_33, z_34⟩ := at3 ba_6
  obtain ⟨z_35, z_36, z_37⟩ := at3 bb_7
  obtain ⟨z_38, z_39, z_40, z_41⟩ := at4 bp_8
  have hc := of_any (p1 + 1) p2 p3 (p4 - 1) (w_31)
  have HC := Lib.hid hc; clear hc
  go_wp2_with fail
  refine HC.out.mono ?_
  rintro e w_42 ⟨rfl, hb⟩
  clear HC
  clear z_32 z_33 z_34 z_35 z_36 z_37 z_38 z_39 z_40 z_41
  replace bel_1 := bB bel_1 hb
  replace ra_2 := rB ra_2 hb
  replace rb_3 := rB rb_3 hb
  replace rc_4 := rB rc_4 hb
  replace rd_5 := rB rd_5 hb
  replace ba_6 := kB ba_6 hb
  replace bb_7 := kB bb_7 hb
  replace bp_8 := kB bp_8 hb
  clear hb
  obtain ⟨z_43, z_44, z_45⟩ := at3 ba_6
  obtain ⟨z_46, z_47, z_48⟩ := at3 bb_7
  obtain ⟨z_49, z_50, z_51, z_52⟩ := at4 bp_8
  obtain ⟨o_, ho_⟩ : ∃ o, o = ((.cells #[.int .i64 (p1 + 1), .int .i64 p2, .int .i64 p3, .int .i64 (p4 - 1)] 28) : Obj) := ⟨_, rfl⟩
  replace bel_1 := bA bel_1 o_
  replace ra_2 := rA ra_2 o_
  replace rb_3 := rA rb_3 o_
  replace rc_4 := rA rc_4 o_
  replace rd_5 := rA rd_5 o_
  replace ba_6 := kA ba_6 o_
  replace bb_7 := kA bb_7 o_
  replace bp_8 := kA bp_8 o_
  subst ho_
  have bf_53 := Lib.hid (Blk.new w_42 28 #[.int .i64 (p1 + 1), .int .i64 p2, .int .i64 p3, .int .i64 (p4 - 1)])
  obtain ⟨z_54, z_55, z_56⟩ := at3 ba_6
  obtain ⟨z_57, z_58, z_59⟩ := at3 bb_7
  obtain ⟨z_60, z_61, z_62, z_63⟩ := at4 bp_8
  obtain ⟨z_64, z_65, z_66, z_67⟩ := at4 bf_53
  have hc := of_any p1 (p2 - 1) (p3 + 1) p4 ((w_42.alloc (.cells #[.int .i64 (p1 + 1), .int .i64 p2, .int .i64 p3, .int .i64 (p4 - 1)] 28)))
  have HC := Lib.hid hc; clear hc
  go_wp2_with fail
  refine HC.out.mono ?_
  rintro e w_68 ⟨rfl, hb⟩
  clear HC
  clear z_43 z_44 z_45 z_46 z_47 z_48 z_49 z_50 z_51 z_52 z_54 z_55 z_56 z_57 z_58 z_59 z_60 z_61 z_62 z_63 z_64 z_65 z_66 z_67
  replace bel_1 := bB bel_1 hb
  replace ra_2 := rB ra_2 hb
  replace rb_3 := rB rb_3 hb
  replace rc_4 := rB rc_4 hb
  replace rd_5 := rB rd_5 hb
  replace ba_6 := kB ba_6 hb
  replace bb_7 := kB bb_7 hb
  replace bp_8 := kB bp_8 hb
  replace bf_53 := kB bf_53 hb
  clear hb
  obtain ⟨z_69, z_70, z_71⟩ := at3 ba_6
  obtain ⟨z_72, z_73, z_74⟩ := at3 bb_7
  obtain ⟨z_75, z_76, z_77, z_78⟩ := at4 bp_8
  obtain ⟨z_79, z_80, z_81, z_82⟩ := at4 bf_53
  obtain ⟨o_, ho_⟩ : ∃ o, o = ((.cells #[.int .i64 p1, .int .i64 (p2 - 1), .int .i64 (p3 + 1), .int .i64 p4] 28) : Obj) := ⟨_, rfl⟩
  replace bel_1 := bA bel_1 o_
  replace ra_2 := rA ra_2 o_
  replace rb_3 := rA rb_3 o_
  replace rc_4 := rA rc_4 o_
  replace rd_5 := rA rd_5 o_
  replace ba_6 := kA ba_6 o_
  replace bb_7 := kA bb_7 o_
  replace bp_8 := kA bp_8 o_
  replace bf_53 := kA bf_53 o_
  subst ho_
  have bk_83 := Lib.hid (Blk.new w_68 28 #[.int .i64 p1, .int .i64 (p2 - 1), .int .i64 (p3 + 1), .int .i64 p4])
  obtain ⟨z_84, z_85, z_86⟩ := at3 ba_6
  obtain ⟨z_87, z_88, z_89⟩ := at3 bb_7
  obtain ⟨z_90, z_91, z_92, z_93⟩ := at4 bp_8
  obtain ⟨z_94, z_95, z_96, z_97⟩ := at4 bf_53
  obtain ⟨z_98, z_99, z_100, z_101⟩ := at4 bk_83
  have hc := Meets_any c A B n k m j ws ts d C D n2 k2 m2 j2 ws2 ts2 (p1 + 1) p2 p3 (p4 - 1) _ ra_2.out rb_3.out hn hm rc_4.out rd_5.out hn2 hm2
  rw [E2.out] at hc
  try dsimp only at hc
  have HC := Lib.hid hc; clear hc
  go_wp2_with fail
  refine HC.out.mono ?_
  rintro e w_102 ⟨rfl, hb⟩
  clear HC
  clear z_69 z_70 z_71 z_72 z_73 z_74 z_75 z_76 z_77 z_78 z_79 z_80 z_81 z_82 z_84 z_85 z_86 z_87 z_88 z_89 z_90 z_91 z_92 z_93 z_94 z_95 z_96 z_97 z_98 z_99 z_100 z_101
  replace bel_1 := bB bel_1 hb
  replace ra_2 := rB ra_2 hb
  replace rb_3 := rB rb_3 hb
  replace rc_4 := rB rc_4 hb
  replace rd_5 := rB rd_5 hb
  replace ba_6 := kB ba_6 hb
  replace bb_7 := kB bb_7 hb
  replace bp_8 := kB bp_8 hb
  replace bf_53 := kB bf_53 hb
  replace bk_83 := kB bk_83 hb
  clear hb
  obtain ⟨z_103, z_104, z_105⟩ := at3 ba_6
  obtain ⟨z_106, z_107, z_108⟩ := at3 bb_7
  obtain ⟨z_109, z_110, z_111, z_112⟩ := at4 bp_8
  obtain ⟨z_113, z_114, z_115, z_116⟩ := at4 bf_53
  obtain ⟨z_117, z_118, z_119, z_120⟩ := at4 bk_83
  have hc := Meets_any c A B n k m j ws ts d C D n2 k2 m2 j2 ws2 ts2 p1 (p2 - 1) (p3 + 1) p4 _ ra_2.out rb_3.out hn hm rc_4.out rd_5.out hn2 hm2
  rw [E3.out] at hc
  try dsimp only at hc
  have HC := Lib.hid hc; clear hc
  go_wp2_with fail
  refine HC.out.mono ?_
  rintro e w_121 ⟨rfl, hb⟩
  clear HC
  clear z_103 z_104 z_105 z_106 z_107 z_108 z_109 z_110 z_111 z_112 z_113 z_114 z_115 z_116 z_117 z_118 z_119 z_120
  replace bel_1 := bB bel_1 hb
  replace ra_2 := rB ra_2 hb
  replace rb_3 := rB rb_3 hb
  replace rc_4 := rB rc_4 hb
  replace rd_5 := rB rd_5 hb
  replace ba_6 := kB ba_6 hb
  replace bb_7 := kB bb_7 hb
  replace bp_8 := kB bp_8 hb
  replace bf_53 := kB bf_53 hb
  replace bk_83 := kB bk_83 hb
  clear hb
  obtain ⟨z_122, z_123, z_124⟩ := at3 ba_6
  obtain ⟨z_125, z_126, z_127⟩ := at3 bb_7
  obtain ⟨z_128, z_129, z_130, z_131⟩ := at4 bp_8
  obtain ⟨z_132, z_133, z_134, z_135⟩ := at4 bf_53
  obtain ⟨z_136, z_137, z_138, z_139⟩ := at4 bk_83
  have hc := joined_any (w_121)
  have HC := Lib.hid hc; clear hc
  go_wp2_with fail
  refine HC.out.mono ?_
  rintro e w_140 ⟨rfl, hb⟩
  clear HC
  clear z_122 z_123 z_124 z_125 z_126 z_127 z_128 z_129 z_130 z_131 z_132 z_133 z_134 z_135 z_136 z_137 z_138 z_139
  replace bel_1 := bB bel_1 hb
  replace ra_2 := rB ra_2 hb
  replace rb_3 := rB rb_3 hb
  replace rc_4 := rB rc_4 hb
  replace rd_5 := rB rd_5 hb
  replace ba_6 := kB ba_6 hb
  replace bb_7 := kB bb_7 hb
  replace bp_8 := kB bp_8 hb
  replace bf_53 := kB bf_53 hb
  replace bk_83 := kB bk_83 hb
  clear hb
  obtain ⟨z_141, z_142, z_143⟩ := at3 ba_6
  obtain ⟨z_144, z_145, z_146⟩ := at3 bb_7
  obtain ⟨z_147, z_148, z_149, z_150⟩ := at4 bp_8
  obtain ⟨z_151, z_152, z_153, z_154⟩ := at4 bf_53
  obtain ⟨z_155, z_156, z_157, z_158⟩ := at4 bk_83
  go_wp2
  go_ret
  exact ⟨rfl, bel_1.out⟩
set_option maxRecDepth 100000 in
theorem ep_walk (w : World) (c : Int) (A : Option Addr) (n k : Nat) (B : Option Addr) (m j : Nat) (ws ts : List Bnd) (_ : (Lit.int .i64 c).wf = true) (h1 : RdB w A n k ws) (h2 : RdB w B m j ts) (hn : n ≤ maxLen) (hm : m ≤ maxLen) (d : Int) (C : Option Addr) (n2 k2 : Nat) (D : Option Addr) (m2 j2 : Nat) (ws2 ts2 : List Bnd) (_ : (Lit.int .i64 d).wf = true) (h3 : RdB w C n2 k2 ws2) (h4 : RdB w D m2 j2 ts2) (hn2 : n2 ≤ maxLen) (hm2 : m2 ≤ maxLen) (p1 p2 p3 p4 : Int) :
 Calls Tryz.prog 13 #[.agg #[.int .i64 c, .slice A n k, .slice B m j], .agg #[.int .i64 d, .slice C n2 k2, .slice D m2 j2], .agg #[.int .i64 p1, .int .i64 p2, .int .i64 p3, .int .i64 p4]] w fun e w' => e = .returned (.bool true) ∧ Below w.heap.size w w' := by
 cases hs : (decide (n ≤ 40) && decide (m ≤ 40) && decide (n2 ≤ 40) && decide (m2 ≤ 40))
 · exact ep_w c A B n k m j ws ts d C D n2 k2 m2 j2 ws2 ts2 p1 p2 p3 p4 w h1 h2 hn hm h3 h4 hn2 hm2 hs
 · by_cases hq : asked ⟨c, ws, ts⟩ ⟨d, ws2, ts2⟩ ⟨p1, p2, p3, p4⟩ = 0
   · have hM : meetsV ⟨c, ws, ts⟩ ⟨d, ws2, ts2⟩ ⟨p1, p2, p3, p4⟩ = (meetsB ⟨c, ws, ts⟩ ⟨d, ws2, ts2⟩ ⟨p1, p2, p3, p4⟩, 0) := by unfold meetsV; rw [if_pos hq]
     cases hmt : meetsB ⟨c, ws, ts⟩ ⟨d, ws2, ts2⟩ ⟨p1, p2, p3, p4⟩
     · rw [hmt] at hM
       exact ep_not c A B n k m j ws ts d C D n2 k2 m2 j2 ws2 ts2 p1 p2 p3 p4 w h1 h2 hn hm h3 h4 hn2 hm2 hs (Lib.hid hM)
     · rw [hmt] at hM
       obtain ⟨hoa, hob, sa, sb, hk⟩ := chkP_ok (asked_ok hq).1
       obtain ⟨a1, a2, -, -⟩ := chkO_ok hoa
       obtain ⟨b1, b2, -, -⟩ := chkO_ok hob
       dsimp only at a1 a2 b1 b2 sa sb hk
       have hw : IntKind.i64.wrap (p2 - p1) = p2 - p1 := IntWalk.i64_in _ (by omega)
       by_cases hl : p2 - p1 < 2
       · exact ep_short c A B n k m j ws ts d C D n2 k2 m2 j2 ws2 ts2 p1 p2 p3 p4 w h1 h2 hn hm h3 h4 hn2 hm2 hs hw hl (Lib.hid hM)
       · obtain ⟨ka, kb⟩ := asked_front hq (by dsimp only; omega)
         have m1 := meets_front hq (by dsimp only; omega) hmt
         have m2_ := meets_back hq (by dsimp only; omega) hmt
         dsimp only at ka kb m1 m2_
         exact ep_ok c A B n k m j ws ts d C D n2 k2 m2 j2 ws2 ts2 p1 p2 p3 p4 w h1 h2 hn hm h3 h4 hn2 hm2 hs hw hl (IntWalk.i64_in _ (by omega)) (IntWalk.i64_in _ (by omega)) (IntWalk.i64_in _ (by omega)) (IntWalk.i64_in _ (by omega)) (Lib.hid hM)
          (Lib.hid (by unfold meetsV; rw [if_pos ka, m1])) (Lib.hid (by unfold meetsV; rw [if_pos kb, m2_]))
   · exact ep_err c A B n k m j ws ts d C D n2 k2 m2 j2 ws2 ts2 p1 p2 p3 p4 w h1 h2 hn hm h3 h4 hn2 hm2 hs false _ (by simpa using hq) (Lib.hid (by unfold meetsV; rw [if_neg hq]))
set_option maxRecDepth 100000 in
theorem edgeParts_lifted (os : Os) (started : os.Started) (H : Type) (enc : TypeId × Value → H) :
 ReturnsInHanded {} Tryz.checked os 13 .any (Rows.edgePartsSpec.pre6 enc Tryz.prog Tryz.f13 Rows.edgePartsRow.domain false) (Rows.edgePartsSpec.post enc Tryz.prog Tryz.f13 false true false false) := by
 refine returnsInHanded_of_change (C := Tryz.checked) Law.own started (by kernel_rfl) Tryz.func13
  (ChangeSpec.witness6 (enc := enc) (C := Tryz.checked) false ⟨#[], #[.agg #[.int .i64 0, .slice none 0 0, .slice none 0 0], .agg #[.int .i64 0, .slice none 0 0, .slice none 0 0], .agg #[.int .i64 0, .int .i64 0, .int .i64 0, .int .i64 0]], []⟩ 8 (by kernel_rfl) (by kernel_rfl) (by kernel_rfl) (by kernel_rfl)) ?_
 intro W base args ds gs before hval0 hW hcnd _
 have hval : ∀ (j : Nat) t v, Tryz.f13.params[j]? = some t → args[j]? = some v → Value.okWide Tryz.prog W .any base t v := hval0
 have hW' := hW
 obtain ⟨p, q, hA0, hV, rfl, hfz, hnd⟩ := hW
 have hA : DataW.TrodAll enc Tryz.prog W 0 (fun _ => true) true Tryz.f13.params.toList args.toList ds p := hA0
 rw [Tryz.params13] at hA hval
 obtain ⟨v0, vs0, d0, ds0, p0, q0, hargs, rfl, rfl, h0, r0⟩ := trodAll_cons hA
 obtain ⟨v1, vs1, d1, ds1, p1, q1, rfl, rfl, rfl, h1, r1⟩ := trodAll_cons r0
 obtain ⟨v2, vs2, d2, ds2, p2, q2, rfl, rfl, rfl, h2, r2⟩ := trodAll_cons r1
 obtain ⟨rfl, rfl, rfl⟩ := trodAll_nil r2
 obtain rfl : args = #[v0, v1, v2] := by cases args; simp_all
 obtain ⟨rfl, rfl⟩ := trodVars_none hV
 have k0 := h0
 have lt0 : ∀ x ∈ p0, x.block < W.heap.size := by obtain ⟨m, hm⟩ := k0; exact DataW.trod_lt m _ _ _ hm
 obtain ⟨c0, A0, n0, k0', B0, m0, j0, ws0, ts0, rfl, w0, ra0, rb0, xa0, xb0⟩ := open_outl (hval 0 24 v0 rfl rfl) h0
 have k1 := h1
 have lt1 : ∀ x ∈ p1, x.block < W.heap.size := by obtain ⟨m, hm⟩ := k1; exact DataW.trod_lt m _ _ _ hm
 obtain ⟨c1, A1, n1, k1', B1, m1, j1, ws1, ts1, rfl, w1, ra1, rb1, xa1, xb1⟩ := open_outl (hval 1 24 v1 rfl rfl) h1
 have k2 := h2
 have lt2 : ∀ x ∈ p2, x.block < W.heap.size := by obtain ⟨m, hm⟩ := k2; exact DataW.trod_lt m _ _ _ hm
 obtain ⟨f2, t2, m2, i2, rfl⟩ := open_pair (hval 2 28 v2 rfl rfl) h2
 clear hA0 hval0
 refine (ep_walk W c0 A0 n0 k0' B0 m0 j0 ws0 ts0 w0 ra0 rb0 xa0 xb0 c1 A1 n1 k1' B1 m1 j1 ws1 ts1 w1 ra1 rb1 xa1 xb1 f2 t2 m2 i2).mono fun e W' ⟨he, bel⟩ => ?_
 subst he
 exact ⟨_, rfl, _, _, _, [], _, [], hW', trodAll_mk1 (shut_bool Tryz.underlying4 _), (trodAll_cons_mk (Below.trod Law.laidOut (by kernel_rfl) (of_decide_eq_true (by kernel_rfl)) k0 bel lt0) (trodAll_cons_mk (Below.trod Law.laidOut (by kernel_rfl) (of_decide_eq_true (by kernel_rfl)) k1 bel lt1) (trodAll_cons_mk (Below.trod Law.laidOut (by kernel_rfl) (of_decide_eq_true (by kernel_rfl)) k2 bel lt2) trodAll_mk0))), rfl, bel.frame _, fun h => by cases h⟩
theorem edgeParts_over : Rows.edgePartsRow.holds Tryz.pinned (OpenSpec.ofChange Rows.edgePartsSpec) :=
 OpenClaim.holds_of_wide 13 Tryz.f13 rfl rfl rfl rfl rfl rfl rfl ⟨rfl, rfl, rfl, rfl, rfl⟩ rfl rfl rfl rfl rfl (by kernel_rfl) Tryz.func13 (by kernel_rfl)
  (of_decide_eq_true (by kernel_rfl)) (by unfold Func.isWrapper; first | (rw [if_pos (by decide +kernel)]; kernel_rfl) | (rw [if_neg (by decide +kernel)]; exact ⟨rfl, rfl⟩))
  (fun os started H enc _ => edgeParts_lifted os started H enc)
theorem edgeParts_proved : Rows.EdgePartsSaid := edgeParts_over
end Go.Proofs.YtaoanagmgheicaaGreat
