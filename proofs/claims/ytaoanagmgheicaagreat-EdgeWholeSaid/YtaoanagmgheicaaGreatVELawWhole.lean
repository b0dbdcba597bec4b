import Derived.Test.YtaoanagmgheicaaGreatRows
import Derived.Test.YtaoanagmgheicaaGreatSEOpen
import Derived.Test.YtaoanagmgheicaaGreatVEWholeM
set_option linter.unusedSimpArgs false
set_option linter.unusedVariables false
namespace Go.Proofs.YtaoanagmgheicaaGreat
open Go.ChangeShapes Go.WideShapes Go.ChangeAt Go.RowKit
set_option maxRecDepth 100000 in
set_option maxHeartbeats 4000000 in
theorem ew_c (c : Int) (A B : Option Addr) (n k m j : Nat) (ws ts : List Bnd) (d : Int) (C D : Option Addr) (n2 k2 m2 j2 : Nat) (ws2 ts2 : List Bnd) (p1 p2 p3 p4 : Int) (w : World) (h1 : RdB w A n k ws) (h2 : RdB w B m j ts) (hn : n ≤ maxLen) (hm : m ≤ maxLen) (h3 : RdB w C n2 k2 ws2) (h4 : RdB w D m2 j2 ts2) (hn2 : n2 ≤ maxLen) (hm2 : m2 ≤ maxLen) (h : 6 < c) : Calls Tryz.prog 14 #[.agg #[.int .i64 c, .slice A n k, .slice B m j], .agg #[.int .i64 d, .slice C n2 k2, .slice D m2 j2], .agg #[.int .i64 p1, .int .i64 p2, .int .i64 p3, .int .i64 p4]] w fun e w' => e = .returned (.bool true) ∧ Below w.heap.size w w' := by
 go_enter Tryz.func14, Tryz.ntmps14
 have bel_1 := Lib.hid (show Below w.heap.size w w from Below.refl _ w)
 have ra_2 := Lib.hid (h1)
 clear h1
 have rb_3 := Lib.hid (h2)
 clear h2
 have rc_4 := Lib.hid (h3)
 clear h3
 have rd_5 := Lib.hid (h4)
 clear h4
 obtain ⟨o_, ho_⟩ : ∃ o, o = ((.cells #[.int .i64 c, .slice A n k, .slice B m j] 24) : Obj) := ⟨_, rfl⟩
 replace bel_1 := bA bel_1 o_
 replace ra_2 := rA ra_2 o_
 replace rb_3 := rA rb_3 o_
 replace rc_4 := rA rc_4 o_
 replace rd_5 := rA rd_5 o_
 subst ho_
 have ba_6 := Lib.hid (Blk.new w 24 #[.int .i64 c, .slice A n k, .slice B m j])
 obtain ⟨o_, ho_⟩ : ∃ o, o = ((.cells #[.int .i64 d, .slice C n2 k2, .slice D m2 j2] 24) : Obj) := ⟨_, rfl⟩
 replace bel_1 := bA bel_1 o_
 replace ra_2 := rA ra_2 o_
 replace rb_3 := rA rb_3 o_
 replace rc_4 := rA rc_4 o_
 replace rd_5 := rA rd_5 o_
 replace ba_6 := kA ba_6 o_
 subst ho_
 have nb_ := Blk.new (w.alloc (.cells #[.int .i64 c, .slice A n k, .slice B m j] 24)) 24 #[.int .i64 d, .slice C n2 k2, .slice D m2 j2]
 simp only [World.size_alloc] at nb_
 have bb_7 := Lib.hid nb_; clear nb_
 obtain ⟨o_, ho_⟩ : ∃ o, o = ((.cells #[.int .i64 p1, .int .i64 p2, .int .i64 p3, .int .i64 p4] 28) : Obj) := ⟨_, rfl⟩
 replace bel_1 := bA bel_1 o_
 replace ra_2 := rA ra_2 o_
 replace rb_3 := rA rb_3 o_
 replace rc_4 := rA rc_4 o_
 replace rd_5 := rA rd_5 o_
 replace ba_6 := kA ba_6 o_
 replace bb_7 := kA bb_7 o_
 subst ho_
 have nb_ := Blk.new ((w.alloc (.cells #[.int .i64 c, .slice A n k, .slice B m j] 24)).alloc (.cells #[.int .i64 d, .slice C n2 k2, .slice D m2 j2] 24)) 28 #[.int .i64 p1, .int .i64 p2, .int .i64 p3, .int .i64 p4]
 simp only [World.size_alloc] at nb_
 have bp_8 := Lib.hid nb_; clear nb_
 obtain ⟨z_9, z_10, z_11⟩ := at3 ba_6
 obtain ⟨z_12, z_13, z_14⟩ := at3 bb_7
 obtain ⟨z_15, z_16, z_17, z_18⟩ := at4 bp_8
 have hc := joined_any ((((w.alloc (.cells #[.int .i64 c, .slice A n k, .slice B m j] 24)).alloc (.cells #[.int .i64 d, .slice C n2 k2, .slice D m2 j2] 24)).alloc (.cells #[.int .i64 p1, .int .i64 p2, .int .i64 p3, .int .i64 p4] 28)))
 have HC := Lib.hid hc; clear hc
 go_wp2_with fail
 refine HC.out.mono ?_
 rintro e w_19 ⟨rfl, hb⟩
 clear HC
 clear z_9 z_10 z_11 z_12 z_13 z_14 z_15 z_16 z_17 z_18
 replace bel_1 := bB bel_1 hb
 replace ra_2 := rB ra_2 hb
 replace rb_3 := rB rb_3 hb
 replace rc_4 := rB rc_4 hb
 replace rd_5 := rB rd_5 hb
 replace ba_6 := kB ba_6 hb
 replace bb_7 := kB bb_7 hb
 replace bp_8 := kB bp_8 hb
 clear hb
 obtain ⟨z_20, z_21, z_22⟩ := at3 ba_6
 obtain ⟨z_23, z_24, z_25⟩ := at3 bb_7
 obtain ⟨z_26, z_27, z_28, z_29⟩ := at4 bp_8
 go_wp2
 go_ret
 exact ⟨rfl, bel_1.out⟩
set_option maxRecDepth 100000 in
set_option maxHeartbeats 4000000 in
theorem ew_d (c : Int) (A B : Option Addr) (n k m j : Nat) (ws ts : List Bnd) (d : Int) (C D : Option Addr) (n2 k2 m2 j2 : Nat) (ws2 ts2 : List Bnd) (p1 p2 p3 p4 : Int) (w : World) (h1 : RdB w A n k ws) (h2 : RdB w B m j ts) (hn : n ≤ maxLen) (hm : m ≤ maxLen) (h3 : RdB w C n2 k2 ws2) (h4 : RdB w D m2 j2 ts2) (hn2 : n2 ≤ maxLen) (hm2 : m2 ≤ maxLen) (h : ¬ 6 < c) (h' : 6 < d) : Calls Tryz.prog 14 #[.agg #[.int .i64 c, .slice A n k, .slice B m j], .agg #[.int .i64 d, .slice C n2 k2, .slice D m2 j2], .agg #[.int .i64 p1, .int .i64 p2, .int .i64 p3, .int .i64 p4]] w fun e w' => e = .returned (.bool true) ∧ Below w.heap.size w w' := by
 go_enter Tryz.func14, Tryz.ntmps14
 have bel_1 := Lib.hid (show Below w.heap.size w w from Below.refl _ w)
 have ra_2 := Lib.hid (h1)
 clear h1
 have rb_3 := Lib.hid (h2)
 clear h2
 have rc_4 := Lib.hid (h3)
 clear h3
 have rd_5 := Lib.hid (h4)
 clear h4
 obtain ⟨o_, ho_⟩ : ∃ o, o = ((.cells #[.int .i64 c, .slice A n k, .slice B m j] 24) : Obj) := ⟨_, rfl⟩
 replace bel_1 := bA bel_1 o_
 replace ra_2 := rA ra_2 o_
 replace rb_3 := rA rb_3 o_
 replace rc_4 := rA rc_4 o_
 replace rd_5 := rA rd_5 o_
 subst ho_
 have ba_6 := Lib.hid (Blk.new w 24 #[.int .i64 c, .slice A n k, .slice B m j])
 obtain ⟨o_, ho_⟩ : ∃ o, o = ((.cells #[.int .i64 d, .slice C n2 k2, .slice D m2 j2] 24) : Obj) := ⟨_, rfl⟩
 replace bel_1 := bA bel_1 o_
 replace ra_2 := rA ra_2 o_
 replace rb_3 := rA rb_3 o_
 replace rc_4 := rA rc_4 o_
 replace rd_5 := rA rd_5 o_
 replace ba_6 := kA ba_6 o_
 subst ho_
 have nb_ := Blk.new (w.alloc (.cells #[.int .i64 c, .slice A n k, .slice B m j] 24)) 24 #[.int .i64 d, .slice C n2 k2, .slice D m2 j2]
 simp only [World.size_alloc] at nb_
 have bb_7 := Lib.hid nb_; clear nb_
 obtain ⟨o_, ho_⟩ : ∃ o, o = ((.cells #[.int .i64 p1, .int .i64 p2, .int .i64 p3, .int .i64 p4] 28) : Obj) := ⟨_, rfl⟩
 replace bel_1 := bA bel_1 o_
 replace ra_2 := rA ra_2 o_
 replace rb_3 := rA rb_3 o_
 replace rc_4 := rA rc_4 o_
 replace rd_5 := rA rd_5 o_
 replace ba_6 := kA ba_6 o_
 replace bb_7 := kA bb_7 o_
 subst ho_
 have nb_ := Blk.new ((w.alloc (.cells #[.int .i64 c, .slice A n k, .slice B m j] 24)).alloc (.cells #[.int .i64 d, .slice C n2 k2, .slice D m2 j2] 24)) 28 #[.int .i64 p1, .int .i64 p2, .int .i64 p3, .int .i64 p4]
 simp only [World.size_alloc] at nb_
 have bp_8 := Lib.hid nb_; clear nb_
 obtain ⟨z_9, z_10, z_11⟩ := at3 ba_6
 obtain ⟨z_12, z_13, z_14⟩ := at3 bb_7
 obtain ⟨z_15, z_16, z_17, z_18⟩ := at4 bp_8
 have hc := joined_any ((((w.alloc (.cells #[.int .i64 c, .slice A n k, .slice B m j] 24)).alloc (.cells #[.int .i64 d, .slice C n2 k2, .slice D m2 j2] 24)).alloc (.cells #[.int .i64 p1, .int .i64 p2, .int .i64 p3, .int .i64 p4] 28)))
 have HC := Lib.hid hc; clear hc
 go_wp2_with fail
 refine HC.out.mono ?_
 rintro e w_19 ⟨rfl, hb⟩
 clear HC
 clear z_9 z_10 z_11 z_12 z_13 z_14 z_15 z_16 z_17 z_18
 replace bel_1 := bB bel_1 hb
 replace ra_2 := rB ra_2 hb
 replace rb_3 := rB rb_3 hb
 replace rc_4 := rB rc_4 hb
 replace rd_5 := rB rd_5 hb
 replace ba_6 := kB ba_6 hb
 replace bb_7 := kB bb_7 hb
 replace bp_8 := kB bp_8 hb
 clear hb
 obtain ⟨z_20, z_21, z_22⟩ := at3 ba_6
 obtain ⟨z_23, z_24, z_25⟩ := at3 bb_7
 obtain ⟨z_26, z_27, z_28, z_29⟩ := at4 bp_8
 go_wp2
 go_ret
 exact ⟨rfl, bel_1.out⟩
set_option maxRecDepth 100000 in
set_option maxHeartbeats 4000000 in
theorem ew_n (c : Int) (A B : Option Addr) (n k m j : Nat) (ws ts : List Bnd) (d : Int) (C D : Option Addr) (n2 k2 m2 j2 : Nat) (ws2 ts2 : List Bnd) (p1 p2 p3 p4 : Int) (w : World) (h1 : RdB w A n k ws) (h2 : RdB w B m j ts) (hn : n ≤ maxLen) (hm : m ≤ maxLen) (h3 : RdB w C n2 k2 ws2) (h4 : RdB w D m2 j2 ts2) (hn2 : n2 ≤ maxLen) (hm2 : m2 ≤ maxLen) (h : ¬ 6 < c) (h' : ¬ 6 < d) (a1 a2 a3 : Int) (hw1 : IntKind.i64.wrap ((n : Int) + m) = a1) (hw2 : IntKind.i64.wrap (a1 + n2) = a2) (hw3 : IntKind.i64.wrap (a2 + m2) = a3) (hs : (96 : Int) < a3) : Calls Tryz.prog 14 #[.agg #[.int .i64 c, .slice A n k, .slice B m j], .agg #[.int .i64 d, .slice C n2 k2, .slice D m2 j2], .agg #[.int .i64 p1, .int .i64 p2, .int .i64 p3, .int .i64 p4]] w fun e w' => e = .returned (.bool true) ∧ Below w.heap.size w w' := by
 go_enter Tryz.func14, Tryz.ntmps14
 have bel_1 := Lib.hid (show Below w.heap.size w w from Below.refl _ w)
 have ra_2 := Lib.hid (h1)
 clear h1
 have rb_3 := Lib.hid (h2)
 clear h2
 have rc_4 := Lib.hid (h3)
 clear h3
 have rd_5 := Lib.hid (h4)
 clear h4
 obtain ⟨o_, ho_⟩ : ∃ o, o = ((.cells #[.int .i64 c, .slice A n k, .slice B m j] 24) : Obj) := ⟨_, rfl⟩
 replace bel_1 := bA bel_1 o_
 replace ra_2 := rA ra_2 o_
 replace rb_3 := rA rb_3 o_
 replace rc_4 := rA rc_4 o_
 replace rd_5 := rA rd_5 o_
 subst ho_
 have ba_6 := Lib.hid (Blk.new w 24 #[.int .i64 c, .slice A n k, .slice B m j])
 obtain ⟨o_, ho_⟩ : ∃ o, o = ((.cells #[.int .i64 d, .slice C n2 k2, .slice D m2 j2] 24) : Obj) := ⟨_, rfl⟩
 replace bel_1 := bA bel_1 o_
 replace ra_2 := rA ra_2 o_
 replace rb_3 := rA rb_3 o_
 replace rc_4 := rA rc_4 o_
 replace rd_5 := rA rd_5 o_
 replace ba_6 := kA ba_6 o_
 subst ho_
 have nb_ := Blk.new (w.alloc (.cells #[.int .i64 c, .slice A n k, .slice B m j] 24)) 24 #[.int .i64 d, .slice C n2 k2, .slice D m2 j2]
 simp only [World.size_alloc] at nb_
 have bb_7 := Lib.hid nb_; clear nb_
 obtain ⟨o_, ho_⟩ : ∃ o, o = ((.cells #[.int .i64 p1, .int .i64 p2, .int .i64 p3, .int .i64 p4] 28) : Obj) := ⟨_, rfl⟩
 replace bel_1 := bA bel_1 o_
 replace ra_2 := rA ra_2 o_
 replace rb_3 := rA rb_3 o_
 replace rc_4 := rA rc_4 o_
 replace rd_5 := rA rd_5 o_
 replace ba_6 := kA ba_6 o_
 replace bb_7 := kA bb_7 o_
 subst ho_
 have nb_ := Blk.new ((w.alloc (.cells #[.int .i64 c, .slice A n k, .slice B m j] 24)).alloc (.cells #[.int .i64 d, .slice C n2 k2, .slice D m2 j2] 24)) 28 #[.int .i64 p1, .int .i64 p2, .int .i64 p3, .int .i64 p4]
 simp only [World.size_alloc] at nb_
 have bp_8 := Lib.hid nb_; clear nb_
 obtain ⟨z_9, z_10, z_11⟩ := at3 ba_6
 obtain ⟨z_12, z_13, z_14⟩ := at3 bb_7
 obtain ⟨z_15, z_16, z_17, z_18⟩ := at4 bp_8
 have hc := joined_any ((((w.alloc (.cells #[.int .i64 c, .slice A n k, .slice B m j] 24)).alloc (.cells #[.int .i64 d, .slice C n2 k2, .slice D m2 j2] 24)).alloc (.cells #[.int .i64 p1, .int .i64 p2, .int .i64 p3, .int .i64 p4] 28)))
 have HC := Lib.hid hc; clear hc
 go_wp2_with fail
 refine HC.out.mono ?_
 rintro e w_19 ⟨rfl, hb⟩
 clear HC
 clear z_9 z_10 z_11 z_12 z_13 z_14 z_15 z_16 z_17 z_18
 replace bel_1 := bB bel_1 hb
 replace ra_2 := rB ra_2 hb
 replace rb_3 := rB rb_3 hb
 replace rc_4 := rB rc_4 hb
 replace rd_5 := rB rd_5 hb
 replace ba_6 := kB ba_6 hb
 replace bb_7 := kB bb_7 hb
 replace bp_8 := kB bp_8 hb
 clear hb
 obtain ⟨z_20, z_21, z_22⟩ := at3 ba_6
 obtain ⟨z_23, z_24, z_25⟩ := at3 bb_7
 obtain ⟨z_26, z_27, z_28, z_29⟩ := at4 bp_8
 go_wp2
 go_ret
 exact ⟨rfl, bel_1.out⟩
set_option maxRecDepth 100000 in
set_option maxHeartbeats 4000000 in
theorem ew_err (c : Int) (A B : Option Addr) (n k m j : Nat) (ws ts : List Bnd) (d : Int) (C D : Option Addr) (n2 k2 m2 j2 : Nat) (ws2 ts2 : List Bnd) (p1 p2 p3 p4 : Int) (w : World) (h1 : RdB w A n k ws) (h2 : RdB w B m j ts) (hn : n ≤ maxLen) (hm : m ≤ maxLen) (h3 : RdB w C n2 k2 ws2) (h4 : RdB w D m2 j2 ts2) (hn2 : n2 ≤ maxLen) (hm2 : m2 ≤ maxLen) (h : ¬ 6 < c) (h' : ¬ 6 < d) (a1 a2 a3 : Int) (hw1 : IntKind.i64.wrap ((n : Int) + m) = a1) (hw2 : IntKind.i64.wrap (a1 + n2) = a2) (hw3 : IntKind.i64.wrap (a2 + m2) = a3) (hs : ¬ (96 : Int) < a3) (q : Int) (HQ : Hid (both ⟨c, ws, ts⟩ ⟨d, ws2, ts2⟩ = q)) (hne : q ≠ 0) (EL : Hid (longV ⟨c, ws, ts⟩ ⟨d, ws2, ts2⟩ = (0, q))) : Calls Tryz.prog 14 #[.agg #[.int .i64 c, .slice A n k, .slice B m j], .agg #[.int .i64 d, .slice C n2 k2, .slice D m2 j2], .agg #[.int .i64 p1, .int .i64 p2, .int .i64 p3, .int .i64 p4]] w fun e w' => e = .returned (.bool true) ∧ Below w.heap.size w w' := by
 have hq1 : (q != 0) = true := by simpa using hne
 have hq2 : (q != q) = false := by simp
 go_enter Tryz.func14, Tryz.ntmps14
 have bel_1 := Lib.hid (show Below w.heap.size w w from Below.refl _ w)
 have ra_2 := Lib.hid (h1)
 clear h1
 have rb_3 := Lib.hid (h2)
 clear h2
 have rc_4 := Lib.hid (h3)
 clear h3
 have rd_5 := Lib.hid (h4)
 clear h4
 obtain ⟨o_, ho_⟩ : ∃ o, o = ((.cells #[.int .i64 c, .slice A n k, .slice B m j] 24) : Obj) := ⟨_, rfl⟩
 replace bel_1 := bA bel_1 o_
 replace ra_2 := rA ra_2 o_
 replace rb_3 := rA rb_3 o_
 replace rc_4 := rA rc_4 o_
 replace rd_5 := rA rd_5 o_
 subst ho_
 have ba_6 := Lib.hid (Blk.new w 24 #[.int .i64 c, .slice A n k, .slice B m j])
 obtain ⟨o_, ho_⟩ : ∃ o, o = ((.cells #[.int .i64 d, .slice C n2 k2, .slice D m2 j2] 24) : Obj) := ⟨_, rfl⟩
 replace bel_1 := bA bel_1 o_
 replace ra_2 := rA ra_2 o_
 replace rb_3 := rA rb_3 o_
 replace rc_4 := rA rc_4 o_
 replace rd_5 := rA rd_5 o_
 replace ba_6 := kA ba_6 o_
 subst ho_
 have nb_ := Blk.new (w.alloc (.cells #[.int .i64 c, .slice A n k, .slice B m j] 24)) 24 #[.int .i64 d, .slice C n2 k2, .slice D m2 j2]
 simp only [World.size_alloc] at nb_
 have bb_7 := Lib.hid nb_; clear nb_
 obtain ⟨o_, ho_⟩ : ∃ o, o = ((.cells #[.int .i64 p1, .int .i64 p2, .int .i64 p3, .int .i64 p4] 28) : Obj) := ⟨_, rfl⟩
 replace bel_1 := bA bel_1 o_
 replace ra_2 := rA ra_2 o_
 replace rb_3 := rA rb_3 o_
 replace rc_4 := rA rc_4 o_
 replace rd_5 := rA rd_5 o_
 replace ba_6 := kA ba_6 o_
 replace bb_7 := kA bb_7 o_
 subst ho_
 have nb_ := Blk.new ((w.alloc (.cells #[.int .i64 c, .slice A n k, .slice B m j] 24)).alloc (.cells #[.int .i64 d, .slice C n2 k2, .slice D m2 j2] 24)) 28 #[.int .i64 p1, .int .i64 p2, .int .i64 p3, .int .i64 p4]
 simp only [World.size_alloc] at nb_
 have bp_8 := Lib.hid nb_; clear nb_
 obtain ⟨z_9, z_10, z_11⟩ := at3 ba_6
 obtain ⟨z_12, z_13, z_14⟩ := at3 bb_7
 obtain ⟨z_15, z_16, z_17, z_18⟩ := at4 bp_8
 have hc := Maximal_not c A B n k m j ws ts d C D n2 k2 m2 j2 ws2 ts2 _ ra_2.out rb_3.out hn hm rc_4.out rd_5.out hn2 hm2 q HQ.out hne
 have HC := Lib.hid hc; clear hc
 go_wp2_with fail
 refine HC.out.mono ?_
 rintro e w_19 ⟨A9, c9, rfl, hb⟩
 clear HC
 clear z_9 z_10 z_11 z_12 z_13 z_14 z_15 z_16 z_17 z_18
 replace bel_1 := bB bel_1 hb
 replace ra_2 := rB ra_2 hb
 replace rb_3 := rB rb_3 hb
 replace rc_4 := rB rc_4 hb
 replace rd_5 := rB rd_5 hb
 replace ba_6 := kB ba_6 hb
 replace bb_7 := kB bb_7 hb
 replace bp_8 := kB bp_8 hb
 clear hb
 obtain ⟨z_20, z_21, z_22⟩ := at3 ba_6
 obtain ⟨z_23, z_24, z_25⟩ := at3 bb_7
 obtain ⟨z_26, z_27, z_28, z_29⟩ := at4 bp_8
 have hc := Longest_any c A B n k m j ws ts d C D n2 k2 m2 j2 ws2 ts2 _ ra_2.out rb_3.out hn hm rc_4.out rd_5.out hn2 hm2
 rw [EL.out] at hc
 try dsimp only at hc
 have HC := Lib.hid hc; clear hc
 go_wp2_with fail
 refine HC.out.mono ?_
 rintro e w_30 ⟨rfl, hb⟩
 clear HC
 clear z_20 z_21 z_22 z_23 z_24 z_25 z_26 z_27 z_28 z_29
 replace bel_1 := bB bel_1 hb
 replace ra_2 := rB ra_2 hb
 replace rb_3 := rB rb_3 hb
 replace rc_4 := rB rc_4 hb
 replace rd_5 := rB rd_5 hb
 replace ba_6 := kB ba_6 hb
 replace bb_7 := kB bb_7 hb
 replace bp_8 := kB bp_8 hb
 clear hb
 obtain ⟨z_31, z_32, z_33⟩ := at3 ba_6
 obtain ⟨z_34, z_35, z_36⟩ := at3 bb_7
 obtain ⟨z_37, z_38, z_39, z_40⟩ := at4 bp_8
 have hc := joined_any (w_30)
 have HC := Lib.hid hc; clear hc
 go_wp2_with fail
 refine HC.out.mono ?_
 rintro e w_41 ⟨rfl, hb⟩
 clear HC
 clear z_31 z_32 z_33 z_34 z_35 z_36 z_37 z_38 z_39 z_40
 replace bel_1 := bB bel_1 hb
 replace ra_2 := rB ra_2 hb
 replace rb_3 := rB rb_3 hb
 replace rc_4 := rB rc_4 hb
 replace rd_5 := rB rd_5 hb
 replace ba_6 := kB ba_6 hb
 replace bb_7 := kB bb_7 hb
 replace bp_8 := kB bp_8 hb
 clear hb
 obtain ⟨z_42, z_43, z_44⟩ := at3 ba_6
 obtain ⟨z_45, z_46, z_47⟩ := at3 bb_7
 obtain ⟨z_48, z_49, z_50, z_51⟩ := at4 bp_8
 go_wp2
 go_ret
 exact ⟨rfl, bel_1.out⟩
set_option maxRecDepth 100000 in
set_option maxHeartbeats 4000000 in
theorem ew_ok (c : Int) (A B : Option Addr) (n k m j : Nat) (ws ts : List Bnd) (d : Int) (C D : Option Addr) (n2 k2 m2 j2 : Nat) (ws2 ts2 : List Bnd) (p1 p2 p3 p4 : Int) (w : World) (h1 : RdB w A n k ws) (h2 : RdB w B m j ts) (hn : n ≤ maxLen) (hm : m ≤ maxLen) (h3 : RdB w C n2 k2 ws2) (h4 : RdB w D m2 j2 ts2) (hn2 : n2 ≤ maxLen) (hm2 : m2 ≤ maxLen) (h : ¬ 6 < c) (h' : ¬ 6 < d) (a1 a2 a3 : Int) (hw1 : IntKind.i64.wrap ((n : Int) + m) = a1) (hw2 : IntKind.i64.wrap (a1 + n2) = a2) (hw3 : IntKind.i64.wrap (a2 + m2) = a3) (hs : ¬ (96 : Int) < a3) (HQ : Hid (both ⟨c, ws, ts⟩ ⟨d, ws2, ts2⟩ = 0)) (EL : Hid (longV ⟨c, ws, ts⟩ ⟨d, ws2, ts2⟩ = (((longN ⟨c, ws, ts⟩ ⟨d, ws2, ts2⟩ (mostN ⟨c, ws, ts⟩ ⟨d, ws2, ts2⟩) : Nat) : Int), 0))) (M1 : Bool) (g : Int) (EM : Hid (meetsV ⟨c, ws, ts⟩ ⟨d, ws2, ts2⟩ ⟨p1, p2, p3, p4⟩ = (M1, g))) : Calls Tryz.prog 14 #[.agg #[.int .i64 c, .slice A n k, .slice B m j], .agg #[.int .i64 d, .slice C n2 k2, .slice D m2 j2], .agg #[.int .i64 p1, .int .i64 p2, .int .i64 p3, .int .i64 p4]] w fun e w' => e = .returned (.bool true) ∧ Below w.heap.size w w' := by
 go_enter Tryz.func14, Tryz.ntmps14
 have bel_1 := Lib.hid (show Below w.heap.size w w from Below.refl _ w)
 have ra_2 := Lib.hid (h1)
 clear h1
 have rb_3 := Lib.hid (h2)
 clear h2
 have rc_4 := Lib.hid (h3)
 clear h3
 have rd_5 := Lib.hid (h4)
 clear h4
 obtain ⟨o_, ho_⟩ : ∃ o, o = ((.cells #[.int .i64 c, .slice A n k, .slice B m j] 24) : Obj) := ⟨_, rfl⟩
 replace bel_1 := bA bel_1 o_
 replace ra_2 := rA ra_2 o_
 replace rb_3 := rA rb_3 o_
 replace rc_4 := rA rc_4 o_
 replace rd_5 := rA rd_5 o_
 subst ho_
 have ba_6 := Lib.hid (Blk.new w 24 #[.int .i64 c, .slice A n k, .slice B m j])
 obtain ⟨o_, ho_⟩ : ∃ o, o = ((.cells #[.int .i64 d, .slice C n2 k2, .slice D m2 j2] 24) : Obj) := ⟨_, rfl⟩
 replace bel_1 := bA bel_1 o_
 replace ra_2 := rA ra_2 o_
 replace rb_3 := rA rb_3 o_
 replace rc_4 := rA rc_4 o_
 replace rd_5 := rA rd_5 o_
 replace ba_6 := kA ba_6 o_
 subst ho_
 have nb_ := Blk.new (w.alloc (.cells #[.int .i64 c, .slice A n k, .slice B m j] 24)) 24 #[.int .i64 d, .slice C n2 k2, .slice D m2 j2]
 simp only [World.size_alloc] at nb_
 have bb_7 := Lib.hid nb_; clear nb_
 obtain ⟨o_, ho_⟩ : ∃ o, o = ((.cells #[.int .i64 p1, .int .i64 p2, .int .i64 p3, .int .i64 p4] 28) : Obj) := ⟨_, rfl⟩
 replace bel_1 := bA bel_1 o_
 replace ra_2 := rA ra_2 o_
 replace rb_3 := rA rb_3 o_
 replace rc_4 := rA rc_4 o_
 replace rd_5 := rA rd_5 o_
 replace ba_6 := kA ba_6 o_
 replace bb_7 := kA bb_7 o_
 subst ho_
 have nb_ := Blk.new ((w.alloc (.cells #[.int .i64 c, .slice A n k, .slice B m j] 24)).alloc (.cells #[.int .i64 d, .slice C n2 k2, .slice D m2 j2] 24)) 28 #[.int .i64 p1, .int .i64 p2, .int .i64 p3, .int .i64 p4]
 simp only [World.size_alloc] at nb_
 have bp_8 := Lib.hid nb_; clear nb_
 obtain ⟨z_9, z_10, z_11⟩ := at3 ba_6
 obtain ⟨z_12, z_13, z_14⟩ := at3 bb_7
 obtain ⟨z_15, z_16, z_17, z_18⟩ := at4 bp_8
 have hc := Maximal_yes c A B n k m j ws ts d C D n2 k2 m2 j2 ws2 ts2 _ ra_2.out rb_3.out hn hm rc_4.out rd_5.out hn2 hm2 HQ.out
 have HC := Lib.hid hc; clear hc
 go_wp2_with fail
 refine HC.out.mono ?_
 rintro e w_19 ⟨R, A9, n9, c9, rfl, hr9, hR, hn9, hb⟩
 clear HC
 clear z_9 z_10 z_11 z_12 z_13 z_14 z_15 z_16 z_17 z_18
 replace bel_1 := bB bel_1 hb
 replace ra_2 := rB ra_2 hb
 replace rb_3 := rB rb_3 hb
 replace rc_4 := rB rc_4 hb
 replace rd_5 := rB rd_5 hb
 replace ba_6 := kB ba_6 hb
 replace bb_7 := kB bb_7 hb
 replace bp_8 := kB bp_8 hb
 clear hb
 have r9_20 := Lib.hid (hr9)
 clear hr9
 obtain ⟨z_21, z_22, z_23⟩ := at3 ba_6
 obtain ⟨z_24, z_25, z_26⟩ := at3 bb_7
 obtain ⟨z_27, z_28, z_29, z_30⟩ := at4 bp_8
 have HRM := Lib.hid hR; clear hR
 unfold maxLen at hn9
 have hc := Longest_any c A B n k m j ws ts d C D n2 k2 m2 j2 ws2 ts2 _ ra_2.out rb_3.out hn hm rc_4.out rd_5.out hn2 hm2
 rw [EL.out] at hc
 try dsimp only at hc
 have HC := Lib.hid hc; clear hc
 go_wp2_with fail
 refine HC.out.mono ?_
 rintro e w_31 ⟨rfl, hb⟩
 clear HC
 clear z_21 z_22 z_23 z_24 z_25 z_26 z_27 z_28 z_29 z_30
 replace bel_1 := bB bel_1 hb
 replace ra_2 := rB ra_2 hb
 replace rb_3 := rB rb_3 hb
 replace rc_4 := rB rc_4 hb
 replace rd_5 := rB rd_5 hb
 replace ba_6 := kB ba_6 hb
 replace bb_7 := kB bb_7 hb
 replace bp_8 := kB bp_8 hb
 replace r9_20 := rB r9_20 hb
 clear hb
 obtain ⟨z_32, z_33, z_34⟩ := at3 ba_6
 obtain ⟨z_35, z_36, z_37⟩ := at3 bb_7
 obtain ⟨z_38, z_39, z_40, z_41⟩ := at4 bp_8
 have hc := Meets_any c A B n k m j ws ts d C D n2 k2 m2 j2 ws2 ts2 p1 p2 p3 p4 _ ra_2.out rb_3.out hn hm rc_4.out rd_5.out hn2 hm2
 rw [EM.out] at hc
 try dsimp only at hc
 have HC := Lib.hid hc; clear hc
 go_wp2_with fail
 refine HC.out.mono ?_
 rintro e w_42 ⟨rfl, hb⟩
 clear HC
 clear z_32 z_33 z_34 z_35 z_36 z_37 z_38 z_39 z_40 z_41
 replace bel_1 := bB bel_1 hb
 replace ra_2 := rB ra_2 hb
 replace rb_3 := rB rb_3 hb
 replace rc_4 := rB rc_4 hb
 replace rd_5 := rB rd_5 hb
 replace ba_6 := kB ba_6 hb
 replace bb_7 := kB bb_7 hb
 replace bp_8 := kB bp_8 hb
 replace r9_20 := rB r9_20 hb
 clear hb
 obtain ⟨z_43, z_44, z_45⟩ := at3 ba_6
 obtain ⟨z_46, z_47, z_48⟩ := at3 bb_7
 obtain ⟨z_49, z_50, z_51, z_52⟩ := at4 bp_8
 go_wp2
 clear z_43 z_44 z_45 z_46 z_47 z_48 z_49 z_50 z_51 z_52
 go_loopw [13, 14, 15] (fun fo mo i wr => ∃ q : Nat, q ≤ n9 ∧ i = .int .i64 q ∧ mo = .int .i64 (mostS (R.take q)) ∧ fo = .bool (anyW (R.take q) ⟨p1, p2, p3, p4⟩) ∧ Below w.heap.size w wr ∧ RdB wr A n k ws ∧ RdB wr B m j ts ∧ RdB wr C n2 k2 ws2 ∧ RdB wr D m2 j2 ts2 ∧ Blk wr (w.heap.size) 24 #[.int .i64 c, .slice A n k, .slice B m j] ∧ Blk wr (w.heap.size + 1) 24 #[.int .i64 d, .slice C n2 k2, .slice D m2 j2] ∧ Blk wr (w.heap.size + 1 + 1) 28 #[.int .i64 p1, .int .i64 p2, .int .i64 p3, .int .i64 p4] ∧ RdB wr A9 n9 c9 (R.map pB)) (fun _ _ i _ => n9 - (intOf i).toNat)
 case atStart => exact ⟨0, Nat.zero_le _, rfl, rfl, rfl, bel_1.out, ra_2.out, rb_3.out, rc_4.out, rd_5.out, ba_6.out, bb_7.out, bp_8.out, r9_20.out⟩
 case round =>
  clear bel_1 ra_2 rb_3 rc_4 rd_5 ba_6 bb_7 bp_8 r9_20
  obtain ⟨q, hq, rfl, rfl, rfl, i0, i1, i2, i3, i4, i5, i6, i7, i8⟩ := hrel
  have bel_1053 := Lib.hid (i0)
  clear i0
  have ra_1054 := Lib.hid (i1)
  clear i1
  have rb_1055 := Lib.hid (i2)
  clear i2
  have rc_1056 := Lib.hid (i3)
  clear i3
  have rd_1057 := Lib.hid (i4)
  clear i4
  have ba_1058 := Lib.hid (i5)
  clear i5
  have bb_1059 := Lib.hid (i6)
  clear i6
  have bp_1060 := Lib.hid (i7)
  clear i7
  have r9_1061 := Lib.hid (i8)
  clear i8
  by_cases hlt : q < n9
  · have hlt' : (q : Int) < n9 := by omega
    obtain ⟨bb, ob, x1, x2, x3, x4, rfl, hbw, hx, e0, e1, e2, e3⟩ := RdB.get r9_1061.out hlt
    have hxx : R[q]? = some ⟨x1, x2, x3, x4⟩ := by rw [List.getElem?_map] at hx; obtain ⟨p, h1, h2⟩ := Option.map_eq_some_iff.1 hx; rw [h1]; exact congrArg some (pB_inj h2)
    have hxm := ((HRM.out ⟨x1, x2, x3, x4⟩).1 (List.mem_of_getElem? hxx)).1
    have EX := Lib.hid (meets_of HQ.out hxm)
    obtain ⟨g1, g2, g3, g4, g5, g6⟩ := met_range HQ.out hxm
    dsimp only at g1 g2 g3 g4 g5 g6
    have HTK := Lib.hid (show R.take (q + 1) = R.take q ++ [⟨x1, x2, x3, x4⟩] by rw [List.take_add_one, hxx]; rfl)
    clear hx hxx hxm
    obtain ⟨mo, hmo⟩ : ∃ mo, mostS (R.take q) = mo := ⟨_, rfl⟩
    obtain ⟨fo, hfo⟩ : ∃ fo, anyW (R.take q) ⟨p1, p2, p3, p4⟩ = fo := ⟨_, rfl⟩
    rw [hmo, hfo]
    have HMO := Lib.hid hmo; have HFO := Lib.hid hfo; clear hmo hfo
    obtain ⟨o_, ho_⟩ : ∃ o, o = ((.cells #[.int .i64 x1, .int .i64 x2, .int .i64 x3, .int .i64 x4] 28) : Obj) := ⟨_, rfl⟩
    replace bel_1053 := bA bel_1053 o_
    replace ra_1054 := rA ra_1054 o_
    replace rb_1055 := rA rb_1055 o_
    replace rc_1056 := rA rc_1056 o_
    replace rd_1057 := rA rd_1057 o_
    replace ba_1058 := kA ba_1058 o_
    replace bb_1059 := kA bb_1059 o_
    replace bp_1060 := kA bp_1060 o_
    replace r9_1061 := rA r9_1061 o_
    subst ho_
    have xb_2062 := Lib.hid (Blk.new wr 28 #[.int .i64 x1, .int .i64 x2, .int .i64 x3, .int .i64 x4])
    obtain ⟨z_2063, z_2064, z_2065⟩ := at3 ba_1058
    obtain ⟨z_2066, z_2067, z_2068⟩ := at3 bb_1059
    obtain ⟨z_2069, z_2070, z_2071, z_2072⟩ := at4 bp_1060
    obtain ⟨z_2073, z_2074, z_2075, z_2076⟩ := at4 xb_2062
    have hc := Meets_any c A B n k m j ws ts d C D n2 k2 m2 j2 ws2 ts2 x1 x2 x3 x4 _ ra_1054.out rb_1055.out hn hm rc_1056.out rd_1057.out hn2 hm2
    rw [EX.out] at hc
    try dsimp only at hc
    have HC := Lib.hid hc; clear hc
    go_wp2_with fail
    refine HC.out.mono ?_
    rintro e w_2077 ⟨rfl, hb⟩
    clear HC
    clear z_2063 z_2064 z_2065 z_2066 z_2067 z_2068 z_2069 z_2070 z_2071 z_2072 z_2073 z_2074 z_2075 z_2076 e0 e1 e2 e3
    replace bel_1053 := bB bel_1053 hb
    replace ra_1054 := rB ra_1054 hb
    replace rb_1055 := rB rb_1055 hb
    replace rc_1056 := rB rc_1056 hb
    replace rd_1057 := rB rd_1057 hb
    replace ba_1058 := kB ba_1058 hb
    replace bb_1059 := kB bb_1059 hb
    replace bp_1060 := kB bp_1060 hb
    replace r9_1061 := rB r9_1061 hb
    replace xb_2062 := kB xb_2062 hb
    clear hb
    obtain ⟨z_2078, z_2079, z_2080⟩ := at3 ba_1058
    obtain ⟨z_2081, z_2082, z_2083⟩ := at3 bb_1059
    obtain ⟨z_2084, z_2085, z_2086, z_2087⟩ := at4 bp_1060
    obtain ⟨z_2088, z_2089, z_2090, z_2091⟩ := at4 xb_2062
    have hw0 : IntKind.i64.wrap (x1 + x4) = x1 + x4 := IntWalk.i64_in _ (by omega)
    obtain ⟨sp, hsp⟩ : ∃ s, IntKind.i64.wrap (p1 + p4) = s := ⟨_, rfl⟩
    cases fo
    · by_cases k1 : x1 ≤ p1
      · by_cases k2 : p2 ≤ x2
        · by_cases k3 : x1 + x4 = sp
          · skip
            go_wp2
            go_roundw
            case rel => exact ⟨q + 1, by omega, by go_num, (by rw [HTK.out, mostS_snoc, HMO.out]), (by rw [HTK.out, anyW_snoc, HFO.out]; unfold inW; simp [hsp, k1, k2, k3] <;> omega), bel_1053.out, ra_1054.out, rb_1055.out, rc_1056.out, rd_1057.out, ba_1058.out, bb_1059.out, bp_1060.out, r9_1061.out⟩
            case measure => simp [intOf]; omega
          · skip
            go_wp2
            go_roundw
            case rel => exact ⟨q + 1, by omega, by go_num, (by rw [HTK.out, mostS_snoc, HMO.out]), (by rw [HTK.out, anyW_snoc, HFO.out]; unfold inW; simp [hsp, k1, k2, k3] <;> omega), bel_1053.out, ra_1054.out, rb_1055.out, rc_1056.out, rd_1057.out, ba_1058.out, bb_1059.out, bp_1060.out, r9_1061.out⟩
            case measure => simp [intOf]; omega
        · skip
          go_wp2
          go_roundw
          case rel => exact ⟨q + 1, by omega, by go_num, (by rw [HTK.out, mostS_snoc, HMO.out]), (by rw [HTK.out, anyW_snoc, HFO.out]; unfold inW; simp [k1, k2] <;> omega), bel_1053.out, ra_1054.out, rb_1055.out, rc_1056.out, rd_1057.out, ba_1058.out, bb_1059.out, bp_1060.out, r9_1061.out⟩
          case measure => simp [intOf]; omega
      · skip
        go_wp2
        go_roundw
        case rel => exact ⟨q + 1, by omega, by go_num, (by rw [HTK.out, mostS_snoc, HMO.out]), (by rw [HTK.out, anyW_snoc, HFO.out]; unfold inW; simp [k1] <;> omega), bel_1053.out, ra_1054.out, rb_1055.out, rc_1056.out, rd_1057.out, ba_1058.out, bb_1059.out, bp_1060.out, r9_1061.out⟩
        case measure => simp [intOf]; omega
    · skip
      go_wp2
      go_roundw
      case rel => exact ⟨q + 1, by omega, by go_num, (by rw [HTK.out, mostS_snoc, HMO.out]), (by rw [HTK.out, anyW_snoc, HFO.out]; unfold inW; simp [] <;> omega), bel_1053.out, ra_1054.out, rb_1055.out, rc_1056.out, rd_1057.out, ba_1058.out, bb_1059.out, bp_1060.out, r9_1061.out⟩
      case measure => simp [intOf]; omega
  · obtain rfl : q = n9 := by omega
    have hl := r9_1061.out.len
    rw [List.length_map] at hl
    rw [List.take_of_length_le (by omega), mostS_eq HQ.out HRM.out]
    have HF := Lib.hid (fun (h : meetsV ⟨c, ws, ts⟩ ⟨d, ws2, ts2⟩ ⟨p1, p2, p3, p4⟩ = (true, 0)) => anyW_yes HQ.out HRM.out (met_of_meets HQ.out h))
    rw [EM.out] at HF
    clear hl
    obtain ⟨fo, hfo⟩ : ∃ fo, anyW R ⟨p1, p2, p3, p4⟩ = fo := ⟨_, rfl⟩
    rw [hfo] at HF ⊢
    clear hfo
    obtain ⟨z_2062, z_2063, z_2064⟩ := at3 ba_1058
    obtain ⟨z_2065, z_2066, z_2067⟩ := at3 bb_1059
    obtain ⟨z_2068, z_2069, z_2070, z_2071⟩ := at4 bp_1060
    have hc := joined_any (wr)
    have HC := Lib.hid hc; clear hc
    go_wp2_with fail
    refine HC.out.mono ?_
    rintro e w_2072 ⟨rfl, hb⟩
    clear HC
    clear z_2062 z_2063 z_2064 z_2065 z_2066 z_2067 z_2068 z_2069 z_2070 z_2071
    replace bel_1053 := bB bel_1053 hb
    replace ra_1054 := rB ra_1054 hb
    replace rb_1055 := rB rb_1055 hb
    replace rc_1056 := rB rc_1056 hb
    replace rd_1057 := rB rd_1057 hb
    replace ba_1058 := kB ba_1058 hb
    replace bb_1059 := kB bb_1059 hb
    replace bp_1060 := kB bp_1060 hb
    replace r9_1061 := rB r9_1061 hb
    clear hb
    obtain ⟨z_2073, z_2074, z_2075⟩ := at3 ba_1058
    obtain ⟨z_2076, z_2077, z_2078⟩ := at3 bb_1059
    obtain ⟨z_2079, z_2080, z_2081, z_2082⟩ := at4 bp_1060
    by_cases hg0 : g = 0
    · subst hg0
      cases M1
      · go_wp2
        go_ret
        exact ⟨rfl, bel_1053.out⟩
      · obtain rfl : fo = true := HF.out rfl
        go_wp2
        go_ret
        exact ⟨rfl, bel_1053.out⟩
    · have hgn : (g != 0) = true := by simpa using hg0
      clear hg0
      go_wp2
      go_ret
      exact ⟨rfl, bel_1053.out⟩
set_option maxRecDepth 100000 in
theorem ew_walk (w : World) (c : Int) (A : Option Addr) (n k : Nat) (B : Option Addr) (m j : Nat) (ws ts : List Bnd) (_ : (Lit.int .i64 c).wf = true) (h1 : RdB w A n k ws) (h2 : RdB w B m j ts) (hn : n ≤ maxLen) (hm : m ≤ maxLen) (d : Int) (C : Option Addr) (n2 k2 : Nat) (D : Option Addr) (m2 j2 : Nat) (ws2 ts2 : List Bnd) (_ : (Lit.int .i64 d).wf = true) (h3 : RdB w C n2 k2 ws2) (h4 : RdB w D m2 j2 ts2) (hn2 : n2 ≤ maxLen) (hm2 : m2 ≤ maxLen) (p1 p2 p3 p4 : Int) : Calls Tryz.prog 14 #[.agg #[.int .i64 c, .slice A n k, .slice B m j], .agg #[.int .i64 d, .slice C n2 k2, .slice D m2 j2], .agg #[.int .i64 p1, .int .i64 p2, .int .i64 p3, .int .i64 p4]] w fun e w' => e = .returned (.bool true) ∧ Below w.heap.size w w' := by
 by_cases h : 6 < c
 · exact ew_c c A B n k m j ws ts d C D n2 k2 m2 j2 ws2 ts2 p1 p2 p3 p4 w h1 h2 hn hm h3 h4 hn2 hm2 h
 · by_cases h' : 6 < d
   · exact ew_d c A B n k m j ws ts d C D n2 k2 m2 j2 ws2 ts2 p1 p2 p3 p4 w h1 h2 hn hm h3 h4 hn2 hm2 h h'
   · obtain ⟨a1, hw1⟩ : ∃ a, IntKind.i64.wrap ((n : Int) + m) = a := ⟨_, rfl⟩
     obtain ⟨a2, hw2⟩ : ∃ a, IntKind.i64.wrap (a1 + n2) = a := ⟨_, rfl⟩
     obtain ⟨a3, hw3⟩ : ∃ a, IntKind.i64.wrap (a2 + m2) = a := ⟨_, rfl⟩
     by_cases hs : (96 : Int) < a3
     · exact ew_n c A B n k m j ws ts d C D n2 k2 m2 j2 ws2 ts2 p1 p2 p3 p4 w h1 h2 hn hm h3 h4 hn2 hm2 h h' a1 a2 a3 hw1 hw2 hw3 hs
     · by_cases hq : both ⟨c, ws, ts⟩ ⟨d, ws2, ts2⟩ = 0
       · exact ew_ok c A B n k m j ws ts d C D n2 k2 m2 j2 ws2 ts2 p1 p2 p3 p4 w h1 h2 hn hm h3 h4 hn2 hm2 h h' a1 a2 a3 hw1 hw2 hw3 hs (Lib.hid hq) (Lib.hid (by unfold longV; rw [if_pos hq])) _ _ (Lib.hid rfl)
       · exact ew_err c A B n k m j ws ts d C D n2 k2 m2 j2 ws2 ts2 p1 p2 p3 p4 w h1 h2 hn hm h3 h4 hn2 hm2 h h' a1 a2 a3 hw1 hw2 hw3 hs _ (Lib.hid rfl) hq (Lib.hid (by unfold longV; rw [if_neg hq]))
set_option maxRecDepth 100000 in
theorem edgeWhole_lifted (os : Os) (started : os.Started) (H : Type) (enc : TypeId × Value → H) :
 ReturnsInHanded {} Tryz.checked os 14 .any (Rows.edgeWholeSpec.pre6 enc Tryz.prog Tryz.f14 Rows.edgeWholeRow.domain false) (Rows.edgeWholeSpec.post enc Tryz.prog Tryz.f14 false true false false) := by
 refine returnsInHanded_of_change (C := Tryz.checked) Law.own started (by kernel_rfl) Tryz.func14
  (ChangeSpec.witness6 (enc := enc) (C := Tryz.checked) false ⟨#[], #[.agg #[.int .i64 0, .slice none 0 0, .slice none 0 0], .agg #[.int .i64 0, .slice none 0 0, .slice none 0 0], .agg #[.int .i64 0, .int .i64 0, .int .i64 0, .int .i64 0]], []⟩ 8 (by kernel_rfl) (by kernel_rfl) (by kernel_rfl) (by kernel_rfl)) ?_
 intro W base args ds gs before hval0 hW hcnd _
 have hval : ∀ (j : Nat) t v, Tryz.f14.params[j]? = some t → args[j]? = some v → Value.okWide Tryz.prog W .any base t v := hval0
 have hW' := hW
 obtain ⟨p, q, hA0, hV, rfl, hfz, hnd⟩ := hW
 have hA : DataW.TrodAll enc Tryz.prog W 0 (fun _ => true) true Tryz.f14.params.toList args.toList ds p := hA0
 rw [Tryz.params14] at hA hval
 obtain ⟨v0, vs0, d0, ds0, p0, q0, hargs, rfl, rfl, h0, r0⟩ := trodAll_cons hA
 obtain ⟨v1, vs1, d1, ds1, p1, q1, rfl, rfl, rfl, h1, r1⟩ := trodAll_cons r0
 obtain ⟨v2, vs2, d2, ds2, p2, q2, rfl, rfl, rfl, h2, r2⟩ := trodAll_cons r1
 obtain ⟨rfl, rfl, rfl⟩ := trodAll_nil r2
 obtain rfl : args = #[v0, v1, v2] := by cases args; simp_all
 obtain ⟨rfl, rfl⟩ := trodVars_none hV
 have k0 := h0
 have lt0 : ∀ x ∈ p0, x.block < W.heap.size := by obtain ⟨m, hm⟩ := k0; exact DataW.trod_lt m _ _ _ hm
 obtain ⟨c0, A0, n0, k0', B0, m0, j0, ws0, ts0, rfl, w0, ra0, rb0, xa0, xb0⟩ := open_outl (hval 0 24 v0 rfl rfl) h0
 have k1 := h1
 have lt1 : ∀ x ∈ p1, x.block < W.heap.size := by obtain ⟨m, hm⟩ := k1; exact DataW.trod_lt m _ _ _ hm
 obtain ⟨c1, A1, n1, k1', B1, m1, j1, ws1, ts1, rfl, w1, ra1, rb1, xa1, xb1⟩ := open_outl (hval 1 24 v1 rfl rfl) h1
 have k2 := h2
 have lt2 : ∀ x ∈ p2, x.block < W.heap.size := by obtain ⟨m, hm⟩ := k2; exact DataW.trod_lt m _ _ _ hm
 obtain ⟨f2, t2, m2, i2, rfl⟩ := open_pair (hval 2 28 v2 rfl rfl) h2
 clear hA0 hval0
 refine (ew_walk W c0 A0 n0 k0' B0 m0 j0 ws0 ts0 w0 ra0 rb0 xa0 xb0 c1 A1 n1 k1' B1 m1 j1 ws1 ts1 w1 ra1 rb1 xa1 xb1 f2 t2 m2 i2).mono fun e W' ⟨he, bel⟩ => ?_
 subst he
 exact ⟨_, rfl, _, _, _, [], _, [], hW', trodAll_mk1 (shut_bool Tryz.underlying4 _), (trodAll_cons_mk (Below.trod Law.laidOut (by kernel_rfl) (of_decide_eq_true (by kernel_rfl)) k0 bel lt0) (trodAll_cons_mk (Below.trod Law.laidOut (by kernel_rfl) (of_decide_eq_true (by kernel_rfl)) k1 bel lt1) (trodAll_cons_mk (Below.trod Law.laidOut (by kernel_rfl) (of_decide_eq_true (by kernel_rfl)) k2 bel lt2) trodAll_mk0))), rfl, bel.frame _, fun h => by cases h⟩
theorem edgeWhole_over : Rows.edgeWholeRow.holds Tryz.pinned (OpenSpec.ofChange Rows.edgeWholeSpec) :=
 OpenClaim.holds_of_wide 14 Tryz.f14 rfl rfl rfl rfl rfl rfl rfl ⟨rfl, rfl, rfl, rfl, rfl⟩ rfl rfl rfl rfl rfl (by kernel_rfl) Tryz.func14 (by kernel_rfl)
  (of_decide_eq_true (by kernel_rfl)) (by unfold Func.isWrapper; first | (rw [if_pos (by decide +kernel)]; kernel_rfl) | (rw [if_neg (by decide +kernel)]; exact ⟨rfl, rfl⟩))
  (fun os started H enc _ => edgeWhole_lifted os started H enc)
theorem edgeWhole_proved : Rows.EdgeWholeSaid := edgeWhole_over
end Go.Proofs.YtaoanagmgheicaaGreat
