import Derived.Test.YtaoanagmgheicaaGreatSEIds
import Derived.Test.YtaoanagmgheicaaGreatSEnds
set_option linter.unusedSimpArgs false
set_option linter.unusedVariables false
namespace Go.Proofs.YtaoanagmgheicaaGreat
open Go.RowKit
def erestsV (u : Bool) (a b : Otl) (p : Prg) (x : List Int) : List Int × Int :=
 if asked a b p = 0 then (if (checkCircleV (jP u a b p) (jL u a b p) x).1 then idsV (jP u a b p) (jL u a b p) x else ([], 1)) else ([], asked a b p)
set_option maxRecDepth 100000 in
set_option maxHeartbeats 4000000 in
theorem Rests_any (c : Int) (A B : Option Addr) (n k m j : Nat) (ws ts : List Bnd) (d : Int) (C D : Option Addr) (n2 k2 m2 j2 : Nat) (ws2 ts2 : List Bnd) (p1 p2 p3 p4 : Int) (w : World) (h1 : RdB w A n k ws) (h2 : RdB w B m j ts) (hn : n ≤ maxLen) (hm : m ≤ maxLen) (h3 : RdB w C n2 k2 ws2) (h4 : RdB w D m2 j2 ts2) (hn2 : n2 ≤ maxLen) (hm2 : m2 ≤ maxLen) (u : Bool) (X : Option Addr) (xn xk : Nat) (x : List Int) (hx : RdI w X xn xk x) (hxm : xn ≤ 1000) : Calls Tryz.prog 40 #[.agg #[.int .i64 c, .slice A n k, .slice B m j], .agg #[.int .i64 d, .slice C n2 k2, .slice D m2 j2], .agg #[.int .i64 p1, .int .i64 p2, .int .i64 p3, .int .i64 p4], .agg #[.bool u, .slice X xn xk]] w (RetLR (erestsV u ⟨c, ws, ts⟩ ⟨d, ws2, ts2⟩ ⟨p1, p2, p3, p4⟩ x) w) := by
 unfold erestsV
 by_cases hq : asked ⟨c, ws, ts⟩ ⟨d, ws2, ts2⟩ ⟨p1, p2, p3, p4⟩ = 0
 · rw [if_pos hq]
   have HQ1 := Lib.hid (asked_ok hq).1
   have hlen := jL_len hq u
   obtain ⟨P, hP⟩ : ∃ P, jP u ⟨c, ws, ts⟩ ⟨d, ws2, ts2⟩ ⟨p1, p2, p3, p4⟩ = P := ⟨_, rfl⟩
   obtain ⟨L, hL⟩ : ∃ P, jL u ⟨c, ws, ts⟩ ⟨d, ws2, ts2⟩ ⟨p1, p2, p3, p4⟩ = P := ⟨_, rfl⟩
   rw [hP, hL]
   rw [hL] at hlen
   have HL1 := Lib.hid hlen; have HP := Lib.hid hP; have HL := Lib.hid hL; clear hP hL hlen
   obtain ⟨V, hV⟩ : ∃ V, checkCircleV P L x = V := ⟨_, rfl⟩
   rw [hV]
   have EV := Lib.hid hV; clear hV
   obtain ⟨V1, V2⟩ := V
   obtain ⟨I, hI⟩ : ∃ V, idsV P L x = V := ⟨_, rfl⟩
   rw [hI]
   have EI := Lib.hid hI; clear hI
   obtain ⟨I1, I2⟩ := I
   unfold RetLR
   dsimp only
   cases V1
   · simp only [Bool.false_eq_true, if_false]
     go_enter Tryz.func40, Tryz.ntmps40
     have bel_1 := Lib.hid (show Below w.heap.size w w from Below.refl _ w)
     have ra_2 := Lib.hid (h1)
     clear h1
     have rb_3 := Lib.hid (h2)
     clear h2
     have rc_4 := Lib.hid (h3)
     clear h3
     have rd_5 := Lib.hid (h4)
     clear h4
     have rx_6 := Lib.hid (hx)
     clear hx
     obtain ⟨o_, ho_⟩ : ∃ o, o = ((.cells #[.int .i64 c, .slice A n k, .slice B m j] 24) : Obj) := ⟨_, rfl⟩
     replace bel_1 := bA bel_1 o_
     replace ra_2 := rA ra_2 o_
     replace rb_3 := rA rb_3 o_
     replace rc_4 := rA rc_4 o_
     replace rd_5 := rA rd_5 o_
     replace rx_6 := iA rx_6 o_
     subst ho_
     have ba_7 := Lib.hid (Blk.new w 24 #[.int .i64 c, .slice A n k, .slice B m j])
     obtain ⟨o_, ho_⟩ : ∃ o, o = ((.cells #[.int .i64 d, .slice C n2 k2, .slice D m2 j2] 24) : Obj) := ⟨_, rfl⟩
     replace bel_1 := bA bel_1 o_
     replace ra_2 := rA ra_2 o_
     replace rb_3 := rA rb_3 o_
     replace rc_4 := rA rc_4 o_
     replace rd_5 := rA rd_5 o_
     replace rx_6 := iA rx_6 o_
     replace ba_7 := kA ba_7 o_
     subst ho_
     have nb_ := Blk.new (w.alloc (.cells #[.int .i64 c, .slice A n k, .slice B m j] 24)) 24 #[.int .i64 d, .slice C n2 k2, .slice D m2 j2]
     simp only [World.size_alloc] at nb_
     have bb_8 := Lib.hid nb_; clear nb_
     obtain ⟨o_, ho_⟩ : ∃ o, o = ((.cells #[.int .i64 p1, .int .i64 p2, .int .i64 p3, .int .i64 p4] 28) : Obj) := ⟨_, rfl⟩
     replace bel_1 := bA bel_1 o_
     replace ra_2 := rA ra_2 o_
     replace rb_3 := rA rb_3 o_
     replace rc_4 := rA rc_4 o_
     replace rd_5 := rA rd_5 o_
     replace rx_6 := iA rx_6 o_
     replace ba_7 := kA ba_7 o_
     replace bb_8 := kA bb_8 o_
     subst ho_
     have nb_ := Blk.new ((w.alloc (.cells #[.int .i64 c, .slice A n k, .slice B m j] 24)).alloc (.cells #[.int .i64 d, .slice C n2 k2, .slice D m2 j2] 24)) 28 #[.int .i64 p1, .int .i64 p2, .int .i64 p3, .int .i64 p4]
     simp only [World.size_alloc] at nb_
     have bp_9 := Lib.hid nb_; clear nb_
     obtain ⟨o_, ho_⟩ : ∃ o, o = ((.cells #[.bool u, .slice X xn xk] 33) : Obj) := ⟨_, rfl⟩
     replace bel_1 := bA bel_1 o_
     replace ra_2 := rA ra_2 o_
     replace rb_3 := rA rb_3 o_
     replace rc_4 := rA rc_4 o_
     replace rd_5 := rA rd_5 o_
     replace rx_6 := iA rx_6 o_
     replace ba_7 := kA ba_7 o_
     replace bb_8 := kA bb_8 o_
     replace bp_9 := kA bp_9 o_
     subst ho_
     have nb_ := Blk.new (((w.alloc (.cells #[.int .i64 c, .slice A n k, .slice B m j] 24)).alloc (.cells #[.int .i64 d, .slice C n2 k2, .slice D m2 j2] 24)).alloc (.cells #[.int .i64 p1, .int .i64 p2, .int .i64 p3, .int .i64 p4] 28)) 33 #[.bool u, .slice X xn xk]
     simp only [World.size_alloc] at nb_
     have bf_10 := Lib.hid nb_; clear nb_
     obtain ⟨z_11, z_12, z_13⟩ := at3 ba_7
     obtain ⟨z_14, z_15, z_16⟩ := at3 bb_8
     obtain ⟨z_17, z_18, z_19, z_20⟩ := at4 bp_9
     obtain ⟨z_21, z_22⟩ := at2 bf_10
     have hc := pairOf_yes c A B n k m j ws ts d C D n2 k2 m2 j2 ws2 ts2 p1 p2 p3 p4 _ ra_2.out rb_3.out hn hm rc_4.out rd_5.out hn2 hm2 hq
     have HC := Lib.hid hc; clear hc
     go_wp2_with fail
     refine HC.out.mono ?_
     rintro e w_23 ⟨rfl, hb⟩
     clear HC
     clear z_11 z_12 z_13 z_14 z_15 z_16 z_17 z_18 z_19 z_20 z_21 z_22
     replace bel_1 := bB bel_1 hb
     replace ra_2 := rB ra_2 hb
     replace rb_3 := rB rb_3 hb
     replace rc_4 := rB rc_4 hb
     replace rd_5 := rB rd_5 hb
     replace rx_6 := iB rx_6 hb
     replace ba_7 := kB ba_7 hb
     replace bb_8 := kB bb_8 hb
     replace bp_9 := kB bp_9 hb
     replace bf_10 := kB bf_10 hb
     clear hb
     obtain ⟨z_24, z_25, z_26⟩ := at3 ba_7
     obtain ⟨z_27, z_28, z_29⟩ := at3 bb_8
     obtain ⟨z_30, z_31, z_32, z_33⟩ := at4 bp_9
     obtain ⟨z_34, z_35⟩ := at2 bf_10
     clear z_24 z_25 z_26 z_27 z_28 z_29 z_30 z_31 z_32 z_33 z_34 z_35
     obtain ⟨o_, ho_⟩ : ∃ o, o = ((.cells #[.int .i64 c, .slice A n k, .slice B m j, .int .i64 d, .slice C n2 k2, .slice D m2 j2, .int .i64 p1, .int .i64 p2, .int .i64 p3, .int .i64 p4] 101) : Obj) := ⟨_, rfl⟩
     replace bel_1 := bA bel_1 o_
     replace ra_2 := rA ra_2 o_
     replace rb_3 := rA rb_3 o_
     replace rc_4 := rA rc_4 o_
     replace rd_5 := rA rd_5 o_
     replace rx_6 := iA rx_6 o_
     replace ba_7 := kA ba_7 o_
     replace bb_8 := kA bb_8 o_
     replace bp_9 := kA bp_9 o_
     replace bf_10 := kA bf_10 o_
     subst ho_
     have bq_36 := Lib.hid (Blk.new w_23 101 #[.int .i64 c, .slice A n k, .slice B m j, .int .i64 d, .slice C n2 k2, .slice D m2 j2, .int .i64 p1, .int .i64 p2, .int .i64 p3, .int .i64 p4])
     obtain ⟨z_37, z_38, z_39⟩ := at3 ba_7
     obtain ⟨z_40, z_41, z_42⟩ := at3 bb_8
     obtain ⟨z_43, z_44, z_45, z_46⟩ := at4 bp_9
     obtain ⟨z_47, z_48⟩ := at2 bf_10
     obtain ⟨z_49, z_50, z_51, z_52, z_53, z_54, z_55, z_56, z_57, z_58⟩ := at10 bq_36
     have hc := joint_q u c A B n k m j ws ts d C D n2 k2 m2 j2 ws2 ts2 p1 p2 p3 p4 _ ra_2.out rb_3.out hn hm rc_4.out rd_5.out hn2 hm2 HQ1.out
     rw [HP.out, HL.out] at hc
     try dsimp only at hc
     have HC := Lib.hid hc; clear hc
     go_wp2_with fail
     refine HC.out.mono ?_
     rintro e w_59 ⟨Ar, nr, kr, rfl, hrl, hb⟩
     clear HC
     clear z_37 z_38 z_39 z_40 z_41 z_42 z_43 z_44 z_45 z_46 z_47 z_48 z_49 z_50 z_51 z_52 z_53 z_54 z_55 z_56 z_57 z_58
     replace bel_1 := bB bel_1 hb
     replace ra_2 := rB ra_2 hb
     replace rb_3 := rB rb_3 hb
     replace rc_4 := rB rc_4 hb
     replace rd_5 := rB rd_5 hb
     replace rx_6 := iB rx_6 hb
     replace ba_7 := kB ba_7 hb
     replace bb_8 := kB bb_8 hb
     replace bp_9 := kB bp_9 hb
     replace bf_10 := kB bf_10 hb
     replace bq_36 := kB bq_36 hb
     clear hb
     have rl_60 := Lib.hid (hrl)
     clear hrl
     obtain ⟨o_, ho_⟩ : ∃ o, o = ((.cells #[.int .i64 P, .slice Ar nr kr] 46) : Obj) := ⟨_, rfl⟩
     replace bel_1 := bA bel_1 o_
     replace ra_2 := rA ra_2 o_
     replace rb_3 := rA rb_3 o_
     replace rc_4 := rA rc_4 o_
     replace rd_5 := rA rd_5 o_
     replace rx_6 := iA rx_6 o_
     replace ba_7 := kA ba_7 o_
     replace bb_8 := kA bb_8 o_
     replace bp_9 := kA bp_9 o_
     replace bf_10 := kA bf_10 o_
     replace bq_36 := kA bq_36 o_
     replace rl_60 := rA rl_60 o_
     subst ho_
     have bs_61 := Lib.hid (Blk.new w_59 46 #[.int .i64 P, .slice Ar nr kr])
     obtain ⟨z_62, z_63, z_64⟩ := at3 ba_7
     obtain ⟨z_65, z_66, z_67⟩ := at3 bb_8
     obtain ⟨z_68, z_69, z_70, z_71⟩ := at4 bp_9
     obtain ⟨z_72, z_73⟩ := at2 bf_10
     obtain ⟨z_74, z_75, z_76, z_77, z_78, z_79, z_80, z_81, z_82, z_83⟩ := at10 bq_36
     obtain ⟨z_84, z_85⟩ := at2 bs_61
     have hl_ : nr ≤ maxLen := by have h1 := (rl_60.out).len; have h2 := HL1.out; unfold maxLen; omega
     have hc := CheckCircle_is P Ar X nr kr xn xk L x _ rl_60.out hl_ rx_6.out (by unfold maxLen; omega) _ EV.out
     have HC := Lib.hid hc; clear hc
     go_wp2_with fail
     refine HC.out.mono ?_
     rintro e w_86 ⟨rfl, hb⟩
     clear HC
     clear z_62 z_63 z_64 z_65 z_66 z_67 z_68 z_69 z_70 z_71 z_72 z_73 z_74 z_75 z_76 z_77 z_78 z_79 z_80 z_81 z_82 z_83 z_84 z_85
     replace bel_1 := bB bel_1 hb
     replace ra_2 := rB ra_2 hb
     replace rb_3 := rB rb_3 hb
     replace rc_4 := rB rc_4 hb
     replace rd_5 := rB rd_5 hb
     replace rx_6 := iB rx_6 hb
     replace ba_7 := kB ba_7 hb
     replace bb_8 := kB bb_8 hb
     replace bp_9 := kB bp_9 hb
     replace bf_10 := kB bf_10 hb
     replace bq_36 := kB bq_36 hb
     replace rl_60 := rB rl_60 hb
     replace bs_61 := kB bs_61 hb
     clear hb
     obtain ⟨z_87, z_88, z_89⟩ := at3 ba_7
     obtain ⟨z_90, z_91, z_92⟩ := at3 bb_8
     obtain ⟨z_93, z_94, z_95, z_96⟩ := at4 bp_9
     obtain ⟨z_97, z_98⟩ := at2 bf_10
     obtain ⟨z_99, z_100, z_101, z_102, z_103, z_104, z_105, z_106, z_107, z_108⟩ := at10 bq_36
     obtain ⟨z_109, z_110⟩ := at2 bs_61
     go_wp2
     go_ret2
     exact ⟨none, 0, 0, rfl, RdI.nil_ _, by unfold maxLen; omega, bel_1.out⟩
   · simp only [if_true]
     go_enter Tryz.func40, Tryz.ntmps40
     have bel_1 := Lib.hid (show Below w.heap.size w w from Below.refl _ w)
     have ra_2 := Lib.hid (h1)
     clear h1
     have rb_3 := Lib.hid (h2)
     clear h2
     have rc_4 := Lib.hid (h3)
     clear h3
     have rd_5 := Lib.hid (h4)
     clear h4
     have rx_6 := Lib.hid (hx)
     clear hx
     obtain ⟨o_, ho_⟩ : ∃ o, o = ((.cells #[.int .i64 c, .slice A n k, .slice B m j] 24) : Obj) := ⟨_, rfl⟩
     replace bel_1 := bA bel_1 o_
     replace ra_2 := rA ra_2 o_
     replace rb_3 := rA rb_3 o_
     replace rc_4 := rA rc_4 o_
     replace rd_5 := rA rd_5 o_
     replace rx_6 := iA rx_6 o_
     subst ho_
     have ba_7 := Lib.hid (Blk.new w 24 #[.int .i64 c, .slice A n k, .slice B m j])
     obtain ⟨o_, ho_⟩ : ∃ o, o = ((.cells #[.int .i64 d, .slice C n2 k2, .slice D m2 j2] 24) : Obj) := ⟨_, rfl⟩
     replace bel_1 := bA bel_1 o_
     replace ra_2 := rA ra_2 o_
     replace rb_3 := rA rb_3 o_
     replace rc_4 := rA rc_4 o_
     replace rd_5 := rA rd_5 o_
     replace rx_6 := iA rx_6 o_
     replace ba_7 := kA ba_7 o_
     subst ho_
     have nb_ := Blk.new (w.alloc (.cells #[.int .i64 c, .slice A n k, .slice B m j] 24)) 24 #[.int .i64 d, .slice C n2 k2, .slice D m2 j2]
     simp only [World.size_alloc] at nb_
     have bb_8 := Lib.hid nb_; clear nb_
     obtain ⟨o_, ho_⟩ : ∃ o, o = ((.cells #[.int .i64 p1, .int .i64 p2, .int .i64 p3, .int .i64 p4] 28) : Obj) := ⟨_, rfl⟩
     replace bel_1 := bA bel_1 o_
     replace ra_2 := rA ra_2 o_
     replace rb_3 := rA rb_3 o_
     replace rc_4 := rA rc_4 o_
     replace rd_5 := rA rd_5 o_
     replace rx_6 := iA rx_6 o_
     replace ba_7 := kA ba_7 o_
     replace bb_8 := kA bb_8 o_
     subst ho_
     have nb_ := Blk.new ((w.alloc (.cells #[.int .i64 c, .slice A n k, .slice B m j] 24)).alloc (.cells #[.int .i64 d, .slice C n2 k2, .slice D m2 j2] 24)) 28 #[.int .i64 p1, .int .i64 p2, .int .i64 p3, .int .i64 p4]
     simp only [World.size_alloc] at nb_
     have bp_9 := Lib.hid nb_; clear nb_
     obtain ⟨o_, ho_⟩ : ∃ o, o = ((.cells #[.bool u, .slice X xn xk] 33) : Obj) := ⟨_, rfl⟩
     replace bel_1 := bA bel_1 o_
     replace ra_2 := rA ra_2 o_
     replace rb_3 := rA rb_3 o_
     replace rc_4 := rA rc_4 o_
     replace rd_5 := rA rd_5 o_
     replace rx_6 := iA rx_6 o_
     replace ba_7 := kA ba_7 o_
     replace bb_8 := kA bb_8 o_
     replace bp_9 := kA bp_9 o_
     subst ho_
     have nb_ := Blk.new (((w.alloc (.cells #[.int .i64 c, .slice A n k, .slice B m j] 24)).alloc (.cells #[.int .i64 d, .slice C n2 k2, .slice D m2 j2] 24)).alloc (.cells #[.int .i64 p1, .int .i64 p2, .int .i64 p3, .int .i64 p4] 28)) 33 #[.bool u, .slice X xn xk]
     simp only [World.size_alloc] at nb_
     have bf_10 := Lib.hid nb_; clear nb_
     obtain ⟨z_11, z_12, z_13⟩ := at3 ba_7
     obtain ⟨z_14, z_15, z_16⟩ := at3 bb_8
     obtain ⟨z_17, z_18, z_19, z_20⟩ := at4 bp_9
     obtain ⟨z_21, z_22⟩ := at2 bf_10
     have hc := pairOf_yes c A B n k m j ws ts d C D n2 k2 m2 j2 ws2 ts2 p1 p2 p3 p4 _ ra_2.out rb_3.out hn hm rc_4.out rd_5.out hn2 hm2 hq
     have HC := Lib.hid hc; clear hc
     go_wp2_with fail
     refine HC.out.mono ?_
     rintro e w_23 ⟨rfl, hb⟩
     clear HC
     clear z_11 z_12 z_13 z_14 z_15 z_16 z_17 z_18 z_19 z_20 z_21 z_22
     replace bel_1 := bB bel_1 hb
     replace ra_2 := rB ra_2 hb
     replace rb_3 := rB rb_3 hb
     replace rc_4 := rB rc_4 hb
     replace rd_5 := rB rd_5 hb
     replace rx_6 := iB rx_6 hb
     replace ba_7 := kB ba_7 hb
     replace bb_8 := kB bb_8 hb
     replace bp_9 := kB bp_9 hb
     replace bf_10 := kB bf_10 hb
     clear hb
     obtain ⟨z_24, z_25, z_26⟩ := at3 ba_7
     obtain ⟨z_27, z_28, z_29⟩ := at3 bb_8
     obtain ⟨z_30, z_31, z_32, z_33⟩ := at4 bp_9
     obtain ⟨z_34, z_35⟩ := at2 bf_10
     clear z_24 z_25 z_26 z_27 z_28 z_29 z_30 z_31 z_32 z_33 z_34 z_35
     obtain ⟨o_, ho_⟩ : ∃ o, o = ((.cells #[.int .i64 c, .slice A n k, .slice B m j, .int .i64 d, .slice C n2 k2, .slice D m2 j2, .int .i64 p1, .int .i64 p2, .int .i64 p3, .int .i64 p4] 101) : Obj) := ⟨_, rfl⟩
     replace bel_1 := bA bel_1 o_
     replace ra_2 := rA ra_2 o_
     replace rb_3 := rA rb_3 o_
     replace rc_4 := rA rc_4 o_
     replace rd_5 := rA rd_5 o_
     replace rx_6 := iA rx_6 o_
     replace ba_7 := kA ba_7 o_
     replace bb_8 := kA bb_8 o_
     replace bp_9 := kA bp_9 o_
     replace bf_10 := kA bf_10 o_
     subst ho_
     have bq_36 := Lib.hid (Blk.new w_23 101 #[.int .i64 c, .slice A n k, .slice B m j, .int .i64 d, .slice C n2 k2, .slice D m2 j2, .int .i64 p1, .int .i64 p2, .int .i64 p3, .int .i64 p4])
     obtain ⟨z_37, z_38, z_39⟩ := at3 ba_7
     obtain ⟨z_40, z_41, z_42⟩ := at3 bb_8
     obtain ⟨z_43, z_44, z_45, z_46⟩ := at4 bp_9
     obtain ⟨z_47, z_48⟩ := at2 bf_10
     obtain ⟨z_49, z_50, z_51, z_52, z_53, z_54, z_55, z_56, z_57, z_58⟩ := at10 bq_36
     have hc := joint_q u c A B n k m j ws ts d C D n2 k2 m2 j2 ws2 ts2 p1 p2 p3 p4 _ ra_2.out rb_3.out hn hm rc_4.out rd_5.out hn2 hm2 HQ1.out
     rw [HP.out, HL.out] at hc
     try dsimp only at hc
     have HC := Lib.hid hc; clear hc
     go_wp2_with fail
     refine HC.out.mono ?_
     rintro e w_59 ⟨Ar, nr, kr, rfl, hrl, hb⟩
     clear HC
     clear z_37 z_38 z_39 z_40 z_41 z_42 z_43 z_44 z_45 z_46 z_47 z_48 z_49 z_50 z_51 z_52 z_53 z_54 z_55 z_56 z_57 z_58
     replace bel_1 := bB bel_1 hb
     replace ra_2 := rB ra_2 hb
     replace rb_3 := rB rb_3 hb
     replace rc_4 := rB rc_4 hb
     replace rd_5 := rB rd_5 hb
     replace rx_6 := iB rx_6 hb
     replace ba_7 := kB ba_7 hb
     replace bb_8 := kB bb_8 hb
     replace bp_9 := kB bp_9 hb
     replace bf_10 := kB bf_10 hb
     replace bq_36 := kB bq_36 hb
     clear hb
     have rl_60 := Lib.hid (hrl)
     clear hrl
     obtain ⟨o_, ho_⟩ : ∃ o, o = ((.cells #[.int .i64 P, .slice Ar nr kr] 46) : Obj) := ⟨_, rfl⟩
     replace bel_1 := bA bel_1 o_
     replace ra_2 := rA ra_2 o_
     replace rb_3 := rA rb_3 o_
     replace rc_4 := rA rc_4 o_
     replace rd_5 := rA rd_5 o_
     replace rx_6 := iA rx_6 o_
     replace ba_7 := kA ba_7 o_
     replace bb_8 := kA bb_8 o_
     replace bp_9 := kA bp_9 o_
     replace bf_10 := kA bf_10 o_
     replace bq_36 := kA bq_36 o_
     replace rl_60 := rA rl_60 o_
     subst ho_
     have bs_61 := Lib.hid (Blk.new w_59 46 #[.int .i64 P, .slice Ar nr kr])
     obtain ⟨z_62, z_63, z_64⟩ := at3 ba_7
     obtain ⟨z_65, z_66, z_67⟩ := at3 bb_8
     obtain ⟨z_68, z_69, z_70, z_71⟩ := at4 bp_9
     obtain ⟨z_72, z_73⟩ := at2 bf_10
     obtain ⟨z_74, z_75, z_76, z_77, z_78, z_79, z_80, z_81, z_82, z_83⟩ := at10 bq_36
     obtain ⟨z_84, z_85⟩ := at2 bs_61
     have hl_ : nr ≤ maxLen := by have h1 := (rl_60.out).len; have h2 := HL1.out; unfold maxLen; omega
     have hc := CheckCircle_is P Ar X nr kr xn xk L x _ rl_60.out hl_ rx_6.out (by unfold maxLen; omega) _ EV.out
     have HC := Lib.hid hc; clear hc
     go_wp2_with fail
     refine HC.out.mono ?_
     rintro e w_86 ⟨rfl, hb⟩
     clear HC
     clear z_62 z_63 z_64 z_65 z_66 z_67 z_68 z_69 z_70 z_71 z_72 z_73 z_74 z_75 z_76 z_77 z_78 z_79 z_80 z_81 z_82 z_83 z_84 z_85
     replace bel_1 := bB bel_1 hb
     replace ra_2 := rB ra_2 hb
     replace rb_3 := rB rb_3 hb
     replace rc_4 := rB rc_4 hb
     replace rd_5 := rB rd_5 hb
     replace rx_6 := iB rx_6 hb
     replace ba_7 := kB ba_7 hb
     replace bb_8 := kB bb_8 hb
     replace bp_9 := kB bp_9 hb
     replace bf_10 := kB bf_10 hb
     replace bq_36 := kB bq_36 hb
     replace rl_60 := rB rl_60 hb
     replace bs_61 := kB bs_61 hb
     clear hb
     obtain ⟨z_87, z_88, z_89⟩ := at3 ba_7
     obtain ⟨z_90, z_91, z_92⟩ := at3 bb_8
     obtain ⟨z_93, z_94, z_95, z_96⟩ := at4 bp_9
     obtain ⟨z_97, z_98⟩ := at2 bf_10
     obtain ⟨z_99, z_100, z_101, z_102, z_103, z_104, z_105, z_106, z_107, z_108⟩ := at10 bq_36
     obtain ⟨z_109, z_110⟩ := at2 bs_61
     have hc := Ids_any P Ar nr kr L _ rl_60.out hl_ X xn xk x rx_6.out hxm
     unfold RetLR at hc
     rw [EI.out] at hc
     dsimp only at hc
     have hc := hc
     have HC := Lib.hid hc; clear hc
     go_wp2_with fail
     refine HC.out.mono ?_
     rintro e w_111 ⟨A9, n9, c9, rfl, hr9, hm9, hb⟩
     clear HC
     clear z_87 z_88 z_89 z_90 z_91 z_92 z_93 z_94 z_95 z_96 z_97 z_98 z_99 z_100 z_101 z_102 z_103 z_104 z_105 z_106 z_107 z_108 z_109 z_110
     replace bel_1 := bB bel_1 hb
     replace ra_2 := rB ra_2 hb
     replace rb_3 := rB rb_3 hb
     replace rc_4 := rB rc_4 hb
     replace rd_5 := rB rd_5 hb
     replace rx_6 := iB rx_6 hb
     replace ba_7 := kB ba_7 hb
     replace bb_8 := kB bb_8 hb
     replace bp_9 := kB bp_9 hb
     replace bf_10 := kB bf_10 hb
     replace bq_36 := kB bq_36 hb
     replace rl_60 := rB rl_60 hb
     replace bs_61 := kB bs_61 hb
     clear hb
     have r9_112 := Lib.hid (hr9)
     clear hr9
     go_wp2
     go_ret2
     exact ⟨A9, n9, c9, rfl, r9_112.out, hm9, bel_1.out⟩
 · rw [if_neg hq]
   obtain ⟨q, hq2⟩ : ∃ q, asked ⟨c, ws, ts⟩ ⟨d, ws2, ts2⟩ ⟨p1, p2, p3, p4⟩ = q := ⟨_, rfl⟩
   rw [hq2] at hq
   rw [hq2]
   have hne := hq
   have hqe : (q != 0) = true := by simpa using hq
   clear hq
   have hq := hq2; clear hq2
   unfold RetLR
   dsimp only
   go_enter Tryz.func40, Tryz.ntmps40
   have bel_1 := Lib.hid (show Below w.heap.size w w from Below.refl _ w)
   have ra_2 := Lib.hid (h1)
   clear h1
   have rb_3 := Lib.hid (h2)
   clear h2
   have rc_4 := Lib.hid (h3)
   clear h3
   have rd_5 := Lib.hid (h4)
   clear h4
   have rx_6 := Lib.hid (hx)
   clear hx
   obtain ⟨o_, ho_⟩ : ∃ o, o = ((.cells #[.int .i64 c, .slice A n k, .slice B m j] 24) : Obj) := ⟨_, rfl⟩
   replace bel_1 := bA bel_1 o_
   replace ra_2 := rA ra_2 o_
   replace rb_3 := rA rb_3 o_
   replace rc_4 := rA rc_4 o_
   replace rd_5 := rA rd_5 o_
   replace rx_6 := iA rx_6 o_
   subst ho_
   have ba_7 := Lib.hid (Blk.new w 24 #[.int .i64 c, .slice A n k, .slice B m j])
   obtain ⟨o_, ho_⟩ : ∃ o, o = ((.cells #[.int .i64 d, .slice C n2 k2, .slice D m2 j2] 24) : Obj) := ⟨_, rfl⟩
   replace bel_1 := bA bel_1 o_
   replace ra_2 := rA ra_2 o_
   replace rb_3 := rA rb_3 o_
   replace rc_4 := rA rc_4 o_
   replace rd_5 := rA rd_5 o_
   replace rx_6 := iA rx_6 o_
   replace ba_7 := kA ba_7 o_
   subst ho_
   have nb_ := Blk.new (w.alloc (.cells #[.int .i64 c, .slice A n k, .slice B m j] 24)) 24 #[.int .i64 d, .slice C n2 k2, .slice D m2 j2]
   simp only [World.size_alloc] at nb_
   have bb_8 := Lib.hid nb_; clear nb_
   obtain ⟨o_, ho_⟩ : ∃ o, o = ((.cells #[.int .i64 p1, .int .i64 p2, .int .i64 p3, .int .i64 p4] 28) : Obj) := ⟨_, rfl⟩
   replace bel_1 := bA bel_1 o_
   replace ra_2 := rA ra_2 o_
   replace rb_3 := rA rb_3 o_
   replace rc_4 := rA rc_4 o_
   replace rd_5 := rA rd_5 o_
   replace rx_6 := iA rx_6 o_
   replace ba_7 := kA ba_7 o_
   replace bb_8 := kA bb_8 o_
   subst ho_
   have nb_ := Blk.new ((w.alloc (.cells #[.int .i64 c, .slice A n k, .slice B m j] 24)).alloc (.cells #[.int .i64 d, .slice C n2 k2, .slice D m2 j2] 24)) 28 #[.int .i64 p1, .int .i64 p2, .int .i64 p3, .int .i64 p4]
   simp only [World.size_alloc] at nb_
   have bp_9 := Lib.hid nb_; clear nb_
   obtain ⟨o_, ho_⟩ : ∃ o, o = ((.cells #[.bool u, .slice X xn xk] 33) : Obj) := ⟨_, rfl⟩
   replace bel_1 := bA bel_1 o_
   replace ra_2 := rA ra_2 o_
   replace rb_3 := rA rb_3 o_
   replace rc_4 := rA rc_4 o_
   replace rd_5 := rA rd_5 o_
   replace rx_6 := iA rx_6 o_
   replace ba_7 := kA ba_7 o_
   replace bb_8 := kA bb_8 o_
   replace bp_9 := kA bp_9 o_
   subst ho_
   have nb_ := Blk.new (((w.alloc (.cells #[.int .i64 c, .slice A n k, .slice B m j] 24)).alloc (.cells #[.int .i64 d, .slice C n2 k2, .slice D m2 j2] 24)).alloc (.cells #[.int .i64 p1, .int .i64 p2, .int .i64 p3, .int .i64 p4] 28)) 33 #[.bool u, .slice X xn xk]
   simp only [World.size_alloc] at nb_
   have bf_10 := Lib.hid nb_; clear nb_
   obtain ⟨z_11, z_12, z_13⟩ := at3 ba_7
   obtain ⟨z_14, z_15, z_16⟩ := at3 bb_8
   obtain ⟨z_17, z_18, z_19, z_20⟩ := at4 bp_9
   obtain ⟨z_21, z_22⟩ := at2 bf_10
   have hc := pairOf_no c A B n k m j ws ts d C D n2 k2 m2 j2 ws2 ts2 p1 p2 p3 p4 _ ra_2.out rb_3.out hn hm rc_4.out rd_5.out hn2 hm2 q hq hne
   have HC := Lib.hid hc; clear hc
   go_wp2_with fail
   refine HC.out.mono ?_
   rintro e w_23 ⟨rfl, hb⟩
   clear HC
   clear z_11 z_12 z_13 z_14 z_15 z_16 z_17 z_18 z_19 z_20 z_21 z_22
   replace bel_1 := bB bel_1 hb
   replace ra_2 := rB ra_2 hb
   replace rb_3 := rB rb_3 hb
   replace rc_4 := rB rc_4 hb
   replace rd_5 := rB rd_5 hb
   replace rx_6 := iB rx_6 hb
   replace ba_7 := kB ba_7 hb
   replace bb_8 := kB bb_8 hb
   replace bp_9 := kB bp_9 hb
   replace bf_10 := kB bf_10 hb
   clear hb
   obtain ⟨z_24, z_25, z_26⟩ := at3 ba_7
   obtain ⟨z_27, z_28, z_29⟩ := at3 bb_8
   obtain ⟨z_30, z_31, z_32, z_33⟩ := at4 bp_9
   obtain ⟨z_34, z_35⟩ := at2 bf_10
   clear z_24 z_25 z_26 z_27 z_28 z_29 z_30 z_31 z_32 z_33 z_34 z_35
   obtain ⟨o_, ho_⟩ : ∃ o, o = ((.cells #[.int .i64 0, .slice none 0 0, .slice none 0 0, .int .i64 0, .slice none 0 0, .slice none 0 0, .int .i64 0, .int .i64 0, .int .i64 0, .int .i64 0] 101) : Obj) := ⟨_, rfl⟩
   replace bel_1 := bA bel_1 o_
   replace ra_2 := rA ra_2 o_
   replace rb_3 := rA rb_3 o_
   replace rc_4 := rA rc_4 o_
   replace rd_5 := rA rd_5 o_
   replace rx_6 := iA rx_6 o_
   replace ba_7 := kA ba_7 o_
   replace bb_8 := kA bb_8 o_
   replace bp_9 := kA bp_9 o_
   replace bf_10 := kA bf_10 o_
   subst ho_
   have bq_36 := Lib.hid (Blk.new w_23 101 #[.int .i64 0, .slice none 0 0, .slice none 0 0, .int .i64 0, .slice none 0 0, .slice none 0 0, .int .i64 0, .int .i64 0, .int .i64 0, .int .i64 0])
   obtain ⟨z_37, z_38, z_39⟩ := at3 ba_7
   obtain ⟨z_40, z_41, z_42⟩ := at3 bb_8
   obtain ⟨z_43, z_44, z_45, z_46⟩ := at4 bp_9
   obtain ⟨z_47, z_48⟩ := at2 bf_10
   obtain ⟨z_49, z_50, z_51, z_52, z_53, z_54, z_55, z_56, z_57, z_58⟩ := at10 bq_36
   go_wp2
   go_ret2
   exact ⟨none, 0, 0, rfl, RdI.nil_ _, by unfold maxLen; omega, (by have hsz_ := Below.size bel_1.out; repeat' (first | with_reducible exact bel_1.out | with_reducible exact Below.refl _ _ | with_reducible refine Below.alloc ?_ ?_ _ | with_reducible refine Below.setCell ?_ ?_ _ | with_reducible refine Below.drew ?_ | with_reducible refine below_setRow ?_ ?_ _ | omega | (simp; done) | (simp; omega)))⟩
def lowV (a b : Otl) (p : Prg) : Int := if isF (dist (wayL a b p) (wayP a b p).toNat p.at2.toNat p.af.toNat) then -fin (dist (wayL a b p) (wayP a b p).toNat p.at2.toNat p.af.toNat) else -1000000000
def highV (a b : Otl) (p : Prg) : Int := if isF (dist (wayL a b p) (wayP a b p).toNat p.af.toNat p.at2.toNat) then fin (dist (wayL a b p) (wayP a b p).toNat p.af.toNat p.at2.toNat) else 1000000000
def sharedV (a b : Otl) (p : Prg) : Int × Int × Int := if asked a b p = 0 then (if meetsB a b p then (lowV a b p, highV a b p, 0) else (0, 0, 30)) else (0, 0, asked a b p)
theorem Least_is (p a b : Int) (A : Option Addr) (n c : Nat) (l : List Bnd) (w : World) (hr : RdB w A n c l) (hn : n ≤ maxLen) (X : Int) (T : Bool) (Q : Int) (hV : endV p l a b false = .tuple #[.int .i64 X, .bool T, .int .i64 Q]) :
 Calls Tryz.prog 92 #[.agg #[.int .i64 p, .slice A n c], .int .i64 a, .int .i64 b] w fun e w' => e = .returned (.tuple #[.int .i64 X, .bool T, .int .i64 Q]) ∧ Below w.heap.size w w' :=
 (Least_any p a b A n c l w hr hn).mono fun e w' ⟨x, t, q, h1, h2, h3⟩ => ⟨by rw [h1, ← h2, hV], h3⟩
theorem Greatest_is (p a b : Int) (A : Option Addr) (n c : Nat) (l : List Bnd) (w : World) (hr : RdB w A n c l) (hn : n ≤ maxLen) (X : Int) (T : Bool) (Q : Int) (hV : endV p l a b true = .tuple #[.int .i64 X, .bool T, .int .i64 Q]) :
 Calls Tryz.prog 93 #[.agg #[.int .i64 p, .slice A n c], .int .i64 a, .int .i64 b] w fun e w' => e = .returned (.tuple #[.int .i64 X, .bool T, .int .i64 Q]) ∧ Below w.heap.size w w' :=
 (Greatest_any p a b A n c l w hr hn).mono fun e w' ⟨x, t, q, h1, h2, h3⟩ => ⟨by rw [h1, ← h2, hV], h3⟩
theorem scode_way {a b : Otl} {p : Prg} (h : asked a b p = 0) (hm : meetsB a b p = true) : scode (wayP a b p) (wayL a b p) [p.af, p.at2] = 0 := by
 obtain ⟨h1, -, -⟩ := asked_ok h
 obtain ⟨oa, ob, sa, sb, hk⟩ := chkP_ok h1
 have hs : slv (wayP a b p) (wayL a b p) = true := by
  unfold meetsB wayS at hm
  rw [Bool.and_eq_true] at hm
  exact hm.1
 have hg : gcode (wayP a b p) (wayL a b p) [p.af, p.at2] = 0 := by
  unfold gcode
  rw [if_pos (wayL_chk h), if_pos]
  obtain ⟨a1, a2, -, -⟩ := chkO_ok oa
  obtain ⟨b1, b2, -, -⟩ := chkO_ok ob
  simp [isPt, wayP]
  omega
 unfold slv at hs
 unfold scode
 rw [if_pos hg, if_pos hs]
set_option maxRecDepth 100000 in
set_option maxHeartbeats 4000000 in
theorem Shared_any (c : Int) (A B : Option Addr) (n k m j : Nat) (ws ts : List Bnd) (d : Int) (C D : Option Addr) (n2 k2 m2 j2 : Nat) (ws2 ts2 : List Bnd) (p1 p2 p3 p4 : Int) (w : World) (h1 : RdB w A n k ws) (h2 : RdB w B m j ts) (hn : n ≤ maxLen) (hm : m ≤ maxLen) (h3 : RdB w C n2 k2 ws2) (h4 : RdB w D m2 j2 ts2) (hn2 : n2 ≤ maxLen) (hm2 : m2 ≤ maxLen) : Calls Tryz.prog 45 #[.agg #[.int .i64 c, .slice A n k, .slice B m j], .agg #[.int .i64 d, .slice C n2 k2, .slice D m2 j2], .agg #[.int .i64 p1, .int .i64 p2, .int .i64 p3, .int .i64 p4]] w fun e w' => e = .returned (.tuple #[.int .i64 (sharedV ⟨c, ws, ts⟩ ⟨d, ws2, ts2⟩ ⟨p1, p2, p3, p4⟩).1, .int .i64 (sharedV ⟨c, ws, ts⟩ ⟨d, ws2, ts2⟩ ⟨p1, p2, p3, p4⟩).2.1, .int .i64 (sharedV ⟨c, ws, ts⟩ ⟨d, ws2, ts2⟩ ⟨p1, p2, p3, p4⟩).2.2]) ∧ Below w.heap.size w w' := by
 unfold sharedV
 by_cases hq : asked ⟨c, ws, ts⟩ ⟨d, ws2, ts2⟩ ⟨p1, p2, p3, p4⟩ = 0
 · rw [if_pos hq]
   have HQ1 := Lib.hid (asked_ok hq).1
   have HL1 := Lib.hid (show (wayL ⟨c, ws, ts⟩ ⟨d, ws2, ts2⟩ ⟨p1, p2, p3, p4⟩).length ≤ 400 from jL_len hq false)
   cases hM : meetsB ⟨c, ws, ts⟩ ⟨d, ws2, ts2⟩ ⟨p1, p2, p3, p4⟩
   · simp only [Bool.false_eq_true, if_false]
     have EM := Lib.hid hM; clear hM
     go_enter Tryz.func45, Tryz.ntmps45
     have bel_1 := Lib.hid (show Below w.heap.size w w from Below.refl _ w)
     have ra_2 := Lib.hid (h1)
     clear h1
     have rb_3 := Lib.hid (h2)
     clear h2
     have rc_4 := Lib.hid (h3)
     clear h3
     have rd_5 := Lib.hid (h4)
     clear h4
     obtain ⟨o_, ho_⟩ : ∃ o, o = ((.cells #[.int .i64 c, .slice A n k, .slice B m j] 24) : Obj) := ⟨_, rfl⟩
     replace bel_1 := bA bel_1 o_
     replace ra_2 := rA ra_2 o_
     replace rb_3 := rA rb_3 o_
     replace rc_4 := rA rc_4 o_
     replace rd_5 := rA rd_5 o_
     subst ho_
     have ba_6 := Lib.hid (Blk.new w 24 #[.int .i64 c, .slice A n k, .slice B m j])
     obtain ⟨o_, ho_⟩ : ∃ o, o = ((.cells #[.int .i64 d, .slice C n2 k2, .slice D m2 j2] 24) : Obj) := ⟨_, rfl⟩
     replace bel_1 := bA bel_1 o_
     replace ra_2 := rA ra_2 o_
     replace rb_3 := rA rb_3 o_
     replace rc_4 := rA rc_4 o_
     replace rd_5 := rA rd_5 o_
     replace ba_6 := kA ba_6 o_
     subst ho_
     have nb_ := Blk.new (w.alloc (.cells #[.int .i64 c, .slice A n k, .slice B m j] 24)) 24 #[.int .i64 d, .slice C n2 k2, .slice D m2 j2]
     simp only [World.size_alloc] at nb_
     have bb_7 := Lib.hid nb_; clear nb_
     obtain ⟨o_, ho_⟩ : ∃ o, o = ((.cells #[.int .i64 p1, .int .i64 p2, .int .i64 p3, .int .i64 p4] 28) : Obj) := ⟨_, rfl⟩
     replace bel_1 := bA bel_1 o_
     replace ra_2 := rA ra_2 o_
     replace rb_3 := rA rb_3 o_
     replace rc_4 := rA rc_4 o_
     replace rd_5 := rA rd_5 o_
     replace ba_6 := kA ba_6 o_
     replace bb_7 := kA bb_7 o_
     subst ho_
     have nb_ := Blk.new ((w.alloc (.cells #[.int .i64 c, .slice A n k, .slice B m j] 24)).alloc (.cells #[.int .i64 d, .slice C n2 k2, .slice D m2 j2] 24)) 28 #[.int .i64 p1, .int .i64 p2, .int .i64 p3, .int .i64 p4]
     simp only [World.size_alloc] at nb_
     have bp_8 := Lib.hid nb_; clear nb_
     obtain ⟨z_9, z_10, z_11⟩ := at3 ba_6
     obtain ⟨z_12, z_13, z_14⟩ := at3 bb_7
     obtain ⟨z_15, z_16, z_17, z_18⟩ := at4 bp_8
     have hc := pairOf_yes c A B n k m j ws ts d C D n2 k2 m2 j2 ws2 ts2 p1 p2 p3 p4 _ ra_2.out rb_3.out hn hm rc_4.out rd_5.out hn2 hm2 hq
     have HC := Lib.hid hc; clear hc
     go_wp2_with fail
     refine HC.out.mono ?_
     rintro e w_19 ⟨rfl, hb⟩
     clear HC
     clear z_9 z_10 z_11 z_12 z_13 z_14 z_15 z_16 z_17 z_18
     replace bel_1 := bB bel_1 hb
     replace ra_2 := rB ra_2 hb
     replace rb_3 := rB rb_3 hb
     replace rc_4 := rB rc_4 hb
     replace rd_5 := rB rd_5 hb
     replace ba_6 := kB ba_6 hb
     replace bb_7 := kB bb_7 hb
     replace bp_8 := kB bp_8 hb
     clear hb
     obtain ⟨z_20, z_21, z_22⟩ := at3 ba_6
     obtain ⟨z_23, z_24, z_25⟩ := at3 bb_7
     obtain ⟨z_26, z_27, z_28, z_29⟩ := at4 bp_8
     clear z_20 z_21 z_22 z_23 z_24 z_25 z_26 z_27 z_28 z_29
     obtain ⟨o_, ho_⟩ : ∃ o, o = ((.cells #[.int .i64 c, .slice A n k, .slice B m j, .int .i64 d, .slice C n2 k2, .slice D m2 j2, .int .i64 p1, .int .i64 p2, .int .i64 p3, .int .i64 p4] 101) : Obj) := ⟨_, rfl⟩
     replace bel_1 := bA bel_1 o_
     replace ra_2 := rA ra_2 o_
     replace rb_3 := rA rb_3 o_
     replace rc_4 := rA rc_4 o_
     replace rd_5 := rA rd_5 o_
     replace ba_6 := kA ba_6 o_
     replace bb_7 := kA bb_7 o_
     replace bp_8 := kA bp_8 o_
     subst ho_
     have bq_30 := Lib.hid (Blk.new w_19 101 #[.int .i64 c, .slice A n k, .slice B m j, .int .i64 d, .slice C n2 k2, .slice D m2 j2, .int .i64 p1, .int .i64 p2, .int .i64 p3, .int .i64 p4])
     obtain ⟨z_31, z_32, z_33⟩ := at3 ba_6
     obtain ⟨z_34, z_35, z_36⟩ := at3 bb_7
     obtain ⟨z_37, z_38, z_39, z_40⟩ := at4 bp_8
     obtain ⟨z_41, z_42, z_43, z_44, z_45, z_46, z_47, z_48, z_49, z_50⟩ := at10 bq_30
     have hc := meets_q c A B n k m j ws ts d C D n2 k2 m2 j2 ws2 ts2 p1 p2 p3 p4 _ ra_2.out rb_3.out hn hm rc_4.out rd_5.out hn2 hm2 hq
     rw [EM.out] at hc
     try dsimp only at hc
     have HC := Lib.hid hc; clear hc
     go_wp2_with fail
     refine HC.out.mono ?_
     rintro e w_51 ⟨rfl, hb⟩
     clear HC
     clear z_31 z_32 z_33 z_34 z_35 z_36 z_37 z_38 z_39 z_40 z_41 z_42 z_43 z_44 z_45 z_46 z_47 z_48 z_49 z_50
     replace bel_1 := bB bel_1 hb
     replace ra_2 := rB ra_2 hb
     replace rb_3 := rB rb_3 hb
     replace rc_4 := rB rc_4 hb
     replace rd_5 := rB rd_5 hb
     replace ba_6 := kB ba_6 hb
     replace bb_7 := kB bb_7 hb
     replace bp_8 := kB bp_8 hb
     replace bq_30 := kB bq_30 hb
     clear hb
     obtain ⟨z_52, z_53, z_54⟩ := at3 ba_6
     obtain ⟨z_55, z_56, z_57⟩ := at3 bb_7
     obtain ⟨z_58, z_59, z_60, z_61⟩ := at4 bp_8
     obtain ⟨z_62, z_63, z_64, z_65, z_66, z_67, z_68, z_69, z_70, z_71⟩ := at10 bq_30
     go_wp2
     go_ret3
     exact ⟨rfl, bel_1.out⟩
   · simp only [if_true]
     have hsc := scode_way hq hM
     dsimp only at hsc
     have EM := Lib.hid hM; clear hM
     have hE1 : endV (wayP ⟨c, ws, ts⟩ ⟨d, ws2, ts2⟩ ⟨p1, p2, p3, p4⟩) (wayL ⟨c, ws, ts⟩ ⟨d, ws2, ts2⟩ ⟨p1, p2, p3, p4⟩) p1 p2 false = .tuple #[.int .i64 (-fin (dist (wayL ⟨c, ws, ts⟩ ⟨d, ws2, ts2⟩ ⟨p1, p2, p3, p4⟩) (wayP ⟨c, ws, ts⟩ ⟨d, ws2, ts2⟩ ⟨p1, p2, p3, p4⟩).toNat p2.toNat p1.toNat)), .bool (isF (dist (wayL ⟨c, ws, ts⟩ ⟨d, ws2, ts2⟩ ⟨p1, p2, p3, p4⟩) (wayP ⟨c, ws, ts⟩ ⟨d, ws2, ts2⟩ ⟨p1, p2, p3, p4⟩).toNat p2.toNat p1.toNat)), .int .i64 0] := by
      unfold endV; rw [if_pos hsc]; rfl
     have hE2 : endV (wayP ⟨c, ws, ts⟩ ⟨d, ws2, ts2⟩ ⟨p1, p2, p3, p4⟩) (wayL ⟨c, ws, ts⟩ ⟨d, ws2, ts2⟩ ⟨p1, p2, p3, p4⟩) p1 p2 true = .tuple #[.int .i64 (fin (dist (wayL ⟨c, ws, ts⟩ ⟨d, ws2, ts2⟩ ⟨p1, p2, p3, p4⟩) (wayP ⟨c, ws, ts⟩ ⟨d, ws2, ts2⟩ ⟨p1, p2, p3, p4⟩).toNat p1.toNat p2.toNat)), .bool (isF (dist (wayL ⟨c, ws, ts⟩ ⟨d, ws2, ts2⟩ ⟨p1, p2, p3, p4⟩) (wayP ⟨c, ws, ts⟩ ⟨d, ws2, ts2⟩ ⟨p1, p2, p3, p4⟩).toNat p1.toNat p2.toNat)), .int .i64 0] := by
      unfold endV; rw [if_pos hsc]; rfl
     clear hsc
     unfold lowV highV
     dsimp only
     generalize dist (wayL ⟨c, ws, ts⟩ ⟨d, ws2, ts2⟩ ⟨p1, p2, p3, p4⟩) (wayP ⟨c, ws, ts⟩ ⟨d, ws2, ts2⟩ ⟨p1, p2, p3, p4⟩).toNat p2.toNat p1.toNat = D1 at *
     generalize dist (wayL ⟨c, ws, ts⟩ ⟨d, ws2, ts2⟩ ⟨p1, p2, p3, p4⟩) (wayP ⟨c, ws, ts⟩ ⟨d, ws2, ts2⟩ ⟨p1, p2, p3, p4⟩).toNat p1.toNat p2.toNat = D2 at *
     cases hT1 : isF D1 <;> cases hT2 : isF D2 <;> rw [hT1] at hE1 <;> rw [hT2] at hE2
     · simp only [Bool.false_eq_true, if_false]
       have HE1 := Lib.hid hE1
       have HE2 := Lib.hid hE2
       clear hE1 hE2 hT1 hT2
       go_enter Tryz.func45, Tryz.ntmps45
       have bel_1 := Lib.hid (show Below w.heap.size w w from Below.refl _ w)
       have ra_2 := Lib.hid (h1)
       clear h1
       have rb_3 := Lib.hid (h2)
       clear h2
       have rc_4 := Lib.hid (h3)
       clear h3
       have rd_5 := Lib.hid (h4)
       clear h4
       obtain ⟨o_, ho_⟩ : ∃ o, o = ((.cells #[.int .i64 c, .slice A n k, .slice B m j] 24) : Obj) := ⟨_, rfl⟩
       replace bel_1 := bA bel_1 o_
       replace ra_2 := rA ra_2 o_
       replace rb_3 := rA rb_3 o_
       replace rc_4 := rA rc_4 o_
       replace rd_5 := rA rd_5 o_
       subst ho_
       have ba_6 := Lib.hid (Blk.new w 24 #[.int .i64 c, .slice A n k, .slice B m j])
       obtain ⟨o_, ho_⟩ : ∃ o, o = ((.cells #[.int .i64 d, .slice C n2 k2, .slice D m2 j2] 24) : Obj) := ⟨_, rfl⟩
       replace bel_1 := bA bel_1 o_
       replace ra_2 := rA ra_2 o_
       replace rb_3 := rA rb_3 o_
       replace rc_4 := rA rc_4 o_
       replace rd_5 := rA rd_5 o_
       replace ba_6 := kA ba_6 o_
       subst ho_
       have nb_ := Blk.new (w.alloc (.cells #[.int .i64 c, .slice A n k, .slice B m j] 24)) 24 #[.int .i64 d, .slice C n2 k2, .slice D m2 j2]
       simp only [World.size_alloc] at nb_
       have bb_7 := Lib.hid nb_; clear nb_
       obtain ⟨o_, ho_⟩ : ∃ o, o = ((.cells #[.int .i64 p1, .int .i64 p2, .int .i64 p3, .int .i64 p4] 28) : Obj) := ⟨_, rfl⟩
       replace bel_1 := bA bel_1 o_
       replace ra_2 := rA ra_2 o_
       replace rb_3 := rA rb_3 o_
       replace rc_4 := rA rc_4 o_
       replace rd_5 := rA rd_5 o_
       replace ba_6 := kA ba_6 o_
       replace bb_7 := kA bb_7 o_
       subst ho_
       have nb_ := Blk.new ((w.alloc (.cells #[.int .i64 c, .slice A n k, .slice B m j] 24)).alloc (.cells #[.int .i64 d, .slice C n2 k2, .slice D m2 j2] 24)) 28 #[.int .i64 p1, .int .i64 p2, .int .i64 p3, .int .i64 p4]
       simp only [World.size_alloc] at nb_
       have bp_8 := Lib.hid nb_; clear nb_
       obtain ⟨z_9, z_10, z_11⟩ := at3 ba_6
       obtain ⟨z_12, z_13, z_14⟩ := at3 bb_7
       obtain ⟨z_15, z_16, z_17, z_18⟩ := at4 bp_8
       have hc := pairOf_yes c A B n k m j ws ts d C D n2 k2 m2 j2 ws2 ts2 p1 p2 p3 p4 _ ra_2.out rb_3.out hn hm rc_4.out rd_5.out hn2 hm2 hq
       have HC := Lib.hid hc; clear hc
       go_wp2_with fail
       refine HC.out.mono ?_
       rintro e w_19 ⟨rfl, hb⟩
       clear HC
       clear z_9 z_10 z_11 z_12 z_13 z_14 z_15 z_16 z_17 z_18
       replace bel_1 := bB bel_1 hb
       replace ra_2 := rB ra_2 hb
       replace rb_3 := rB rb_3 hb
       replace rc_4 := rB rc_4 hb
       replace rd_5 := rB rd_5 hb
       replace ba_6 := kB ba_6 hb
       replace bb_7 := kB bb_7 hb
       replace bp_8 := kB bp_8 hb
       clear hb
       obtain ⟨z_20, z_21, z_22⟩ := at3 ba_6
       obtain ⟨z_23, z_24, z_25⟩ := at3 bb_7
       obtain ⟨z_26, z_27, z_28, z_29⟩ := at4 bp_8
       clear z_20 z_21 z_22 z_23 z_24 z_25 z_26 z_27 z_28 z_29
       obtain ⟨o_, ho_⟩ : ∃ o, o = ((.cells #[.int .i64 c, .slice A n k, .slice B m j, .int .i64 d, .slice C n2 k2, .slice D m2 j2, .int .i64 p1, .int .i64 p2, .int .i64 p3, .int .i64 p4] 101) : Obj) := ⟨_, rfl⟩
       replace bel_1 := bA bel_1 o_
       replace ra_2 := rA ra_2 o_
       replace rb_3 := rA rb_3 o_
       replace rc_4 := rA rc_4 o_
       replace rd_5 := rA rd_5 o_
       replace ba_6 := kA ba_6 o_
       replace bb_7 := kA bb_7 o_
       replace bp_8 := kA bp_8 o_
       subst ho_
       have bq_30 := Lib.hid (Blk.new w_19 101 #[.int .i64 c, .slice A n k, .slice B m j, .int .i64 d, .slice C n2 k2, .slice D m2 j2, .int .i64 p1, .int .i64 p2, .int .i64 p3, .int .i64 p4])
       obtain ⟨z_31, z_32, z_33⟩ := at3 ba_6
       obtain ⟨z_34, z_35, z_36⟩ := at3 bb_7
       obtain ⟨z_37, z_38, z_39, z_40⟩ := at4 bp_8
       obtain ⟨z_41, z_42, z_43, z_44, z_45, z_46, z_47, z_48, z_49, z_50⟩ := at10 bq_30
       have hc := meets_q c A B n k m j ws ts d C D n2 k2 m2 j2 ws2 ts2 p1 p2 p3 p4 _ ra_2.out rb_3.out hn hm rc_4.out rd_5.out hn2 hm2 hq
       rw [EM.out] at hc
       try dsimp only at hc
       have HC := Lib.hid hc; clear hc
       go_wp2_with fail
       refine HC.out.mono ?_
       rintro e w_51 ⟨rfl, hb⟩
       clear HC
       clear z_31 z_32 z_33 z_34 z_35 z_36 z_37 z_38 z_39 z_40 z_41 z_42 z_43 z_44 z_45 z_46 z_47 z_48 z_49 z_50
       replace bel_1 := bB bel_1 hb
       replace ra_2 := rB ra_2 hb
       replace rb_3 := rB rb_3 hb
       replace rc_4 := rB rc_4 hb
       replace rd_5 := rB rd_5 hb
       replace ba_6 := kB ba_6 hb
       replace bb_7 := kB bb_7 hb
       replace bp_8 := kB bp_8 hb
       replace bq_30 := kB bq_30 hb
       clear hb
       obtain ⟨z_52, z_53, z_54⟩ := at3 ba_6
       obtain ⟨z_55, z_56, z_57⟩ := at3 bb_7
       obtain ⟨z_58, z_59, z_60, z_61⟩ := at4 bp_8
       obtain ⟨z_62, z_63, z_64, z_65, z_66, z_67, z_68, z_69, z_70, z_71⟩ := at10 bq_30
       clear hq
       go_wp2_with fail
       clear z_52 z_53 z_54 z_55 z_56 z_57 z_58 z_59 z_60 z_61 z_62 z_63 z_64 z_65 z_66 z_67 z_68 z_69 z_70 z_71
       replace bel_1 := bD bel_1
       replace ra_2 := rD ra_2
       replace rb_3 := rD rb_3
       replace rc_4 := rD rc_4
       replace rd_5 := rD rd_5
       replace ba_6 := kD ba_6
       replace bb_7 := kD bb_7
       replace bp_8 := kD bp_8
       replace bq_30 := kD bq_30
       refine wp_region_held_drew (S := (fun W' => Blk W' (w_19.heap.size) 101 #[.int .i64 c, .slice A n k, .slice B m j, .int .i64 d, .slice C n2 k2, .slice D m2 j2, .int .i64 p1, .int .i64 p2, .int .i64 p3, .int .i64 p4] ∧ Blk W' (w.heap.size + 1 + 1) 28 #[.int .i64 p1, .int .i64 p2, .int .i64 p3, .int .i64 p4])) (by kernel_rfl) ⟨bq_30.out, bp_8.out⟩ (fun _ => ?_)
       obtain ⟨w674, hw675⟩ : ∃ w', w' = (w_51.drew) := ⟨_, rfl⟩
       rw [← hw675] at bel_1 ra_2 rb_3 rc_4 rd_5 ba_6 bb_7 bp_8 bq_30
       rw [← hw675]
       clear hw675
       refine' tkH 0 ⟨bq_30.out, bp_8.out⟩ ?hyR676 ?_
       case hyR676 => (rintro W' ⟨hS0, hS1⟩; have hc0 := Blk.nth hS0 0; have hc1 := Blk.nth hS0 1; have hc2 := Blk.nth hS0 2; have hc3 := Blk.nth hS0 3; have hc4 := Blk.nth hS0 4; have hc5 := Blk.nth hS0 5; have hc6 := Blk.nth hS0 6; have hc7 := Blk.nth hS0 7; have hc8 := Blk.nth hS0 8; have hc9 := Blk.nth hS0 9; clear hS0 hS1; go_simp; try with_reducible rfl)
       refine' tkH 2 ⟨bq_30.out, bp_8.out⟩ ?hyR677 ?_
       case hyR677 => (rintro _ -; go_simp; try with_reducible rfl)
       refine' tkH 3 ⟨bq_30.out, bp_8.out⟩ ?hyR678 ?_
       case hyR678 => (rintro _ -; go_simp; try with_reducible rfl)
       refine' tkH 4 ⟨bq_30.out, bp_8.out⟩ ?hyR679 ?_
       case hyR679 => (rintro W' ⟨hS0, hS1⟩; have hc0 := Blk.nth hS1 0; clear hS0 hS1; go_simp; try with_reducible rfl)
       try simp only [Act.put, List.setIfInBounds_toArray, List.set_cons_zero, List.set_cons_succ]
       refine' tkH 5 ⟨bq_30.out, bp_8.out⟩ ?hyR680 ?_
       case hyR680 => (rintro _ -; go_simp; try with_reducible rfl)
       refine' tkH 6 ⟨bq_30.out, bp_8.out⟩ ?hyR681 ?_
       case hyR681 => (rintro _ -; go_simp; try with_reducible rfl)
       refine' tkH 7 ⟨bq_30.out, bp_8.out⟩ ?hyR682 ?_
       case hyR682 => (rintro W' ⟨hS0, hS1⟩; have hc0 := Blk.nth hS1 1; clear hS0 hS1; go_simp; try with_reducible rfl)
       try simp only [Act.put, List.setIfInBounds_toArray, List.set_cons_zero, List.set_cons_succ]
       refine wpAnyH_ready (rs := [1]) (by kernel_rfl) (by simp) ?_
       refine rdH rfl (fun K hK => ?_) ?_
       · -- 1: call
        go_simp
        go_at_call 81
        refine (ways_q c A B n k m j ws ts d C D n2 k2 m2 j2 ws2 ts2 p1 p2 p3 p4 _ ra_2.out rb_3.out hn hm rc_4.out rd_5.out hn2 hm2 HQ1.out).mono ?_
        rintro e w683 ⟨Ar, nr, kr, rfl, hrl, hb684⟩
        dsimp only
        replace bel_1 := bB bel_1 hb684
        replace ra_2 := rB ra_2 hb684
        replace rb_3 := rB rb_3 hb684
        replace rc_4 := rB rc_4 hb684
        replace rd_5 := rB rd_5 hb684
        replace ba_6 := kB ba_6 hb684
        replace bb_7 := kB bb_7 hb684
        replace bp_8 := kB bp_8 hb684
        replace bq_30 := kB bq_30 hb684
        have rl_685 := Lib.hid (hrl)
        refine hK.out _ _ ⟨bq_30.out, bp_8.out⟩ (fun _ => ?_); clear hK K
        try simp only [Act.put, List.setIfInBounds_toArray, List.set_cons_zero, List.set_cons_succ]
        refine wpAnyH_ready (rs := [8]) (by kernel_rfl) (by simp) ?_
        refine rdH rfl (fun K hK => ?_) ?_
        · -- 8: call
         have hl_ : nr ≤ maxLen := by have h1 := (rl_685.out).len; have h2 := HL1.out; unfold maxLen; omega
         go_simp
         go_at_call 92
         refine (Least_is _ _ _  Ar nr kr _ _ rl_685.out hl_ _ _ _ HE1.out).mono ?_
         rintro e w686 ⟨rfl, hb687⟩
         dsimp only
         replace bel_1 := bB bel_1 hb687
         replace ra_2 := rB ra_2 hb687
         replace rb_3 := rB rb_3 hb687
         replace rc_4 := rB rc_4 hb687
         replace rd_5 := rB rd_5 hb687
         replace ba_6 := kB ba_6 hb687
         replace bb_7 := kB bb_7 hb687
         replace bp_8 := kB bp_8 hb687
         replace bq_30 := kB bq_30 hb687
         replace rl_685 := rB rl_685 hb687
         refine hK.out _ _ ⟨bq_30.out, bp_8.out⟩ (fun _ => ?_); clear hK K
         try simp only [Act.put, List.setIfInBounds_toArray, List.set_cons_zero, List.set_cons_succ]
         refine' tkH 9 ⟨bq_30.out, bp_8.out⟩ ?hyR688 ?_
         case hyR688 => (rintro _ -; go_simp; try with_reducible rfl)
         refine' tkH 10 ⟨bq_30.out, bp_8.out⟩ ?hyR689 ?_
         case hyR689 => (rintro _ -; go_simp; try with_reducible rfl)
         refine' tkH 11 ⟨bq_30.out, bp_8.out⟩ ?hyR690 ?_
         case hyR690 => (rintro _ -; go_simp; try with_reducible rfl)
         refine' tkH 12 ⟨bq_30.out, bp_8.out⟩ ?hyR691 ?_
         case hyR691 => (rintro _ -; go_simp; try with_reducible rfl)
         try simp only [Act.put, List.setIfInBounds_toArray, List.set_cons_zero, List.set_cons_succ]
         refine' tkH 13 ⟨bq_30.out, bp_8.out⟩ ?hyR692 ?_
         case hyR692 => (rintro _ -; go_simp; try with_reducible rfl)
         refine' tkH 14 ⟨bq_30.out, bp_8.out⟩ ?hyR693 ?_
         case hyR693 => (rintro _ -; go_simp; try with_reducible rfl)
         refine' tkH 15 ⟨bq_30.out, bp_8.out⟩ ?hyR694 ?_
         case hyR694 => (rintro _ -; go_simp; try with_reducible rfl)
         try simp only [Act.put, List.setIfInBounds_toArray, List.set_cons_zero, List.set_cons_succ]
         refine wpAnyH_done (by kernel_rfl) ?_ _
         obtain ⟨z_1072, z_1073, z_1074⟩ := at3 ba_6
         obtain ⟨z_1075, z_1076, z_1077⟩ := at3 bb_7
         obtain ⟨z_1078, z_1079, z_1080, z_1081⟩ := at4 bp_8
         obtain ⟨z_1082, z_1083, z_1084, z_1085, z_1086, z_1087, z_1088, z_1089, z_1090, z_1091⟩ := at10 bq_30
         go_wp2_with fail
         clear z_1072 z_1073 z_1074 z_1075 z_1076 z_1077 z_1078 z_1079 z_1080 z_1081 z_1082 z_1083 z_1084 z_1085 z_1086 z_1087 z_1088 z_1089 z_1090 z_1091
         replace bel_1 := bD bel_1
         replace ra_2 := rD ra_2
         replace rb_3 := rD rb_3
         replace rc_4 := rD rc_4
         replace rd_5 := rD rd_5
         replace ba_6 := kD ba_6
         replace bb_7 := kD bb_7
         replace bp_8 := kD bp_8
         replace bq_30 := kD bq_30
         replace rl_685 := rD rl_685
         refine wp_region_held_drew (S := (fun W' => Blk W' (w_19.heap.size) 101 #[.int .i64 c, .slice A n k, .slice B m j, .int .i64 d, .slice C n2 k2, .slice D m2 j2, .int .i64 p1, .int .i64 p2, .int .i64 p3, .int .i64 p4] ∧ Blk W' (w.heap.size + 1 + 1) 28 #[.int .i64 p1, .int .i64 p2, .int .i64 p3, .int .i64 p4])) (by kernel_rfl) ⟨bq_30.out, bp_8.out⟩ (fun _ => ?_)
         obtain ⟨w695, hw696⟩ : ∃ w', w' = (w686.drew) := ⟨_, rfl⟩
         rw [← hw696] at bel_1 ra_2 rb_3 rc_4 rd_5 ba_6 bb_7 bp_8 bq_30 rl_685
         rw [← hw696]
         clear hw696
         refine' tkH 0 ⟨bq_30.out, bp_8.out⟩ ?hyR697 ?_
         case hyR697 => (rintro W' ⟨hS0, hS1⟩; have hc0 := Blk.nth hS0 0; have hc1 := Blk.nth hS0 1; have hc2 := Blk.nth hS0 2; have hc3 := Blk.nth hS0 3; have hc4 := Blk.nth hS0 4; have hc5 := Blk.nth hS0 5; have hc6 := Blk.nth hS0 6; have hc7 := Blk.nth hS0 7; have hc8 := Blk.nth hS0 8; have hc9 := Blk.nth hS0 9; clear hS0 hS1; go_simp; try with_reducible rfl)
         refine' tkH 2 ⟨bq_30.out, bp_8.out⟩ ?hyR698 ?_
         case hyR698 => (rintro _ -; go_simp; try with_reducible rfl)
         refine' tkH 3 ⟨bq_30.out, bp_8.out⟩ ?hyR699 ?_
         case hyR699 => (rintro _ -; go_simp; try with_reducible rfl)
         refine' tkH 4 ⟨bq_30.out, bp_8.out⟩ ?hyR700 ?_
         case hyR700 => (rintro W' ⟨hS0, hS1⟩; have hc0 := Blk.nth hS1 0; clear hS0 hS1; go_simp; try with_reducible rfl)
         try simp only [Act.put, List.setIfInBounds_toArray, List.set_cons_zero, List.set_cons_succ]
         refine' tkH 5 ⟨bq_30.out, bp_8.out⟩ ?hyR701 ?_
         case hyR701 => (rintro _ -; go_simp; try with_reducible rfl)
         refine' tkH 6 ⟨bq_30.out, bp_8.out⟩ ?hyR702 ?_
         case hyR702 => (rintro _ -; go_simp; try with_reducible rfl)
         refine' tkH 7 ⟨bq_30.out, bp_8.out⟩ ?hyR703 ?_
         case hyR703 => (rintro W' ⟨hS0, hS1⟩; have hc0 := Blk.nth hS1 1; clear hS0 hS1; go_simp; try with_reducible rfl)
         try simp only [Act.put, List.setIfInBounds_toArray, List.set_cons_zero, List.set_cons_succ]
         refine wpAnyH_ready (rs := [1]) (by kernel_rfl) (by simp) ?_
         refine rdH rfl (fun K hK => ?_) ?_
         · -- 1: call
          go_simp
          go_at_call 81
          refine (ways_q c A B n k m j ws ts d C D n2 k2 m2 j2 ws2 ts2 p1 p2 p3 p4 _ ra_2.out rb_3.out hn hm rc_4.out rd_5.out hn2 hm2 HQ1.out).mono ?_
          rintro e w704 ⟨Ar2, nr2, kr2, rfl, hrl, hb705⟩
          dsimp only
          replace bel_1 := bB bel_1 hb705
          replace ra_2 := rB ra_2 hb705
          replace rb_3 := rB rb_3 hb705
          replace rc_4 := rB rc_4 hb705
          replace rd_5 := rB rd_5 hb705
          replace ba_6 := kB ba_6 hb705
          replace bb_7 := kB bb_7 hb705
          replace bp_8 := kB bp_8 hb705
          replace bq_30 := kB bq_30 hb705
          replace rl_685 := rB rl_685 hb705
          have rl2_706 := Lib.hid (hrl)
          refine hK.out _ _ ⟨bq_30.out, bp_8.out⟩ (fun _ => ?_); clear hK K
          try simp only [Act.put, List.setIfInBounds_toArray, List.set_cons_zero, List.set_cons_succ]
          refine wpAnyH_ready (rs := [8]) (by kernel_rfl) (by simp) ?_
          refine rdH rfl (fun K hK => ?_) ?_
          · -- 8: call
           have hl_ : nr2 ≤ maxLen := by have h1 := (rl2_706.out).len; have h2 := HL1.out; unfold maxLen; omega
           go_simp
           go_at_call 93
           refine (Greatest_is _ _ _  Ar2 nr2 kr2 _ _ rl2_706.out hl_ _ _ _ HE2.out).mono ?_
           rintro e w707 ⟨rfl, hb708⟩
           dsimp only
           replace bel_1 := bB bel_1 hb708
           replace ra_2 := rB ra_2 hb708
           replace rb_3 := rB rb_3 hb708
           replace rc_4 := rB rc_4 hb708
           replace rd_5 := rB rd_5 hb708
           replace ba_6 := kB ba_6 hb708
           replace bb_7 := kB bb_7 hb708
           replace bp_8 := kB bp_8 hb708
           replace bq_30 := kB bq_30 hb708
           replace rl_685 := rB rl_685 hb708
           replace rl2_706 := rB rl2_706 hb708
           refine hK.out _ _ ⟨bq_30.out, bp_8.out⟩ (fun _ => ?_); clear hK K
           try simp only [Act.put, List.setIfInBounds_toArray, List.set_cons_zero, List.set_cons_succ]
           refine' tkH 9 ⟨bq_30.out, bp_8.out⟩ ?hyR709 ?_
           case hyR709 => (rintro _ -; go_simp; try with_reducible rfl)
           refine' tkH 10 ⟨bq_30.out, bp_8.out⟩ ?hyR710 ?_
           case hyR710 => (rintro _ -; go_simp; try with_reducible rfl)
           refine' tkH 11 ⟨bq_30.out, bp_8.out⟩ ?hyR711 ?_
           case hyR711 => (rintro _ -; go_simp; try with_reducible rfl)
           refine' tkH 12 ⟨bq_30.out, bp_8.out⟩ ?hyR712 ?_
           case hyR712 => (rintro _ -; go_simp; try with_reducible rfl)
           try simp only [Act.put, List.setIfInBounds_toArray, List.set_cons_zero, List.set_cons_succ]
           refine' tkH 13 ⟨bq_30.out, bp_8.out⟩ ?hyR713 ?_
           case hyR713 => (rintro _ -; go_simp; try with_reducible rfl)
           refine' tkH 14 ⟨bq_30.out, bp_8.out⟩ ?hyR714 ?_
           case hyR714 => (rintro _ -; go_simp; try with_reducible rfl)
           refine' tkH 15 ⟨bq_30.out, bp_8.out⟩ ?hyR715 ?_
           case hyR715 => (rintro _ -; go_simp; try with_reducible rfl)
           try simp only [Act.put, List.setIfInBounds_toArray, List.set_cons_zero, List.set_cons_succ]
           refine wpAnyH_done (by kernel_rfl) ?_ _
           go_wp2
           go_ret3
           exact ⟨rfl, bel_1.out⟩
          exact AllReadyH.nil
         exact AllReadyH.nil
        exact AllReadyH.nil
       exact AllReadyH.nil
     · simp only [Bool.false_eq_true, if_false, if_true]
       have HE1 := Lib.hid hE1
       have HE2 := Lib.hid hE2
       clear hE1 hE2 hT1 hT2
       go_enter Tryz.func45, Tryz.ntmps45
       have bel_1 := Lib.hid (show Below w.heap.size w w from Below.refl _ w)
       have ra_2 := Lib.hid (h1)
       clear h1
       have rb_3 := Lib.hid (h2)
       clear h2
       have rc_4 := Lib.hid (h3)
       clear h3
       have rd_5 := Lib.hid (h4)
       clear h4
       obtain ⟨o_, ho_⟩ : ∃ o, o = ((.cells #[.int .i64 c, .slice A n k, .slice B m j] 24) : Obj) := ⟨_, rfl⟩
       replace bel_1 := bA bel_1 o_
       replace ra_2 := rA ra_2 o_
       replace rb_3 := rA rb_3 o_
       replace rc_4 := rA rc_4 o_
       replace rd_5 := rA rd_5 o_
       subst ho_
       have ba_6 := Lib.hid (Blk.new w 24 #[.int .i64 c, .slice A n k, .slice B m j])
       obtain ⟨o_, ho_⟩ : ∃ o, o = ((.cells #[.int .i64 d, .slice C n2 k2, .slice D m2 j2] 24) : Obj) := ⟨_, rfl⟩
       replace bel_1 := bA bel_1 o_
       replace ra_2 := rA ra_2 o_
       replace rb_3 := rA rb_3 o_
       replace rc_4 := rA rc_4 o_
       replace rd_5 := rA rd_5 o_
       replace ba_6 := kA ba_6 o_
       subst ho_
       have nb_ := Blk.new (w.alloc (.cells #[.int .i64 c, .slice A n k, .slice B m j] 24)) 24 #[.int .i64 d, .slice C n2 k2, .slice D m2 j2]
       simp only [World.size_alloc] at nb_
       have bb_7 := Lib.hid nb_; clear nb_
       obtain ⟨o_, ho_⟩ : ∃ o, o = ((.cells #[.int .i64 p1, .int .i64 p2, .int .i64 p3, .int .i64 p4] 28) : Obj) := ⟨_, rfl⟩
       replace bel_1 := bA bel_1 o_
       replace ra_2 := rA ra_2 o_
       replace rb_3 := rA rb_3 o_
       replace rc_4 := rA rc_4 o_
       replace rd_5 := rA rd_5 o_
       replace ba_6 := kA ba_6 o_
       replace bb_7 := kA bb_7 o_
       subst ho_
       have nb_ := Blk.new ((w.alloc (.cells #[.int .i64 c, .slice A n k, .slice B m j] 24)).alloc (.cells #[.int .i64 d, .slice C n2 k2, .slice D m2 j2] 24)) 28 #[.int .i64 p1, .int .i64 p2, .int .i64 p3, .int .i64 p4]
       simp only [World.size_alloc] at nb_
       have bp_8 := Lib.hid nb_; clear nb_
       obtain ⟨z_9, z_10, z_11⟩ := at3 ba_6
       obtain ⟨z_12, z_13, z_14⟩ := at3 bb_7
       obtain ⟨z_15, z_16, z_17, z_18⟩ := at4 bp_8
       have hc := pairOf_yes c A B n k m j ws ts d C D n2 k2 m2 j2 ws2 ts2 p1 p2 p3 p4 _ ra_2.out rb_3.out hn hm rc_4.out rd_5.out hn2 hm2 hq
       have HC := Lib.hid hc; clear hc
       go_wp2_with fail
       refine HC.out.mono ?_
       rintro e w_19 ⟨rfl, hb⟩
       clear HC
       clear z_9 z_10 z_11 z_12 z_13 z_14 z_15 z_16 z_17 z_18
       replace bel_1 := bB bel_1 hb
       replace ra_2 := rB ra_2 hb
       replace rb_3 := rB rb_3 hb
       replace rc_4 := rB rc_4 hb
       replace rd_5 := rB rd_5 hb
       replace ba_6 := kB ba_6 hb
       replace bb_7 := kB bb_7 hb
       replace bp_8 := kB bp_8 hb
       clear hb
       obtain ⟨z_20, z_21, z_22⟩ := at3 ba_6
       obtain ⟨z_23, z_24, z_25⟩ := at3 bb_7
       obtain ⟨z_26, z_27, z_28, z_29⟩ := at4 bp_8
       clear z_20 z_21 z_22 z_23 z_24 z_25 z_26 z_27 z_28 z_29
       obtain ⟨o_, ho_⟩ : ∃ o, o = ((.cells #[.int .i64 c, .slice A n k, .slice B m j, .int .i64 d, .slice C n2 k2, .slice D m2 j2, .int .i64 p1, .int .i64 p2, .int .i64 p3, .int .i64 p4] 101) : Obj) := ⟨_, rfl⟩
       replace bel_1 := bA bel_1 o_
       replace ra_2 := rA ra_2 o_
       replace rb_3 := rA rb_3 o_
       replace rc_4 := rA rc_4 o_
       replace rd_5 := rA rd_5 o_
       replace ba_6 := kA ba_6 o_
       replace bb_7 := kA bb_7 o_
       replace bp_8 := kA bp_8 o_
       subst ho_
       have bq_30 := Lib.hid (Blk.new w_19 101 #[.int .i64 c, .slice A n k, .slice B m j, .int .i64 d, .slice C n2 k2, .slice D m2 j2, .int .i64 p1, .int .i64 p2, .int .i64 p3, .int .i64 p4])
       obtain ⟨z_31, z_32, z_33⟩ := at3 ba_6
       obtain ⟨z_34, z_35, z_36⟩ := at3 bb_7
       obtain ⟨z_37, z_38, z_39, z_40⟩ := at4 bp_8
       obtain ⟨z_41, z_42, z_43, z_44, z_45, z_46, z_47, z_48, z_49, z_50⟩ := at10 bq_30
       have hc := meets_q c A B n k m j ws ts d C D n2 k2 m2 j2 ws2 ts2 p1 p2 p3 p4 _ ra_2.out rb_3.out hn hm rc_4.out rd_5.out hn2 hm2 hq
       rw [EM.out] at hc
       try dsimp only at hc
       have HC := Lib.hid hc; clear hc
       go_wp2_with fail
       refine HC.out.mono ?_
       rintro e w_51 ⟨rfl, hb⟩
       clear HC
       clear z_31 z_32 z_33 z_34 z_35 z_36 z_37 z_38 z_39 z_40 z_41 z_42 z_43 z_44 z_45 z_46 z_47 z_48 z_49 z_50
       replace bel_1 := bB bel_1 hb
       replace ra_2 := rB ra_2 hb
       replace rb_3 := rB rb_3 hb
       replace rc_4 := rB rc_4 hb
       replace rd_5 := rB rd_5 hb
       replace ba_6 := kB ba_6 hb
       replace bb_7 := kB bb_7 hb
       replace bp_8 := kB bp_8 hb
       replace bq_30 := kB bq_30 hb
       clear hb
       obtain ⟨z_52, z_53, z_54⟩ := at3 ba_6
       obtain ⟨z_55, z_56, z_57⟩ := at3 bb_7
       obtain ⟨z_58, z_59, z_60, z_61⟩ := at4 bp_8
       obtain ⟨z_62, z_63, z_64, z_65, z_66, z_67, z_68, z_69, z_70, z_71⟩ := at10 bq_30
       clear hq
       go_wp2_with fail
       clear z_52 z_53 z_54 z_55 z_56 z_57 z_58 z_59 z_60 z_61 z_62 z_63 z_64 z_65 z_66 z_67 z_68 z_69 z_70 z_71
       replace bel_1 := bD bel_1
       replace ra_2 := rD ra_2
       replace rb_3 := rD rb_3
       replace rc_4 := rD rc_4
       replace rd_5 := rD rd_5
       replace ba_6 := kD ba_6
       replace bb_7 := kD bb_7
       replace bp_8 := kD bp_8
       replace bq_30 := kD bq_30
       refine wp_region_held_drew (S := (fun W' => Blk W' (w_19.heap.size) 101 #[.int .i64 c, .slice A n k, .slice B m j, .int .i64 d, .slice C n2 k2, .slice D m2 j2, .int .i64 p1, .int .i64 p2, .int .i64 p3, .int .i64 p4] ∧ Blk W' (w.heap.size + 1 + 1) 28 #[.int .i64 p1, .int .i64 p2, .int .i64 p3, .int .i64 p4])) (by kernel_rfl) ⟨bq_30.out, bp_8.out⟩ (fun _ => ?_)
       obtain ⟨w716, hw717⟩ : ∃ w', w' = (w_51.drew) := ⟨_, rfl⟩
       rw [← hw717] at bel_1 ra_2 rb_3 rc_4 rd_5 ba_6 bb_7 bp_8 bq_30
       rw [← hw717]
       clear hw717
       refine' tkH 0 ⟨bq_30.out, bp_8.out⟩ ?hyR718 ?_
       case hyR718 => (rintro W' ⟨hS0, hS1⟩; have hc0 := Blk.nth hS0 0; have hc1 := Blk.nth hS0 1; have hc2 := Blk.nth hS0 2; have hc3 := Blk.nth hS0 3; have hc4 := Blk.nth hS0 4; have hc5 := Blk.nth hS0 5; have hc6 := Blk.nth hS0 6; have hc7 := Blk.nth hS0 7; have hc8 := Blk.nth hS0 8; have hc9 := Blk.nth hS0 9; clear hS0 hS1; go_simp; try with_reducible rfl)
       refine' tkH 2 ⟨bq_30.out, bp_8.out⟩ ?hyR719 ?_
       case hyR719 => (rintro _ -; go_simp; try with_reducible rfl)
       refine' tkH 3 ⟨bq_30.out, bp_8.out⟩ ?hyR720 ?_
       case hyR720 => (rintro _ -; go_simp; try with_reducible rfl)
       refine' tkH 4 ⟨bq_30.out, bp_8.out⟩ ?hyR721 ?_
       case hyR721 => (rintro W' ⟨hS0, hS1⟩; have hc0 := Blk.nth hS1 0; clear hS0 hS1; go_simp; try with_reducible rfl)
       try simp only [Act.put, List.setIfInBounds_toArray, List.set_cons_zero, List.set_cons_succ]
       refine' tkH 5 ⟨bq_30.out, bp_8.out⟩ ?hyR722 ?_
       case hyR722 => (rintro _ -; go_simp; try with_reducible rfl)
       refine' tkH 6 ⟨bq_30.out, bp_8.out⟩ ?hyR723 ?_
       case hyR723 => (rintro _ -; go_simp; try with_reducible rfl)
       refine' tkH 7 ⟨bq_30.out, bp_8.out⟩ ?hyR724 ?_
       case hyR724 => (rintro W' ⟨hS0, hS1⟩; have hc0 := Blk.nth hS1 1; clear hS0 hS1; go_simp; try with_reducible rfl)
       try simp only [Act.put, List.setIfInBounds_toArray, List.set_cons_zero, List.set_cons_succ]
       refine wpAnyH_ready (rs := [1]) (by kernel_rfl) (by simp) ?_
       refine rdH rfl (fun K hK => ?_) ?_
       · -- 1: call
        go_simp
        go_at_call 81
        refine (ways_q c A B n k m j ws ts d C D n2 k2 m2 j2 ws2 ts2 p1 p2 p3 p4 _ ra_2.out rb_3.out hn hm rc_4.out rd_5.out hn2 hm2 HQ1.out).mono ?_
        rintro e w725 ⟨Ar, nr, kr, rfl, hrl, hb726⟩
        dsimp only
        replace bel_1 := bB bel_1 hb726
        replace ra_2 := rB ra_2 hb726
        replace rb_3 := rB rb_3 hb726
        replace rc_4 := rB rc_4 hb726
        replace rd_5 := rB rd_5 hb726
        replace ba_6 := kB ba_6 hb726
        replace bb_7 := kB bb_7 hb726
        replace bp_8 := kB bp_8 hb726
        replace bq_30 := kB bq_30 hb726
        have rl_727 := Lib.hid (hrl)
        refine hK.out _ _ ⟨bq_30.out, bp_8.out⟩ (fun _ => ?_); clear hK K
        try simp only [Act.put, List.setIfInBounds_toArray, List.set_cons_zero, List.set_cons_succ]
        refine wpAnyH_ready (rs := [8]) (by kernel_rfl) (by simp) ?_
        refine rdH rfl (fun K hK => ?_) ?_
        · -- 8: call
         have hl_ : nr ≤ maxLen := by have h1 := (rl_727.out).len; have h2 := HL1.out; unfold maxLen; omega
         go_simp
         go_at_call 92
         refine (Least_is _ _ _  Ar nr kr _ _ rl_727.out hl_ _ _ _ HE1.out).mono ?_
         rintro e w728 ⟨rfl, hb729⟩
         dsimp only
         replace bel_1 := bB bel_1 hb729
         replace ra_2 := rB ra_2 hb729
         replace rb_3 := rB rb_3 hb729
         replace rc_4 := rB rc_4 hb729
         replace rd_5 := rB rd_5 hb729
         replace ba_6 := kB ba_6 hb729
         replace bb_7 := kB bb_7 hb729
         replace bp_8 := kB bp_8 hb729
         replace bq_30 := kB bq_30 hb729
         replace rl_727 := rB rl_727 hb729
         refine hK.out _ _ ⟨bq_30.out, bp_8.out⟩ (fun _ => ?_); clear hK K
         try simp only [Act.put, List.setIfInBounds_toArray, List.set_cons_zero, List.set_cons_succ]
         refine' tkH 9 ⟨bq_30.out, bp_8.out⟩ ?hyR730 ?_
         case hyR730 => (rintro _ -; go_simp; try with_reducible rfl)
         refine' tkH 10 ⟨bq_30.out, bp_8.out⟩ ?hyR731 ?_
         case hyR731 => (rintro _ -; go_simp; try with_reducible rfl)
         refine' tkH 11 ⟨bq_30.out, bp_8.out⟩ ?hyR732 ?_
         case hyR732 => (rintro _ -; go_simp; try with_reducible rfl)
         refine' tkH 12 ⟨bq_30.out, bp_8.out⟩ ?hyR733 ?_
         case hyR733 => (rintro _ -; go_simp; try with_reducible rfl)
         try simp only [Act.put, List.setIfInBounds_toArray, List.set_cons_zero, List.set_cons_succ]
         refine' tkH 13 ⟨bq_30.out, bp_8.out⟩ ?hyR734 ?_
         case hyR734 => (rintro _ -; go_simp; try with_reducible rfl)
         refine' tkH 14 ⟨bq_30.out, bp_8.out⟩ ?hyR735 ?_
         case hyR735 => (rintro _ -; go_simp; try with_reducible rfl)
         refine' tkH 15 ⟨bq_30.out, bp_8.out⟩ ?hyR736 ?_
         case hyR736 => (rintro _ -; go_simp; try with_reducible rfl)
         try simp only [Act.put, List.setIfInBounds_toArray, List.set_cons_zero, List.set_cons_succ]
         refine wpAnyH_done (by kernel_rfl) ?_ _
         obtain ⟨z_1072, z_1073, z_1074⟩ := at3 ba_6
         obtain ⟨z_1075, z_1076, z_1077⟩ := at3 bb_7
         obtain ⟨z_1078, z_1079, z_1080, z_1081⟩ := at4 bp_8
         obtain ⟨z_1082, z_1083, z_1084, z_1085, z_1086, z_1087, z_1088, z_1089, z_1090, z_1091⟩ := at10 bq_30
         go_wp2_with fail
         clear z_1072 z_1073 z_1074 z_1075 z_1076 z_1077 z_1078 z_1079 z_1080 z_1081 z_1082 z_1083 z_1084 z_1085 z_1086 z_1087 z_1088 z_1089 z_1090 z_1091
         replace bel_1 := bD bel_1
         replace ra_2 := rD ra_2
         replace rb_3 := rD rb_3
         replace rc_4 := rD rc_4
         replace rd_5 := rD rd_5
         replace ba_6 := kD ba_6
         replace bb_7 := kD bb_7
         replace bp_8 := kD bp_8
         replace bq_30 := kD bq_30
         replace rl_727 := rD rl_727
         refine wp_region_held_drew (S := (fun W' => Blk W' (w_19.heap.size) 101 #[.int .i64 c, .slice A n k, .slice B m j, .int .i64 d, .slice C n2 k2, .slice D m2 j2, .int .i64 p1, .int .i64 p2, .int .i64 p3, .int .i64 p4] ∧ Blk W' (w.heap.size + 1 + 1) 28 #[.int .i64 p1, .int .i64 p2, .int .i64 p3, .int .i64 p4])) (by kernel_rfl) ⟨bq_30.out, bp_8.out⟩ (fun _ => ?_)
         obtain ⟨w737, hw738⟩ : ∃ w', w' = (w728.drew) := ⟨_, rfl⟩
         rw [← hw738] at bel_1 ra_2 rb_3 rc_4 rd_5 ba_6 bb_7 bp_8 bq_30 rl_727
         rw [← hw738]
         clear hw738
         refine' tkH 0 ⟨bq_30.out, bp_8.out⟩ ?hyR739 ?_
         case hyR739 => (rintro W' ⟨hS0, hS1⟩; have hc0 := Blk.nth hS0 0; have hc1 := Blk.nth hS0 1; have hc2 := Blk.nth hS0 2; have hc3 := Blk.nth hS0 3; have hc4 := Blk.nth hS0 4; have hc5 := Blk.nth hS0 5; have hc6 := Blk.nth hS0 6; have hc7 := Blk.nth hS0 7; have hc8 := Blk.nth hS0 8; have hc9 := Blk.nth hS0 9; clear hS0 hS1; go_simp; try with_reducible rfl)
         refine' tkH 2 ⟨bq_30.out, bp_8.out⟩ ?hyR740 ?_
         case hyR740 => (rintro _ -; go_simp; try with_reducible rfl)
         refine' tkH 3 ⟨bq_30.out, bp_8.out⟩ ?hyR741 ?_
         case hyR741 => (rintro _ -; go_simp; try with_reducible rfl)
         refine' tkH 4 ⟨bq_30.out, bp_8.out⟩ ?hyR742 ?_
         case hyR742 => (rintro W' ⟨hS0, hS1⟩; have hc0 := Blk.nth hS1 0; clear hS0 hS1; go_simp; try with_reducible rfl)
         try simp only [Act.put, List.setIfInBounds_toArray, List.set_cons_zero, List.set_cons_succ]
         refine' tkH 5 ⟨bq_30.out, bp_8.out⟩ ?hyR743 ?_
         case hyR743 => (rintro _ -; go_simp; try with_reducible rfl)
         refine' tkH 6 ⟨bq_30.out, bp_8.out⟩ ?hyR744 ?_
         case hyR744 => (rintro _ -; go_simp; try with_reducible rfl)
         refine' tkH 7 ⟨bq_30.out, bp_8.out⟩ ?hyR745 ?_
         case hyR745 => (rintro W' ⟨hS0, hS1⟩; have hc0 := Blk.nth hS1 1; clear hS0 hS1; go_simp; try with_reducible rfl)
         try simp only [Act.put, List.setIfInBounds_toArray, List.set_cons_zero, List.set_cons_succ]
         refine wpAnyH_ready (rs := [1]) (by kernel_rfl) (by simp) ?_
         refine rdH rfl (fun K hK => ?_) ?_
         · -- 1: call
          go_simp
          go_at_call 81
          refine (ways_q c A B n k m j ws ts d C D n2 k2 m2 j2 ws2 ts2 p1 p2 p3 p4 _ ra_2.out rb_3.out hn hm rc_4.out rd_5.out hn2 hm2 HQ1.out).mono ?_
          rintro e w746 ⟨Ar2, nr2, kr2, rfl, hrl, hb747⟩
          dsimp only
          replace bel_1 := bB bel_1 hb747
          replace ra_2 := rB ra_2 hb747
          replace rb_3 := rB rb_3 hb747
          replace rc_4 := rB rc_4 hb747
          replace rd_5 := rB rd_5 hb747
          replace ba_6 := kB ba_6 hb747
          replace bb_7 := kB bb_7 hb747
          replace bp_8 := kB bp_8 hb747
          replace bq_30 := kB bq_30 hb747
          replace rl_727 := rB rl_727 hb747
          have rl2_748 := Lib.hid (hrl)
          refine hK.out _ _ ⟨bq_30.out, bp_8.out⟩ (fun _ => ?_); clear hK K
          try simp only [Act.put, List.setIfInBounds_toArray, List.set_cons_zero, List.set_cons_succ]
          refine wpAnyH_ready (rs := [8]) (by kernel_rfl) (by simp) ?_
          refine rdH rfl (fun K hK => ?_) ?_
          · -- 8: call
           have hl_ : nr2 ≤ maxLen := by have h1 := (rl2_748.out).len; have h2 := HL1.out; unfold maxLen; omega
           go_simp
           go_at_call 93
           refine (Greatest_is _ _ _  Ar2 nr2 kr2 _ _ rl2_748.out hl_ _ _ _ HE2.out).mono ?_
           rintro e w749 ⟨rfl, hb750⟩
           dsimp only
           replace bel_1 := bB bel_1 hb750
           replace ra_2 := rB ra_2 hb750
           replace rb_3 := rB rb_3 hb750
           replace rc_4 := rB rc_4 hb750
           replace rd_5 := rB rd_5 hb750
           replace ba_6 := kB ba_6 hb750
           replace bb_7 := kB bb_7 hb750
           replace bp_8 := kB bp_8 hb750
           replace bq_30 := kB bq_30 hb750
           replace rl_727 := rB rl_727 hb750
           replace rl2_748 := rB rl2_748 hb750
           refine hK.out _ _ ⟨bq_30.out, bp_8.out⟩ (fun _ => ?_); clear hK K
           try simp only [Act.put, List.setIfInBounds_toArray, List.set_cons_zero, List.set_cons_succ]
           refine' tkH 9 ⟨bq_30.out, bp_8.out⟩ ?hyR751 ?_
           case hyR751 => (rintro _ -; go_simp; try with_reducible rfl)
           refine' tkH 10 ⟨bq_30.out, bp_8.out⟩ ?hyR752 ?_
           case hyR752 => (rintro _ -; go_simp; try with_reducible rfl)
           refine' tkH 11 ⟨bq_30.out, bp_8.out⟩ ?hyR753 ?_
           case hyR753 => (rintro _ -; go_simp; try with_reducible rfl)
           refine' tkH 12 ⟨bq_30.out, bp_8.out⟩ ?hyR754 ?_
           case hyR754 => (rintro _ -; go_simp; try with_reducible rfl)
           try simp only [Act.put, List.setIfInBounds_toArray, List.set_cons_zero, List.set_cons_succ]
           refine' tkH 13 ⟨bq_30.out, bp_8.out⟩ ?hyR755 ?_
           case hyR755 => (rintro _ -; go_simp; try with_reducible rfl)
           refine' tkH 14 ⟨bq_30.out, bp_8.out⟩ ?hyR756 ?_
           case hyR756 => (rintro _ -; go_simp; try with_reducible rfl)
           refine' tkH 15 ⟨bq_30.out, bp_8.out⟩ ?hyR757 ?_
           case hyR757 => (rintro _ -; go_simp; try with_reducible rfl)
           try simp only [Act.put, List.setIfInBounds_toArray, List.set_cons_zero, List.set_cons_succ]
           refine wpAnyH_done (by kernel_rfl) ?_ _
           go_wp2
           go_ret3
           exact ⟨rfl, bel_1.out⟩
          exact AllReadyH.nil
         exact AllReadyH.nil
        exact AllReadyH.nil
       exact AllReadyH.nil
     · simp only [Bool.false_eq_true, if_false, if_true]
       have HE1 := Lib.hid hE1
       have HE2 := Lib.hid hE2
       clear hE1 hE2 hT1 hT2
       go_enter Tryz.func45, Tryz.ntmps45
       have bel_1 := Lib.hid (show Below w.heap.size w w from Below.refl _ w)
       have ra_2 := Lib.hid (h1)
       clear h1
       have rb_3 := Lib.hid (h2)
       clear h2
       have rc_4 := Lib.hid (h3)
       clear h3
       have rd_5 := Lib.hid (h4)
       clear h4
       obtain ⟨o_, ho_⟩ : ∃ o, o = ((.cells #[.int .i64 c, .slice A n k, .slice B m j] 24) : Obj) := ⟨_, rfl⟩
       replace bel_1 := bA bel_1 o_
       replace ra_2 := rA ra_2 o_
       replace rb_3 := rA rb_3 o_
       replace rc_4 := rA rc_4 o_
       replace rd_5 := rA rd_5 o_
       subst ho_
       have ba_6 := Lib.hid (Blk.new w 24 #[.int .i64 c, .slice A n k, .slice B m j])
       obtain ⟨o_, ho_⟩ : ∃ o, o = ((.cells #[.int .i64 d, .slice C n2 k2, .slice D m2 j2] 24) : Obj) := ⟨_, rfl⟩
       replace bel_1 := bA bel_1 o_
       replace ra_2 := rA ra_2 o_
       replace rb_3 := rA rb_3 o_
       replace rc_4 := rA rc_4 o_
       replace rd_5 := rA rd_5 o_
       replace ba_6 := kA ba_6 o_
       subst ho_
       have nb_ := Blk.new (w.alloc (.cells #[.int .i64 c, .slice A n k, .slice B m j] 24)) 24 #[.int .i64 d, .slice C n2 k2, .slice D m2 j2]
       simp only [World.size_alloc] at nb_
       have bb_7 := Lib.hid nb_; clear nb_
       obtain ⟨o_, ho_⟩ : ∃ o, o = ((.cells #[.int .i64 p1, .int .i64 p2, .int .i64 p3, .int .i64 p4] 28) : Obj) := ⟨_, rfl⟩
       replace bel_1 := bA bel_1 o_
       replace ra_2 := rA ra_2 o_
       replace rb_3 := rA rb_3 o_
       replace rc_4 := rA rc_4 o_
       replace rd_5 := rA rd_5 o_
       replace ba_6 := kA ba_6 o_
       replace bb_7 := kA bb_7 o_
       subst ho_
       have nb_ := Blk.new ((w.alloc (.cells #[.int .i64 c, .slice A n k, .slice B m j] 24)).alloc (.cells #[.int .i64 d, .slice C n2 k2, .slice D m2 j2] 24)) 28 #[.int .i64 p1, .int .i64 p2, .int .i64 p3, .int .i64 p4]
       simp only [World.size_alloc] at nb_
       have bp_8 := Lib.hid nb_; clear nb_
       obtain ⟨z_9, z_10, z_11⟩ := at3 ba_6
       obtain ⟨z_12, z_13, z_14⟩ := at3 bb_7
       obtain ⟨z_15, z_16, z_17, z_18⟩ := at4 bp_8
       have hc := pairOf_yes c A B n k m j ws ts d C D n2 k2 m2 j2 ws2 ts2 p1 p2 p3 p4 _ ra_2.out rb_3.out hn hm rc_4.out rd_5.out hn2 hm2 hq
       have HC := Lib.hid hc; clear hc
       go_wp2_with fail
       refine HC.out.mono ?_
       rintro e w_19 ⟨rfl, hb⟩
       clear HC
       clear z_9 z_10 z_11 z_12 z_13 z_14 z_15 z_16 z_17 z_18
       replace bel_1 := bB bel_1 hb
       replace ra_2 := rB ra_2 hb
       replace rb_3 := rB rb_3 hb
       replace rc_4 := rB rc_4 hb
       replace rd_5 := rB rd_5 hb
       replace ba_6 := kB ba_6 hb
       replace bb_7 := kB bb_7 hb
       replace bp_8 := kB bp_8 hb
       clear hb
       obtain ⟨z_20, z_21, z_22⟩ := at3 ba_6
       obtain ⟨z_23, z_24, z_25⟩ := at3 bb_7
       obtain ⟨z_26, z_27, z_28, z_29⟩ := at4 bp_8
       clear z_20 z_21 z_22 z_23 z_24 z_25 z_26 z_27 z_28 z_29
       obtain ⟨o_, ho_⟩ : ∃ o, o = ((.cells #[.int .i64 c, .slice A n k, .slice B m j, .int .i64 d, .slice C n2 k2, .slice D m2 j2, .int .i64 p1, .int .i64 p2, .int .i64 p3, .int .i64 p4] 101) : Obj) := ⟨_, rfl⟩
       replace bel_1 := bA bel_1 o_
       replace ra_2 := rA ra_2 o_
       replace rb_3 := rA rb_3 o_
       replace rc_4 := rA rc_4 o_
       replace rd_5 := rA rd_5 o_
       replace ba_6 := kA ba_6 o_
       replace bb_7 := kA bb_7 o_
       replace bp_8 := kA bp_8 o_
       subst ho_
       have bq_30 := Lib.hid (Blk.new w_19 101 #[.int .i64 c, .slice A n k, .slice B m j, .int .i64 d, .slice C n2 k2, .slice D m2 j2, .int .i64 p1, .int .i64 p2, .int .i64 p3, .int .i64 p4])
       obtain ⟨z_31, z_32, z_33⟩ := at3 ba_6
       obtain ⟨z_34, z_35, z_36⟩ := at3 bb_7
       obtain ⟨z_37, z_38, z_39, z_40⟩ := at4 bp_8
       obtain ⟨z_41, z_42, z_43, z_44, z_45, z_46, z_47, z_48, z_49, z_50⟩ := at10 bq_30
       have hc := meets_q c A B n k m j ws ts d C D n2 k2 m2 j2 ws2 ts2 p1 p2 p3 p4 _ ra_2.out rb_3.out hn hm rc_4.out rd_5.out hn2 hm2 hq
       rw [EM.out] at hc
       try dsimp only at hc
       have HC := Lib.hid hc; clear hc
       go_wp2_with fail
       refine HC.out.mono ?_
       rintro e w_51 ⟨rfl, hb⟩
       clear HC
       clear z_31 z_32 z_33 z_34 z_35 z_36 z_37 z_38 z_39 z_40 z_41 z_42 z_43 z_44 z_45 z_46 z_47 z_48 z_49 z_50
       replace bel_1 := bB bel_1 hb
       replace ra_2 := rB ra_2 hb
       replace rb_3 := rB rb_3 hb
       replace rc_4 := rB rc_4 hb
       replace rd_5 := rB rd_5 hb
       replace ba_6 := kB ba_6 hb
       replace bb_7 := kB bb_7 hb
       replace bp_8 := kB bp_8 hb
       replace bq_30 := kB bq_30 hb
       clear hb
       obtain ⟨z_52, z_53, z_54⟩ := at3 ba_6
       obtain ⟨z_55, z_56, z_57⟩ := at3 bb_7
       obtain ⟨z_58, z_59, z_60, z_61⟩ := at4 bp_8
       obtain ⟨z_62, z_63, z_64, z_65, z_66, z_67, z_68, z_69, z_70, z_71⟩ := at10 bq_30
       clear hq
       go_wp2_with fail
       clear z_52 z_53 z_54 z_55 z_56 z_57 z_58 z_59 z_60 z_61 z_62 z_63 z_64 z_65 z_66 z_67 z_68 z_69 z_70 z_71
       replace bel_1 := bD bel_1
       replace ra_2 := rD ra_2
       replace rb_3 := rD rb_3
       replace rc_4 := rD rc_4
       replace rd_5 := rD rd_5
       replace ba_6 := kD ba_6
       replace bb_7 := kD bb_7
       replace bp_8 := kD bp_8
       replace bq_30 := kD bq_30
       refine wp_region_held_drew (S := (fun W' => Blk W' (w_19.heap.size) 101 #[.int .i64 c, .slice A n k, .slice B m j, .int .i64 d, .slice C n2 k2, .slice D m2 j2, .int .i64 p1, .int .i64 p2, .int .i64 p3, .int .i64 p4] ∧ Blk W' (w.heap.size + 1 + 1) 28 #[.int .i64 p1, .int .i64 p2, .int .i64 p3, .int .i64 p4])) (by kernel_rfl) ⟨bq_30.out, bp_8.out⟩ (fun _ => ?_)
       obtain ⟨w758, hw759⟩ : ∃ w', w' = (w_51.drew) := ⟨_, rfl⟩
       rw [← hw759] at bel_1 ra_2 rb_3 rc_4 rd_5 ba_6 bb_7 bp_8 bq_30
       rw [← hw759]
       clear hw759
       refine' tkH 0 ⟨bq_30.out, bp_8.out⟩ ?hyR760 ?_
       case hyR760 => (rintro W' ⟨hS0, hS1⟩; have hc0 := Blk.nth hS0 0; have hc1 := Blk.nth hS0 1; have hc2 := Blk.nth hS0 2; have hc3 := Blk.nth hS0 3; have hc4 := Blk.nth hS0 4; have hc5 := Blk.nth hS0 5; have hc6 := Blk.nth hS0 6; have hc7 := Blk.nth hS0 7; have hc8 := Blk.nth hS0 8; have hc9 := Blk.nth hS0 9; clear hS0 hS1; go_simp; try with_reducible rfl)
       refine' tkH 2 ⟨bq_30.out, bp_8.out⟩ ?hyR761 ?_
       case hyR761 => (rintro _ -; go_simp; try with_reducible rfl)
       refine' tkH 3 ⟨bq_30.out, bp_8.out⟩ ?hyR762 ?_
       case hyR762 => (rintro _ -; go_simp; try with_reducible rfl)
       refine' tkH 4 ⟨bq_30.out, bp_8.out⟩ ?hyR763 ?_
       case hyR763 => (rintro W' ⟨hS0, hS1⟩; have hc0 := Blk.nth hS1 0; clear hS0 hS1; go_simp; try with_reducible rfl)
       try simp only [Act.put, List.setIfInBounds_toArray, List.set_cons_zero, List.set_cons_succ]
       refine' tkH 5 ⟨bq_30.out, bp_8.out⟩ ?hyR764 ?_
       case hyR764 => (rintro _ -; go_simp; try with_reducible rfl)
       refine' tkH 6 ⟨bq_30.out, bp_8.out⟩ ?hyR765 ?_
       case hyR765 => (rintro _ -; go_simp; try with_reducible rfl)
       refine' tkH 7 ⟨bq_30.out, bp_8.out⟩ ?hyR766 ?_
       case hyR766 => (rintro W' ⟨hS0, hS1⟩; have hc0 := Blk.nth hS1 1; clear hS0 hS1; go_simp; try with_reducible rfl)
       try simp only [Act.put, List.setIfInBounds_toArray, List.set_cons_zero, List.set_cons_succ]
       refine wpAnyH_ready (rs := [1]) (by kernel_rfl) (by simp) ?_
       refine rdH rfl (fun K hK => ?_) ?_
       · -- 1: call
        go_simp
        go_at_call 81
        refine (ways_q c A B n k m j ws ts d C D n2 k2 m2 j2 ws2 ts2 p1 p2 p3 p4 _ ra_2.out rb_3.out hn hm rc_4.out rd_5.out hn2 hm2 HQ1.out).mono ?_
        rintro e w767 ⟨Ar, nr, kr, rfl, hrl, hb768⟩
        dsimp only
        replace bel_1 := bB bel_1 hb768
        replace ra_2 := rB ra_2 hb768
        replace rb_3 := rB rb_3 hb768
        replace rc_4 := rB rc_4 hb768
        replace rd_5 := rB rd_5 hb768
        replace ba_6 := kB ba_6 hb768
        replace bb_7 := kB bb_7 hb768
        replace bp_8 := kB bp_8 hb768
        replace bq_30 := kB bq_30 hb768
        have rl_769 := Lib.hid (hrl)
        refine hK.out _ _ ⟨bq_30.out, bp_8.out⟩ (fun _ => ?_); clear hK K
        try simp only [Act.put, List.setIfInBounds_toArray, List.set_cons_zero, List.set_cons_succ]
        refine wpAnyH_ready (rs := [8]) (by kernel_rfl) (by simp) ?_
        refine rdH rfl (fun K hK => ?_) ?_
        · -- 8: call
         have hl_ : nr ≤ maxLen := by have h1 := (rl_769.out).len; have h2 := HL1.out; unfold maxLen; omega
         go_simp
         go_at_call 92
         refine (Least_is _ _ _  Ar nr kr _ _ rl_769.out hl_ _ _ _ HE1.out).mono ?_
         rintro e w770 ⟨rfl, hb771⟩
         dsimp only
         replace bel_1 := bB bel_1 hb771
         replace ra_2 := rB ra_2 hb771
         replace rb_3 := rB rb_3 hb771
         replace rc_4 := rB rc_4 hb771
         replace rd_5 := rB rd_5 hb771
         replace ba_6 := kB ba_6 hb771
         replace bb_7 := kB bb_7 hb771
         replace bp_8 := kB bp_8 hb771
         replace bq_30 := kB bq_30 hb771
         replace rl_769 := rB rl_769 hb771
         refine hK.out _ _ ⟨bq_30.out, bp_8.out⟩ (fun _ => ?_); clear hK K
         try simp only [Act.put, List.setIfInBounds_toArray, List.set_cons_zero, List.set_cons_succ]
         refine' tkH 9 ⟨bq_30.out, bp_8.out⟩ ?hyR772 ?_
         case hyR772 => (rintro _ -; go_simp; try with_reducible rfl)
         refine' tkH 10 ⟨bq_30.out, bp_8.out⟩ ?hyR773 ?_
         case hyR773 => (rintro _ -; go_simp; try with_reducible rfl)
         refine' tkH 11 ⟨bq_30.out, bp_8.out⟩ ?hyR774 ?_
         case hyR774 => (rintro _ -; go_simp; try with_reducible rfl)
         refine' tkH 12 ⟨bq_30.out, bp_8.out⟩ ?hyR775 ?_
         case hyR775 => (rintro _ -; go_simp; try with_reducible rfl)
         try simp only [Act.put, List.setIfInBounds_toArray, List.set_cons_zero, List.set_cons_succ]
         refine' tkH 13 ⟨bq_30.out, bp_8.out⟩ ?hyR776 ?_
         case hyR776 => (rintro _ -; go_simp; try with_reducible rfl)
         refine' tkH 14 ⟨bq_30.out, bp_8.out⟩ ?hyR777 ?_
         case hyR777 => (rintro _ -; go_simp; try with_reducible rfl)
         refine' tkH 15 ⟨bq_30.out, bp_8.out⟩ ?hyR778 ?_
         case hyR778 => (rintro _ -; go_simp; try with_reducible rfl)
         try simp only [Act.put, List.setIfInBounds_toArray, List.set_cons_zero, List.set_cons_succ]
         refine wpAnyH_done (by kernel_rfl) ?_ _
         obtain ⟨z_1072, z_1073, z_1074⟩ := at3 ba_6
         obtain ⟨z_1075, z_1076, z_1077⟩ := at3 bb_7
         obtain ⟨z_1078, z_1079, z_1080, z_1081⟩ := at4 bp_8
         obtain ⟨z_1082, z_1083, z_1084, z_1085, z_1086, z_1087, z_1088, z_1089, z_1090, z_1091⟩ := at10 bq_30
         go_wp2_with fail
         clear z_1072 z_1073 z_1074 z_1075 z_1076 z_1077 z_1078 z_1079 z_1080 z_1081 z_1082 z_1083 z_1084 z_1085 z_1086 z_1087 z_1088 z_1089 z_1090 z_1091
         replace bel_1 := bD bel_1
         replace ra_2 := rD ra_2
         replace rb_3 := rD rb_3
         replace rc_4 := rD rc_4
         replace rd_5 := rD rd_5
         replace ba_6 := kD ba_6
         replace bb_7 := kD bb_7
         replace bp_8 := kD bp_8
         replace bq_30 := kD bq_30
         replace rl_769 := rD rl_769
         refine wp_region_held_drew (S := (fun W' => Blk W' (w_19.heap.size) 101 #[.int .i64 c, .slice A n k, .slice B m j, .int .i64 d, .slice C n2 k2, .slice D m2 j2, .int .i64 p1, .int .i64 p2, .int .i64 p3, .int .i64 p4] ∧ Blk W' (w.heap.size + 1 + 1) 28 #[.int .i64 p1, .int .i64 p2, .int .i64 p3, .int .i64 p4])) (by kernel_rfl) ⟨bq_30.out, bp_8.out⟩ (fun _ => ?_)
         obtain ⟨w779, hw780⟩ : ∃ w', w' = (w770.drew) := ⟨_, rfl⟩
         rw [← hw780] at bel_1 ra_2 rb_3 rc_4 rd_5 ba_6 bb_7 bp_8 bq_30 rl_769
         rw [← hw780]
         clear hw780
         refine' tkH 0 ⟨bq_30.out, bp_8.out⟩ ?hyR781 ?_
         case hyR781 => (rintro W' ⟨hS0, hS1⟩; have hc0 := Blk.nth hS0 0; have hc1 := Blk.nth hS0 1; have hc2 := Blk.nth hS0 2; have hc3 := Blk.nth hS0 3; have hc4 := Blk.nth hS0 4; have hc5 := Blk.nth hS0 5; have hc6 := Blk.nth hS0 6; have hc7 := Blk.nth hS0 7; have hc8 := Blk.nth hS0 8; have hc9 := Blk.nth hS0 9; clear hS0 hS1; go_simp; try with_reducible rfl)
         refine' tkH 2 ⟨bq_30.out, bp_8.out⟩ ?hyR782 ?_
         case hyR782 => (rintro _ -; go_simp; try with_reducible rfl)
         refine' tkH 3 ⟨bq_30.out, bp_8.out⟩ ?hyR783 ?_
         case hyR783 => (rintro _ -; go_simp; try with_reducible rfl)
         refine' tkH 4 ⟨bq_30.out, bp_8.out⟩ ?hyR784 ?_
         case hyR784 => (rintro W' ⟨hS0, hS1⟩; have hc0 := Blk.nth hS1 0; clear hS0 hS1; go_simp; try with_reducible rfl)
         try simp only [Act.put, List.setIfInBounds_toArray, List.set_cons_zero, List.set_cons_succ]
         refine' tkH 5 ⟨bq_30.out, bp_8.out⟩ ?hyR785 ?_
         case hyR785 => (rintro _ -; go_simp; try with_reducible rfl)
         refine' tkH 6 ⟨bq_30.out, bp_8.out⟩ ?hyR786 ?_
         case hyR786 => (rintro _ -; go_simp; try with_reducible rfl)
         refine' tkH 7 ⟨bq_30.out, bp_8.out⟩ ?hyR787 ?_
         case hyR787 => (rintro W' ⟨hS0, hS1⟩; have hc0 := Blk.nth hS1 1; clear hS0 hS1; go_simp; try with_reducible rfl)
         try simp only [Act.put, List.setIfInBounds_toArray, List.set_cons_zero, List.set_cons_succ]
         refine wpAnyH_ready (rs := [1]) (by kernel_rfl) (by simp) ?_
         refine rdH rfl (fun K hK => ?_) ?_
         · -- 1: call
          go_simp
          go_at_call 81
          refine (ways_q c A B n k m j ws ts d C D n2 k2 m2 j2 ws2 ts2 p1 p2 p3 p4 _ ra_2.out rb_3.out hn hm rc_4.out rd_5.out hn2 hm2 HQ1.out).mono ?_
          rintro e w788 ⟨Ar2, nr2, kr2, rfl, hrl, hb789⟩
          dsimp only
          replace bel_1 := bB bel_1 hb789
          replace ra_2 := rB ra_2 hb789
          replace rb_3 := rB rb_3 hb789
          replace rc_4 := rB rc_4 hb789
          replace rd_5 := rB rd_5 hb789
          replace ba_6 := kB ba_6 hb789
          replace bb_7 := kB bb_7 hb789
          replace bp_8 := kB bp_8 hb789
          replace bq_30 := kB bq_30 hb789
          replace rl_769 := rB rl_769 hb789
          have rl2_790 := Lib.hid (hrl)
          refine hK.out _ _ ⟨bq_30.out, bp_8.out⟩ (fun _ => ?_); clear hK K
          try simp only [Act.put, List.setIfInBounds_toArray, List.set_cons_zero, List.set_cons_succ]
          refine wpAnyH_ready (rs := [8]) (by kernel_rfl) (by simp) ?_
          refine rdH rfl (fun K hK => ?_) ?_
          · -- 8: call
           have hl_ : nr2 ≤ maxLen := by have h1 := (rl2_790.out).len; have h2 := HL1.out; unfold maxLen; omega
           go_simp
           go_at_call 93
           refine (Greatest_is _ _ _  Ar2 nr2 kr2 _ _ rl2_790.out hl_ _ _ _ HE2.out).mono ?_
           rintro e w791 ⟨rfl, hb792⟩
           dsimp only
           replace bel_1 := bB bel_1 hb792
           replace ra_2 := rB ra_2 hb792
           replace rb_3 := rB rb_3 hb792
           replace rc_4 := rB rc_4 hb792
           replace rd_5 := rB rd_5 hb792
           replace ba_6 := kB ba_6 hb792
           replace bb_7 := kB bb_7 hb792
           replace bp_8 := kB bp_8 hb792
           replace bq_30 := kB bq_30 hb792
           replace rl_769 := rB rl_769 hb792
           replace rl2_790 := rB rl2_790 hb792
           refine hK.out _ _ ⟨bq_30.out, bp_8.out⟩ (fun _ => ?_); clear hK K
           try simp only [Act.put, List.setIfInBounds_toArray, List.set_cons_zero, List.set_cons_succ]
           refine' tkH 9 ⟨bq_30.out, bp_8.out⟩ ?hyR793 ?_
           case hyR793 => (rintro _ -; go_simp; try with_reducible rfl)
           refine' tkH 10 ⟨bq_30.out, bp_8.out⟩ ?hyR794 ?_
           case hyR794 => (rintro _ -; go_simp; try with_reducible rfl)
           refine' tkH 11 ⟨bq_30.out, bp_8.out⟩ ?hyR795 ?_
           case hyR795 => (rintro _ -; go_simp; try with_reducible rfl)
           refine' tkH 12 ⟨bq_30.out, bp_8.out⟩ ?hyR796 ?_
           case hyR796 => (rintro _ -; go_simp; try with_reducible rfl)
           try simp only [Act.put, List.setIfInBounds_toArray, List.set_cons_zero, List.set_cons_succ]
           refine' tkH 13 ⟨bq_30.out, bp_8.out⟩ ?hyR797 ?_
           case hyR797 => (rintro _ -; go_simp; try with_reducible rfl)
           refine' tkH 14 ⟨bq_30.out, bp_8.out⟩ ?hyR798 ?_
           case hyR798 => (rintro _ -; go_simp; try with_reducible rfl)
           refine' tkH 15 ⟨bq_30.out, bp_8.out⟩ ?hyR799 ?_
           case hyR799 => (rintro _ -; go_simp; try with_reducible rfl)
           try simp only [Act.put, List.setIfInBounds_toArray, List.set_cons_zero, List.set_cons_succ]
           refine wpAnyH_done (by kernel_rfl) ?_ _
           go_wp2
           go_ret3
           exact ⟨rfl, bel_1.out⟩
          exact AllReadyH.nil
         exact AllReadyH.nil
        exact AllReadyH.nil
       exact AllReadyH.nil
     · simp only [if_true]
       have HE1 := Lib.hid hE1
       have HE2 := Lib.hid hE2
       clear hE1 hE2 hT1 hT2
       go_enter Tryz.func45, Tryz.ntmps45
       have bel_1 := Lib.hid (show Below w.heap.size w w from Below.refl _ w)
       have ra_2 := Lib.hid (h1)
       clear h1
       have rb_3 := Lib.hid (h2)
       clear h2
       have rc_4 := Lib.hid (h3)
       clear h3
       have rd_5 := Lib.hid (h4)
       clear h4
       obtain ⟨o_, ho_⟩ : ∃ o, o = ((.cells #[.int .i64 c, .slice A n k, .slice B m j] 24) : Obj) := ⟨_, rfl⟩
       replace bel_1 := bA bel_1 o_
       replace ra_2 := rA ra_2 o_
       replace rb_3 := rA rb_3 o_
       replace rc_4 := rA rc_4 o_
       replace rd_5 := rA rd_5 o_
       subst ho_
       have ba_6 := Lib.hid (Blk.new w 24 #[.int .i64 c, .slice A n k, .slice B m j])
       obtain ⟨o_, ho_⟩ : ∃ o, o = ((.cells #[.int .i64 d, .slice C n2 k2, .slice D m2 j2] 24) : Obj) := ⟨_, rfl⟩
       replace bel_1 := bA bel_1 o_
       replace ra_2 := rA ra_2 o_
       replace rb_3 := rA rb_3 o_
       replace rc_4 := rA rc_4 o_
       replace rd_5 := rA rd_5 o_
       replace ba_6 := kA ba_6 o_
       subst ho_
       have nb_ := Blk.new (w.alloc (.cells #[.int .i64 c, .slice A n k, .slice B m j] 24)) 24 #[.int .i64 d, .slice C n2 k2, .slice D m2 j2]
       simp only [World.size_alloc] at nb_
       have bb_7 := Lib.hid nb_; clear nb_
       obtain ⟨o_, ho_⟩ : ∃ o, o = ((.cells #[.int .i64 p1, .int .i64 p2, .int .i64 p3, .int .i64 p4] 28) : Obj) := ⟨_, rfl⟩
       replace bel_1 := bA bel_1 o_
       replace ra_2 := rA ra_2 o_
       replace rb_3 := rA rb_3 o_
       replace rc_4 := rA rc_4 o_
       replace rd_5 := rA rd_5 o_
       replace ba_6 := kA ba_6 o_
       replace bb_7 := kA bb_7 o_
       subst ho_
       have nb_ := Blk.new ((w.alloc (.cells #[.int .i64 c, .slice A n k, .slice B m j] 24)).alloc (.cells #[.int .i64 d, .slice C n2 k2, .slice D m2 j2] 24)) 28 #[.int .i64 p1, .int .i64 p2, .int .i64 p3, .int .i64 p4]
       simp only [World.size_alloc] at nb_
       have bp_8 := Lib.hid nb_; clear nb_
       obtain ⟨z_9, z_10, z_11⟩ := at3 ba_6
       obtain ⟨z_12, z_13, z_14⟩ := at3 bb_7
       obtain ⟨z_15, z_16, z_17, z_18⟩ := at4 bp_8
       have hc := pairOf_yes c A B n k m j ws ts d C D n2 k2 m2 j2 ws2 ts2 p1 p2 p3 p4 _ ra_2.out rb_3.out hn hm rc_4.out rd_5.out hn2 hm2 hq
       have HC := Lib.hid hc; clear hc
       go_wp2_with fail
       refine HC.out.mono ?_
       rintro e w_19 ⟨rfl, hb⟩
       clear HC
       clear z_9 z_10 z_11 z_12 z_13 z_14 z_15 z_16 z_17 z_18
       replace bel_1 := bB bel_1 hb
       replace ra_2 := rB ra_2 hb
       replace rb_3 := rB rb_3 hb
       replace rc_4 := rB rc_4 hb
       replace rd_5 := rB rd_5 hb
       replace ba_6 := kB ba_6 hb
       replace bb_7 := kB bb_7 hb
       replace bp_8 := kB bp_8 hb
       clear hb
       obtain ⟨z_20, z_21, z_22⟩ := at3 ba_6
       obtain ⟨z_23, z_24, z_25⟩ := at3 bb_7
       obtain ⟨z_26, z_27, z_28, z_29⟩ := at4 bp_8
       clear z_20 z_21 z_22 z_23 z_24 z_25 z_26 z_27 z_28 z_29
       obtain ⟨o_, ho_⟩ : ∃ o, o = ((.cells #[.int .i64 c, .slice A n k, .slice B m j, .int .i64 d, .slice C n2 k2, .slice D m2 j2, .int .i64 p1, .int .i64 p2, .int .i64 p3, .int .i64 p4] 101) : Obj) := ⟨_, rfl⟩
       replace bel_1 := bA bel_1 o_
       replace ra_2 := rA ra_2 o_
       replace rb_3 := rA rb_3 o_
       replace rc_4 := rA rc_4 o_
       replace rd_5 := rA rd_5 o_
       replace ba_6 := kA ba_6 o_
       replace bb_7 := kA bb_7 o_
       replace bp_8 := kA bp_8 o_
       subst ho_
       have bq_30 := Lib.hid (Blk.new w_19 101 #[.int .i64 c, .slice A n k, .slice B m j, .int .i64 d, .slice C n2 k2, .slice D m2 j2, .int .i64 p1, .int .i64 p2, .int .i64 p3, .int .i64 p4])
       obtain ⟨z_31, z_32, z_33⟩ := at3 ba_6
       obtain ⟨z_34, z_35, z_36⟩ := at3 bb_7
       obtain ⟨z_37, z_38, z_39, z_40⟩ := at4 bp_8
       obtain ⟨z_41, z_42, z_43, z_44, z_45, z_46, z_47, z_48, z_49, z_50⟩ := at10 bq_30
       have hc := meets_q c A B n k m j ws ts d C D n2 k2 m2 j2 ws2 ts2 p1 p2 p3 p4 _ ra_2.out rb_3.out hn hm rc_4.out rd_5.out hn2 hm2 hq
       rw [EM.out] at hc
       try dsimp only at hc
       have HC := Lib.hid hc; clear hc
       go_wp2_with fail
       refine HC.out.mono ?_
       rintro e w_51 ⟨rfl, hb⟩
       clear HC
       clear z_31 z_32 z_33 z_34 z_35 z_36 z_37 z_38 z_39 z_40 z_41 z_42 z_43 z_44 z_45 z_46 z_47 z_48 z_49 z_50
       replace bel_1 := bB bel_1 hb
       replace ra_2 := rB ra_2 hb
       replace rb_3 := rB rb_3 hb
       replace rc_4 := rB rc_4 hb
       replace rd_5 := rB rd_5 hb
       replace ba_6 := kB ba_6 hb
       replace bb_7 := kB bb_7 hb
       replace bp_8 := kB bp_8 hb
       replace bq_30 := kB bq_30 hb
       clear hb
       obtain ⟨z_52, z_53, z_54⟩ := at3 ba_6
       obtain ⟨z_55, z_56, z_57⟩ := at3 bb_7
       obtain ⟨z_58, z_59, z_60, z_61⟩ := at4 bp_8
       obtain ⟨z_62, z_63, z_64, z_65, z_66, z_67, z_68, z_69, z_70, z_71⟩ := at10 bq_30
       clear hq
       go_wp2_with fail
       clear z_52 z_53 z_54 z_55 z_56 z_57 z_58 z_59 z_60 z_61 z_62 z_63 z_64 z_65 z_66 z_67 z_68 z_69 z_70 z_71
       replace bel_1 := bD bel_1
       replace ra_2 := rD ra_2
       replace rb_3 := rD rb_3
       replace rc_4 := rD rc_4
       replace rd_5 := rD rd_5
       replace ba_6 := kD ba_6
       replace bb_7 := kD bb_7
       replace bp_8 := kD bp_8
       replace bq_30 := kD bq_30
       refine wp_region_held_drew (S := (fun W' => Blk W' (w_19.heap.size) 101 #[.int .i64 c, .slice A n k, .slice B m j, .int .i64 d, .slice C n2 k2, .slice D m2 j2, .int .i64 p1, .int .i64 p2, .int .i64 p3, .int .i64 p4] ∧ Blk W' (w.heap.size + 1 + 1) 28 #[.int .i64 p1, .int .i64 p2, .int .i64 p3, .int .i64 p4])) (by kernel_rfl) ⟨bq_30.out, bp_8.out⟩ (fun _ => ?_)
       obtain ⟨w800, hw801⟩ : ∃ w', w' = (w_51.drew) := ⟨_, rfl⟩
       rw [← hw801] at bel_1 ra_2 rb_3 rc_4 rd_5 ba_6 bb_7 bp_8 bq_30
       rw [← hw801]
       clear hw801
       refine' tkH 0 ⟨bq_30.out, bp_8.out⟩ ?hyR802 ?_
       case hyR802 => (rintro W' ⟨hS0, hS1⟩; have hc0 := Blk.nth hS0 0; have hc1 := Blk.nth hS0 1; have hc2 := Blk.nth hS0 2; have hc3 := Blk.nth hS0 3; have hc4 := Blk.nth hS0 4; have hc5 := Blk.nth hS0 5; have hc6 := Blk.nth hS0 6; have hc7 := Blk.nth hS0 7; have hc8 := Blk.nth hS0 8; have hc9 := Blk.nth hS0 9; clear hS0 hS1; go_simp; try with_reducible rfl)
       refine' tkH 2 ⟨bq_30.out, bp_8.out⟩ ?hyR803 ?_
       case hyR803 => (rintro _ -; go_simp; try with_reducible rfl)
       refine' tkH 3 ⟨bq_30.out, bp_8.out⟩ ?hyR804 ?_
       case hyR804 => (rintro _ -; go_simp; try with_reducible rfl)
       refine' tkH 4 ⟨bq_30.out, bp_8.out⟩ ?hyR805 ?_
       case hyR805 => (rintro W' ⟨hS0, hS1⟩; have hc0 := Blk.nth hS1 0; clear hS0 hS1; go_simp; try with_reducible rfl)
       try simp only [Act.put, List.setIfInBounds_toArray, List.set_cons_zero, List.set_cons_succ]
       refine' tkH 5 ⟨bq_30.out, bp_8.out⟩ ?hyR806 ?_
       case hyR806 => (rintro _ -; go_simp; try with_reducible rfl)
       refine' tkH 6 ⟨bq_30.out, bp_8.out⟩ ?hyR807 ?_
       case hyR807 => (rintro _ -; go_simp; try with_reducible rfl)
       refine' tkH 7 ⟨bq_30.out, bp_8.out⟩ ?hyR808 ?_
       case hyR808 => (rintro W' ⟨hS0, hS1⟩; have hc0 := Blk.nth hS1 1; clear hS0 hS1; go_simp; try with_reducible rfl)
       try simp only [Act.put, List.setIfInBounds_toArray, List.set_cons_zero, List.set_cons_succ]
       refine wpAnyH_ready (rs := [1]) (by kernel_rfl) (by simp) ?_
       refine rdH rfl (fun K hK => ?_) ?_
       · -- 1: call
        go_simp
        go_at_call 81
        refine (ways_q c A B n k m j ws ts d C D n2 k2 m2 j2 ws2 ts2 p1 p2 p3 p4 _ ra_2.out rb_3.out hn hm rc_4.out rd_5.out hn2 hm2 HQ1.out).mono ?_
        rintro e w809 ⟨Ar, nr, kr, rfl, hrl, hb810⟩
        dsimp only
        replace bel_1 := bB bel_1 hb810
        replace ra_2 := rB ra_2 hb810
        replace rb_3 := rB rb_3 hb810
        replace rc_4 := rB rc_4 hb810
        replace rd_5 := rB rd_5 hb810
        replace ba_6 := kB ba_6 hb810
        replace bb_7 := kB bb_7 hb810
        replace bp_8 := kB bp_8 hb810
        replace bq_30 := kB bq_30 hb810
        have rl_811 := Lib.hid (hrl)
        refine hK.out _ _ ⟨bq_30.out, bp_8.out⟩ (fun _ => ?_); clear hK K
        try simp only [Act.put, List.setIfInBounds_toArray, List.set_cons_zero, List.set_cons_succ]
        refine wpAnyH_ready (rs := [8]) (by kernel_rfl) (by simp) ?_
        refine rdH rfl (fun K hK => ?_) ?_
        · -- 8: call
         have hl_ : nr ≤ maxLen := by have h1 := (rl_811.out).len; have h2 := HL1.out; unfold maxLen; omega
         go_simp
         go_at_call 92
         refine (Least_is _ _ _  Ar nr kr _ _ rl_811.out hl_ _ _ _ HE1.out).mono ?_
         rintro e w812 ⟨rfl, hb813⟩
         dsimp only
         replace bel_1 := bB bel_1 hb813
         replace ra_2 := rB ra_2 hb813
         replace rb_3 := rB rb_3 hb813
         replace rc_4 := rB rc_4 hb813
         replace rd_5 := rB rd_5 hb813
         replace ba_6 := kB ba_6 hb813
         replace bb_7 := kB bb_7 hb813
         replace bp_8 := kB bp_8 hb813
         replace bq_30 := kB bq_30 hb813
         replace rl_811 := rB rl_811 hb813
         refine hK.out _ _ ⟨bq_30.out, bp_8.out⟩ (fun _ => ?_); clear hK K
         try simp only [Act.put, List.setIfInBounds_toArray, List.set_cons_zero, List.set_cons_succ]
         refine' tkH 9 ⟨bq_30.out, bp_8.out⟩ ?hyR814 ?_
         case hyR814 => (rintro _ -; go_simp; try with_reducible rfl)
         refine' tkH 10 ⟨bq_30.out, bp_8.out⟩ ?hyR815 ?_
         case hyR815 => (rintro _ -; go_simp; try with_reducible rfl)
         refine' tkH 11 ⟨bq_30.out, bp_8.out⟩ ?hyR816 ?_
         case hyR816 => (rintro _ -; go_simp; try with_reducible rfl)
         refine' tkH 12 ⟨bq_30.out, bp_8.out⟩ ?hyR817 ?_
         case hyR817 => (rintro _ -; go_simp; try with_reducible rfl)
         try simp only [Act.put, List.setIfInBounds_toArray, List.set_cons_zero, List.set_cons_succ]
         refine' tkH 13 ⟨bq_30.out, bp_8.out⟩ ?hyR818 ?_
         case hyR818 => (rintro _ -; go_simp; try with_reducible rfl)
         refine' tkH 14 ⟨bq_30.out, bp_8.out⟩ ?hyR819 ?_
         case hyR819 => (rintro _ -; go_simp; try with_reducible rfl)
         refine' tkH 15 ⟨bq_30.out, bp_8.out⟩ ?hyR820 ?_
         case hyR820 => (rintro _ -; go_simp; try with_reducible rfl)
         try simp only [Act.put, List.setIfInBounds_toArray, List.set_cons_zero, List.set_cons_succ]
         refine wpAnyH_done (by kernel_rfl) ?_ _
         obtain ⟨z_1072, z_1073, z_1074⟩ := at3 ba_6
         obtain ⟨z_1075, z_1076, z_1077⟩ := at3 bb_7
         obtain ⟨z_1078, z_1079, z_1080, z_1081⟩ := at4 bp_8
         obtain ⟨z_1082, z_1083, z_1084, z_1085, z_1086, z_1087, z_1088, z_1089, z_1090, z_1091⟩ := at10 bq_30
         go_wp2_with fail
         clear z_1072 z_1073 z_1074 z_1075 z_1076 z_1077 z_1078 z_1079 z_1080 z_1081 z_1082 z_1083 z_1084 z_1085 z_1086 z_1087 z_1088 z_1089 z_1090 z_1091
         replace bel_1 := bD bel_1
         replace ra_2 := rD ra_2
         replace rb_3 := rD rb_3
         replace rc_4 := rD rc_4
         replace rd_5 := rD rd_5
         replace ba_6 := kD ba_6
         replace bb_7 := kD bb_7
         replace bp_8 := kD bp_8
         replace bq_30 := kD bq_30
         replace rl_811 := rD rl_811
         refine wp_region_held_drew (S := (fun W' => Blk W' (w_19.heap.size) 101 #[.int .i64 c, .slice A n k, .slice B m j, .int .i64 d, .slice C n2 k2, .slice D m2 j2, .int .i64 p1, .int .i64 p2, .int .i64 p3, .int .i64 p4] ∧ Blk W' (w.heap.size + 1 + 1) 28 #[.int .i64 p1, .int .i64 p2, .int .i64 p3, .int .i64 p4])) (by kernel_rfl) ⟨bq_30.out, bp_8.out⟩ (fun _ => ?_)
         obtain ⟨w821, hw822⟩ : ∃ w', w' = (w812.drew) := ⟨_, rfl⟩
         rw [← hw822] at bel_1 ra_2 rb_3 rc_4 rd_5 ba_6 bb_7 bp_8 bq_30 rl_811
         rw [← hw822]
         clear hw822
         refine' tkH 0 ⟨bq_30.out, bp_8.out⟩ ?hyR823 ?_
         case hyR823 => (rintro W' ⟨hS0, hS1⟩; have hc0 := Blk.nth hS0 0; have hc1 := Blk.nth hS0 1; have hc2 := Blk.nth hS0 2; have hc3 := Blk.nth hS0 3; have hc4 := Blk.nth hS0 4; have hc5 := Blk.nth hS0 5; have hc6 := Blk.nth hS0 6; have hc7 := Blk.nth hS0 7; have hc8 := Blk.nth hS0 8; have hc9 := Blk.nth hS0 9; clear hS0 hS1; go_simp; try with_reducible rfl)
         refine' tkH 2 ⟨bq_30.out, bp_8.out⟩ ?hyR824 ?_
         case hyR824 => (rintro _ -; go_simp; try with_reducible rfl)
         refine' tkH 3 ⟨bq_30.out, bp_8.out⟩ ?hyR825 ?_
         case hyR825 => (rintro _ -; go_simp; try with_reducible rfl)
         refine' tkH 4 ⟨bq_30.out, bp_8.out⟩ ?hyR826 ?_
         case hyR826 => (rintro W' ⟨hS0, hS1⟩; have hc0 := Blk.nth hS1 0; clear hS0 hS1; go_simp; try with_reducible rfl)
         try simp only [Act.put, List.setIfInBounds_toArray, List.set_cons_zero, List.set_cons_succ]
         refine' tkH 5 ⟨bq_30.out, bp_8.out⟩ ?hyR827 ?_
         case hyR827 => (rintro _ -; go_simp; try with_reducible rfl)
         refine' tkH 6 ⟨bq_30.out, bp_8.out⟩ ?hyR828 ?_
         case hyR828 => (rintro _ -; go_simp; try with_reducible rfl)
         refine' tkH 7 ⟨bq_30.out, bp_8.out⟩ ?hyR829 ?_
         case hyR829 => (rintro W' ⟨hS0, hS1⟩; have hc0 := Blk.nth hS1 1; clear hS0 hS1; go_simp; try with_reducible rfl)
         try simp only [Act.put, List.setIfInBounds_toArray, List.set_cons_zero, List.set_cons_succ]
         refine wpAnyH_ready (rs := [1]) (by kernel_rfl) (by simp) ?_
         refine rdH rfl (fun K hK => ?_) ?_
         · -- 1: call
          go_simp
          go_at_call 81
          refine (ways_q c A B n k m j ws ts d C D n2 k2 m2 j2 ws2 ts2 p1 p2 p3 p4 _ ra_2.out rb_3.out hn hm rc_4.out rd_5.out hn2 hm2 HQ1.out).mono ?_
          rintro e w830 ⟨Ar2, nr2, kr2, rfl, hrl, hb831⟩
          dsimp only
          replace bel_1 := bB bel_1 hb831
          replace ra_2 := rB ra_2 hb831
          replace rb_3 := rB rb_3 hb831
          replace rc_4 := rB rc_4 hb831
          replace rd_5 := rB rd_5 hb831
          replace ba_6 := kB ba_6 hb831
          replace bb_7 := kB bb_7 hb831
          replace bp_8 := kB bp_8 hb831
          replace bq_30 := kB bq_30 hb831
          replace rl_811 := rB rl_811 hb831
          have rl2_832 := Lib.hid (hrl)
          refine hK.out _ _ ⟨bq_30.out, bp_8.out⟩ (fun _ => ?_); clear hK K
          try simp only [Act.put, List.setIfInBounds_toArray, List.set_cons_zero, List.set_cons_succ]
          refine wpAnyH_ready (rs := [8]) (by kernel_rfl) (by simp) ?_
          refine rdH rfl (fun K hK => ?_) ?_
          · -- 8: call
           have hl_ : nr2 ≤ maxLen := by have h1 := (rl2_832.out).len; have h2 := HL1.out; unfold maxLen; omega
           go_simp
           go_at_call 93
           refine (Greatest_is _ _ _  Ar2 nr2 kr2 _ _ rl2_832.out hl_ _ _ _ HE2.out).mono ?_
           rintro e w833 ⟨rfl, hb834⟩
           dsimp only
           replace bel_1 := bB bel_1 hb834
           replace ra_2 := rB ra_2 hb834
           replace rb_3 := rB rb_3 hb834
           replace rc_4 := rB rc_4 hb834
           replace rd_5 := rB rd_5 hb834
           replace ba_6 := kB ba_6 hb834
           replace bb_7 := kB bb_7 hb834
           replace bp_8 := kB bp_8 hb834
           replace bq_30 := kB bq_30 hb834
           replace rl_811 := rB rl_811 hb834
           replace rl2_832 := rB rl2_832 hb834
           refine hK.out _ _ ⟨bq_30.out, bp_8.out⟩ (fun _ => ?_); clear hK K
           try simp only [Act.put, List.setIfInBounds_toArray, List.set_cons_zero, List.set_cons_succ]
           refine' tkH 9 ⟨bq_30.out, bp_8.out⟩ ?hyR835 ?_
           case hyR835 => (rintro _ -; go_simp; try with_reducible rfl)
           refine' tkH 10 ⟨bq_30.out, bp_8.out⟩ ?hyR836 ?_
           case hyR836 => (rintro _ -; go_simp; try with_reducible rfl)
           refine' tkH 11 ⟨bq_30.out, bp_8.out⟩ ?hyR837 ?_
           case hyR837 => (rintro _ -; go_simp; try with_reducible rfl)
           refine' tkH 12 ⟨bq_30.out, bp_8.out⟩ ?hyR838 ?_
           case hyR838 => (rintro _ -; go_simp; try with_reducible rfl)
           try simp only [Act.put, List.setIfInBounds_toArray, List.set_cons_zero, List.set_cons_succ]
           refine' tkH 13 ⟨bq_30.out, bp_8.out⟩ ?hyR839 ?_
           case hyR839 => (rintro _ -; go_simp; try with_reducible rfl)
           refine' tkH 14 ⟨bq_30.out, bp_8.out⟩ ?hyR840 ?_
           case hyR840 => (rintro _ -; go_simp; try with_reducible rfl)
           refine' tkH 15 ⟨bq_30.out, bp_8.out⟩ ?hyR841 ?_
           case hyR841 => (rintro _ -; go_simp; try with_reducible rfl)
           try simp only [Act.put, List.setIfInBounds_toArray, List.set_cons_zero, List.set_cons_succ]
           refine wpAnyH_done (by kernel_rfl) ?_ _
           go_wp2
           go_ret3
           exact ⟨rfl, bel_1.out⟩
          exact AllReadyH.nil
         exact AllReadyH.nil
        exact AllReadyH.nil
       exact AllReadyH.nil
 · rw [if_neg hq]
   obtain ⟨q, hq2⟩ : ∃ q, asked ⟨c, ws, ts⟩ ⟨d, ws2, ts2⟩ ⟨p1, p2, p3, p4⟩ = q := ⟨_, rfl⟩
   rw [hq2] at hq
   rw [hq2]
   have hne := hq
   have hqe : (q != 0) = true := by simpa using hq
   clear hq
   have hq := hq2; clear hq2
   dsimp only
   go_enter Tryz.func45, Tryz.ntmps45
   have bel_1 := Lib.hid (show Below w.heap.size w w from Below.refl _ w)
   have ra_2 := Lib.hid (h1)
   clear h1
   have rb_3 := Lib.hid (h2)
   clear h2
   have rc_4 := Lib.hid (h3)
   clear h3
   have rd_5 := Lib.hid (h4)
   clear h4
   obtain ⟨o_, ho_⟩ : ∃ o, o = ((.cells #[.int .i64 c, .slice A n k, .slice B m j] 24) : Obj) := ⟨_, rfl⟩
   replace bel_1 := bA bel_1 o_
   replace ra_2 := rA ra_2 o_
   replace rb_3 := rA rb_3 o_
   replace rc_4 := rA rc_4 o_
   replace rd_5 := rA rd_5 o_
   subst ho_
   have ba_6 := Lib.hid (Blk.new w 24 #[.int .i64 c, .slice A n k, .slice B m j])
   obtain ⟨o_, ho_⟩ : ∃ o, o = ((.cells #[.int .i64 d, .slice C n2 k2, .slice D m2 j2] 24) : Obj) := ⟨_, rfl⟩
   replace bel_1 := bA bel_1 o_
   replace ra_2 := rA ra_2 o_
   replace rb_3 := rA rb_3 o_
   replace rc_4 := rA rc_4 o_
   replace rd_5 := rA rd_5 o_
   replace ba_6 := kA ba_6 o_
   subst ho_
   have nb_ := Blk.new (w.alloc (.cells #[.int .i64 c, .slice A n k, .slice B m j] 24)) 24 #[.int .i64 d, .slice C n2 k2, .slice D m2 j2]
   simp only [World.size_alloc] at nb_
   have bb_7 := Lib.hid nb_; clear nb_
   obtain ⟨o_, ho_⟩ : ∃ o, o = ((.cells #[.int .i64 p1, .int .i64 p2, .int .i64 p3, .int .i64 p4] 28) : Obj) := ⟨_, rfl⟩
   replace bel_1 := bA bel_1 o_
   replace ra_2 := rA ra_2 o_
   replace rb_3 := rA rb_3 o_
   replace rc_4 := rA rc_4 o_
   replace rd_5 := rA rd_5 o_
   replace ba_6 := kA ba_6 o_
   replace bb_7 := kA bb_7 o_
   subst ho_
   have nb_ := Blk.new ((w.alloc (.cells #[.int .i64 c, .slice A n k, .slice B m j] 24)).alloc (.cells #[.int .i64 d, .slice C n2 k2, .slice D m2 j2] 24)) 28 #[.int .i64 p1, .int .i64 p2, .int .i64 p3, .int .i64 p4]
   simp only [World.size_alloc] at nb_
   have bp_8 := Lib.hid nb_; clear nb_
   obtain ⟨z_9, z_10, z_11⟩ := at3 ba_6
   obtain ⟨z_12, z_13, z_14⟩ := at3 bb_7
   obtain ⟨z_15, z_16, z_17, z_18⟩ := at4 bp_8
   have hc := pairOf_no c A B n k m j ws ts d C D n2 k2 m2 j2 ws2 ts2 p1 p2 p3 p4 _ ra_2.out rb_3.out hn hm rc_4.out rd_5.out hn2 hm2 q hq hne
   have HC := Lib.hid hc; clear hc
   go_wp2_with fail
   refine HC.out.mono ?_
   rintro e w_19 ⟨rfl, hb⟩
   clear HC
   clear z_9 z_10 z_11 z_12 z_13 z_14 z_15 z_16 z_17 z_18
   replace bel_1 := bB bel_1 hb
   replace ra_2 := rB ra_2 hb
   replace rb_3 := rB rb_3 hb
   replace rc_4 := rB rc_4 hb
   replace rd_5 := rB rd_5 hb
   replace ba_6 := kB ba_6 hb
   replace bb_7 := kB bb_7 hb
   replace bp_8 := kB bp_8 hb
   clear hb
   obtain ⟨z_20, z_21, z_22⟩ := at3 ba_6
   obtain ⟨z_23, z_24, z_25⟩ := at3 bb_7
   obtain ⟨z_26, z_27, z_28, z_29⟩ := at4 bp_8
   clear z_20 z_21 z_22 z_23 z_24 z_25 z_26 z_27 z_28 z_29
   obtain ⟨o_, ho_⟩ : ∃ o, o = ((.cells #[.int .i64 0, .slice none 0 0, .slice none 0 0, .int .i64 0, .slice none 0 0, .slice none 0 0, .int .i64 0, .int .i64 0, .int .i64 0, .int .i64 0] 101) : Obj) := ⟨_, rfl⟩
   replace bel_1 := bA bel_1 o_
   replace ra_2 := rA ra_2 o_
   replace rb_3 := rA rb_3 o_
   replace rc_4 := rA rc_4 o_
   replace rd_5 := rA rd_5 o_
   replace ba_6 := kA ba_6 o_
   replace bb_7 := kA bb_7 o_
   replace bp_8 := kA bp_8 o_
   subst ho_
   have bq_30 := Lib.hid (Blk.new w_19 101 #[.int .i64 0, .slice none 0 0, .slice none 0 0, .int .i64 0, .slice none 0 0, .slice none 0 0, .int .i64 0, .int .i64 0, .int .i64 0, .int .i64 0])
   obtain ⟨z_31, z_32, z_33⟩ := at3 ba_6
   obtain ⟨z_34, z_35, z_36⟩ := at3 bb_7
   obtain ⟨z_37, z_38, z_39, z_40⟩ := at4 bp_8
   obtain ⟨z_41, z_42, z_43, z_44, z_45, z_46, z_47, z_48, z_49, z_50⟩ := at10 bq_30
   go_wp2
   go_ret3
   exact ⟨rfl, (by have hsz_ := Below.size bel_1.out; repeat' (first | with_reducible exact bel_1.out | with_reducible exact Below.refl _ _ | with_reducible refine Below.alloc ?_ ?_ _ | with_reducible refine Below.setCell ?_ ?_ _ | with_reducible refine Below.drew ?_ | with_reducible refine below_setRow ?_ ?_ _ | omega | (simp; done) | (simp; omega)))⟩
end Go.Proofs.YtaoanagmgheicaaGreat
