import Derived.Test.YtaoanagmgheicaaGreatQERefBb
import Derived.Test.YtaoanagmgheicaaGreatVEFitC
import Derived.Test.YtaoanagmgheicaaGreatVERefJ
set_option maxHeartbeats 4000000
set_option linter.unusedSimpArgs false
set_option linter.unusedVariables false
namespace Go.Proofs.YtaoanagmgheicaaGreat
open Go.RowKit
set_option maxRecDepth 100000 in
theorem rCheckPairing_any (c : Int) (A B : Option Addr) (n k m j : Nat) (ws ts : List Bnd) (d : Int) (C D : Option Addr) (n2 k2 m2 j2 : Nat) (ws2 ts2 : List Bnd) (p1 p2 p3 p4 : Int) (w : World) (h1 : RdB w A n k ws) (h2 : RdB w B m j ts) (hn : n ≤ maxLen) (hm : m ≤ maxLen) (h3 : RdB w C n2 k2 ws2) (h4 : RdB w D m2 j2 ts2) (hn2 : n2 ≤ maxLen) (hm2 : m2 ≤ maxLen) :
 Calls Tryz.prog 25 #[.agg #[.int .i64 c, .slice A n k, .slice B m j], .agg #[.int .i64 d, .slice C n2 k2, .slice D m2 j2], .agg #[.int .i64 p1, .int .i64 p2, .int .i64 p3, .int .i64 p4]] w fun e w' => e = .returned (.int .i64 (chkP ⟨c, ws, ts⟩ ⟨d, ws2, ts2⟩ ⟨p1, p2, p3, p4⟩)) ∧ Below w.heap.size w w' := by
 obtain ⟨q, hq⟩ : ∃ q, chkO ⟨c, ws, ts⟩ = q := ⟨_, rfl⟩
 obtain ⟨q2, hq2⟩ : ∃ q, chkO ⟨d, ws2, ts2⟩ = q := ⟨_, rfl⟩
 unfold chkP chkOO
 rw [hq, hq2]
 have HQ := Lib.hid hq; have HQ2 := Lib.hid hq2
 have E1 := Lib.hid hq; have E2 := Lib.hid hq2; clear hq hq2
 by_cases h0 : q = 0
 · subst h0
   have g1 := (chkO_ok HQ.out).2.1
   dsimp only at g1 ⊢
   clear HQ
   by_cases h00 : q2 = 0
   · subst h00
     have g2 := (chkO_ok HQ2.out).2.1
     dsimp only at g2
     clear HQ2
     rw [if_neg (by simp)]
     cases hs1 : isStr p1 p2 c
     · rw [if_pos rfl]
       have E3 := Lib.hid hs1; clear hs1
       go_enter Tryz.func25, Tryz.ntmps25
       obtain ⟨ba_1, bb_2, bp_3, bel_4⟩ := ent3 w #[.int .i64 c, .slice A n k, .slice B m j] 24 #[.int .i64 d, .slice C n2 k2, .slice D m2 j2] 24 #[.int .i64 p1, .int .i64 p2, .int .i64 p3, .int .i64 p4] 28
       have ra_5 := rI h1 bel_4
       have rb_6 := rI h2 bel_4
       have rc_7 := rI h3 bel_4
       have rd_8 := rI h4 bel_4
       clear h1 h2 h3 h4
       obtain ⟨z_9, z_10, z_11⟩ := at3 ba_1
       obtain ⟨z_12, z_13, z_14⟩ := at3 bb_2
       obtain ⟨z_15, z_16, z_17, z_18⟩ := at4 bp_3
       have hc := rCheckOutline_any c A B n k m j ws ts _ ra_5.out rb_6.out hn hm
       rw [E1.out] at hc
       try dsimp only at hc
       have HC := Lib.hid hc; clear hc
       go_wp2_with fail
       refine HC.out.mono ?_
       rintro e w_19 ⟨rfl, hb⟩
       clear HC
       clear z_9 z_10 z_11 z_12 z_13 z_14 z_15 z_16 z_17 z_18
       have hb_20 := Lib.hid hb
       clear hb
       replace ba_1 := kH ba_1 hb_20
       obtain ⟨z_21, z_22, z_23⟩ := at3 ba_1
       replace bb_2 := kH bb_2 hb_20
       obtain ⟨z_24, z_25, z_26⟩ := at3 bb_2
       replace bp_3 := kH bp_3 hb_20
       obtain ⟨z_27, z_28, z_29, z_30⟩ := at4 bp_3
       replace rc_7 := rH rc_7 hb_20
       replace rd_8 := rH rd_8 hb_20
       have hc := rCheckOutline_any d C D n2 k2 m2 j2 ws2 ts2 _ rc_7.out rd_8.out hn2 hm2
       rw [E2.out] at hc
       try dsimp only at hc
       have HC := Lib.hid hc; clear hc
       go_wp2_with fail
       refine HC.out.mono ?_
       rintro e w_31 ⟨rfl, hb⟩
       clear HC
       clear z_21 z_22 z_23 z_24 z_25 z_26 z_27 z_28 z_29 z_30
       have hb_32 := Lib.hid hb
       clear hb
       replace ba_1 := kH ba_1 hb_32
       obtain ⟨z_33, z_34, z_35⟩ := at3 ba_1
       replace bb_2 := kH bb_2 hb_32
       obtain ⟨z_36, z_37, z_38⟩ := at3 bb_2
       replace bp_3 := kH bp_3 hb_32
       obtain ⟨z_39, z_40, z_41, z_42⟩ := at4 bp_3
       have hc := rstretch_is p1 p2 c _ E3.out (w_31)
       have HC := Lib.hid hc; clear hc
       go_wp2_with fail
       refine HC.out.mono ?_
       rintro e w_43 ⟨rfl, hb⟩
       clear HC
       clear z_33 z_34 z_35 z_36 z_37 z_38 z_39 z_40 z_41 z_42
       have hb_44 := Lib.hid hb
       clear hb
       replace ba_1 := kH ba_1 hb_44
       obtain ⟨z_45, z_46, z_47⟩ := at3 ba_1
       replace bb_2 := kH bb_2 hb_44
       obtain ⟨z_48, z_49, z_50⟩ := at3 bb_2
       replace bp_3 := kH bp_3 hb_44
       obtain ⟨z_51, z_52, z_53, z_54⟩ := at4 bp_3
       go_wp2
       go_ret
       replace bel_4 := bH (bH (bH bel_4 hb_20) hb_32) hb_44
       exact ⟨rfl, bel_4.out⟩
     · rw [if_neg (by simp)]
       have i1 := isStr_ok hs1
       have E3 := Lib.hid hs1; clear hs1
       cases hs2 : isStr p3 p4 d
       · rw [if_pos rfl]
         have E4 := Lib.hid hs2; clear hs2
         go_enter Tryz.func25, Tryz.ntmps25
         obtain ⟨ba_1, bb_2, bp_3, bel_4⟩ := ent3 w #[.int .i64 c, .slice A n k, .slice B m j] 24 #[.int .i64 d, .slice C n2 k2, .slice D m2 j2] 24 #[.int .i64 p1, .int .i64 p2, .int .i64 p3, .int .i64 p4] 28
         have ra_5 := rI h1 bel_4
         have rb_6 := rI h2 bel_4
         have rc_7 := rI h3 bel_4
         have rd_8 := rI h4 bel_4
         clear h1 h2 h3 h4
         obtain ⟨z_9, z_10, z_11⟩ := at3 ba_1
         obtain ⟨z_12, z_13, z_14⟩ := at3 bb_2
         obtain ⟨z_15, z_16, z_17, z_18⟩ := at4 bp_3
         have hc := rCheckOutline_any c A B n k m j ws ts _ ra_5.out rb_6.out hn hm
         rw [E1.out] at hc
         try dsimp only at hc
         have HC := Lib.hid hc; clear hc
         go_wp2_with fail
         refine HC.out.mono ?_
         rintro e w_19 ⟨rfl, hb⟩
         clear HC
         clear z_9 z_10 z_11 z_12 z_13 z_14 z_15 z_16 z_17 z_18
         have hb_20 := Lib.hid hb
         clear hb
         replace ba_1 := kH ba_1 hb_20
         obtain ⟨z_21, z_22, z_23⟩ := at3 ba_1
         replace bb_2 := kH bb_2 hb_20
         obtain ⟨z_24, z_25, z_26⟩ := at3 bb_2
         replace bp_3 := kH bp_3 hb_20
         obtain ⟨z_27, z_28, z_29, z_30⟩ := at4 bp_3
         replace rc_7 := rH rc_7 hb_20
         replace rd_8 := rH rd_8 hb_20
         have hc := rCheckOutline_any d C D n2 k2 m2 j2 ws2 ts2 _ rc_7.out rd_8.out hn2 hm2
         rw [E2.out] at hc
         try dsimp only at hc
         have HC := Lib.hid hc; clear hc
         go_wp2_with fail
         refine HC.out.mono ?_
         rintro e w_31 ⟨rfl, hb⟩
         clear HC
         clear z_21 z_22 z_23 z_24 z_25 z_26 z_27 z_28 z_29 z_30
         have hb_32 := Lib.hid hb
         clear hb
         replace ba_1 := kH ba_1 hb_32
         obtain ⟨z_33, z_34, z_35⟩ := at3 ba_1
         replace bb_2 := kH bb_2 hb_32
         obtain ⟨z_36, z_37, z_38⟩ := at3 bb_2
         replace bp_3 := kH bp_3 hb_32
         obtain ⟨z_39, z_40, z_41, z_42⟩ := at4 bp_3
         have hc := rstretch_is p1 p2 c _ E3.out (w_31)
         have HC := Lib.hid hc; clear hc
         go_wp2_with fail
         refine HC.out.mono ?_
         rintro e w_43 ⟨rfl, hb⟩
         clear HC
         clear z_33 z_34 z_35 z_36 z_37 z_38 z_39 z_40 z_41 z_42
         have hb_44 := Lib.hid hb
         clear hb
         replace ba_1 := kH ba_1 hb_44
         obtain ⟨z_45, z_46, z_47⟩ := at3 ba_1
         replace bb_2 := kH bb_2 hb_44
         obtain ⟨z_48, z_49, z_50⟩ := at3 bb_2
         replace bp_3 := kH bp_3 hb_44
         obtain ⟨z_51, z_52, z_53, z_54⟩ := at4 bp_3
         have hc := rstretch_is p3 p4 d _ E4.out (w_43)
         have HC := Lib.hid hc; clear hc
         go_wp2_with fail
         refine HC.out.mono ?_
         rintro e w_55 ⟨rfl, hb⟩
         clear HC
         clear z_45 z_46 z_47 z_48 z_49 z_50 z_51 z_52 z_53 z_54
         have hb_56 := Lib.hid hb
         clear hb
         replace ba_1 := kH ba_1 hb_56
         obtain ⟨z_57, z_58, z_59⟩ := at3 ba_1
         replace bb_2 := kH bb_2 hb_56
         obtain ⟨z_60, z_61, z_62⟩ := at3 bb_2
         replace bp_3 := kH bp_3 hb_56
         obtain ⟨z_63, z_64, z_65, z_66⟩ := at4 bp_3
         go_wp2
         go_ret
         replace bel_4 := bH (bH (bH (bH bel_4 hb_20) hb_32) hb_44) hb_56
         exact ⟨rfl, bel_4.out⟩
       · rw [if_neg (by simp)]
         have i2 := isStr_ok hs2
         have E4 := Lib.hid hs2; clear hs2
         by_cases hk : p2 - p1 = p4 - p3
         · rw [if_neg (by simpa using hk)]
           have hkb : (p2 - p1 != p4 - p3) = false := by simpa using hk
           clear hk
           go_enter Tryz.func25, Tryz.ntmps25
           obtain ⟨ba_1, bb_2, bp_3, bel_4⟩ := ent3 w #[.int .i64 c, .slice A n k, .slice B m j] 24 #[.int .i64 d, .slice C n2 k2, .slice D m2 j2] 24 #[.int .i64 p1, .int .i64 p2, .int .i64 p3, .int .i64 p4] 28
           have ra_5 := rI h1 bel_4
           have rb_6 := rI h2 bel_4
           have rc_7 := rI h3 bel_4
           have rd_8 := rI h4 bel_4
           clear h1 h2 h3 h4
           obtain ⟨z_9, z_10, z_11⟩ := at3 ba_1
           obtain ⟨z_12, z_13, z_14⟩ := at3 bb_2
           obtain ⟨z_15, z_16, z_17, z_18⟩ := at4 bp_3
           have hc := rCheckOutline_any c A B n k m j ws ts _ ra_5.out rb_6.out hn hm
           rw [E1.out] at hc
           try dsimp only at hc
           have HC := Lib.hid hc; clear hc
           go_wp2_with fail
           refine HC.out.mono ?_
           rintro e w_19 ⟨rfl, hb⟩
           clear HC
           clear z_9 z_10 z_11 z_12 z_13 z_14 z_15 z_16 z_17 z_18
           have hb_20 := Lib.hid hb
           clear hb
           replace ba_1 := kH ba_1 hb_20
           obtain ⟨z_21, z_22, z_23⟩ := at3 ba_1
           replace bb_2 := kH bb_2 hb_20
           obtain ⟨z_24, z_25, z_26⟩ := at3 bb_2
           replace bp_3 := kH bp_3 hb_20
           obtain ⟨z_27, z_28, z_29, z_30⟩ := at4 bp_3
           replace rc_7 := rH rc_7 hb_20
           replace rd_8 := rH rd_8 hb_20
           have hc := rCheckOutline_any d C D n2 k2 m2 j2 ws2 ts2 _ rc_7.out rd_8.out hn2 hm2
           rw [E2.out] at hc
           try dsimp only at hc
           have HC := Lib.hid hc; clear hc
           go_wp2_with fail
           refine HC.out.mono ?_
           rintro e w_31 ⟨rfl, hb⟩
           clear HC
           clear z_21 z_22 z_23 z_24 z_25 z_26 z_27 z_28 z_29 z_30
           have hb_32 := Lib.hid hb
           clear hb
           replace ba_1 := kH ba_1 hb_32
           obtain ⟨z_33, z_34, z_35⟩ := at3 ba_1
           replace bb_2 := kH bb_2 hb_32
           obtain ⟨z_36, z_37, z_38⟩ := at3 bb_2
           replace bp_3 := kH bp_3 hb_32
           obtain ⟨z_39, z_40, z_41, z_42⟩ := at4 bp_3
           have hc := rstretch_is p1 p2 c _ E3.out (w_31)
           have HC := Lib.hid hc; clear hc
           go_wp2_with fail
           refine HC.out.mono ?_
           rintro e w_43 ⟨rfl, hb⟩
           clear HC
           clear z_33 z_34 z_35 z_36 z_37 z_38 z_39 z_40 z_41 z_42
           have hb_44 := Lib.hid hb
           clear hb
           replace ba_1 := kH ba_1 hb_44
           obtain ⟨z_45, z_46, z_47⟩ := at3 ba_1
           replace bb_2 := kH bb_2 hb_44
           obtain ⟨z_48, z_49, z_50⟩ := at3 bb_2
           replace bp_3 := kH bp_3 hb_44
           obtain ⟨z_51, z_52, z_53, z_54⟩ := at4 bp_3
           have hc := rstretch_is p3 p4 d _ E4.out (w_43)
           have HC := Lib.hid hc; clear hc
           go_wp2_with fail
           refine HC.out.mono ?_
           rintro e w_55 ⟨rfl, hb⟩
           clear HC
           clear z_45 z_46 z_47 z_48 z_49 z_50 z_51 z_52 z_53 z_54
           have hb_56 := Lib.hid hb
           clear hb
           replace ba_1 := kH ba_1 hb_56
           obtain ⟨z_57, z_58, z_59⟩ := at3 ba_1
           replace bb_2 := kH bb_2 hb_56
           obtain ⟨z_60, z_61, z_62⟩ := at3 bb_2
           replace bp_3 := kH bp_3 hb_56
           obtain ⟨z_63, z_64, z_65, z_66⟩ := at4 bp_3
           go_wp2
           go_ret
           replace bel_4 := bH (bH (bH (bH bel_4 hb_20) hb_32) hb_44) hb_56
           exact ⟨rfl, bel_4.out⟩
         · rw [if_pos hk]
           have hkb : (p2 - p1 != p4 - p3) = true := by simpa using hk
           clear hk
           go_enter Tryz.func25, Tryz.ntmps25
           obtain ⟨ba_1, bb_2, bp_3, bel_4⟩ := ent3 w #[.int .i64 c, .slice A n k, .slice B m j] 24 #[.int .i64 d, .slice C n2 k2, .slice D m2 j2] 24 #[.int .i64 p1, .int .i64 p2, .int .i64 p3, .int .i64 p4] 28
           have ra_5 := rI h1 bel_4
           have rb_6 := rI h2 bel_4
           have rc_7 := rI h3 bel_4
           have rd_8 := rI h4 bel_4
           clear h1 h2 h3 h4
           obtain ⟨z_9, z_10, z_11⟩ := at3 ba_1
           obtain ⟨z_12, z_13, z_14⟩ := at3 bb_2
           obtain ⟨z_15, z_16, z_17, z_18⟩ := at4 bp_3
           have hc := rCheckOutline_any c A B n k m j ws ts _ ra_5.out rb_6.out hn hm
           rw [E1.out] at hc
           try dsimp only at hc
           have HC := Lib.hid hc; clear hc
           go_wp2_with fail
           refine HC.out.mono ?_
           rintro e w_19 ⟨rfl, hb⟩
           clear HC
           clear z_9 z_10 z_11 z_12 z_13 z_14 z_15 z_16 z_17 z_18
           have hb_20 := Lib.hid hb
           clear hb
           replace ba_1 := kH ba_1 hb_20
           obtain ⟨z_21, z_22, z_23⟩ := at3 ba_1
           replace bb_2 := kH bb_2 hb_20
           obtain ⟨z_24, z_25, z_26⟩ := at3 bb_2
           replace bp_3 := kH bp_3 hb_20
           obtain ⟨z_27, z_28, z_29, z_30⟩ := at4 bp_3
           replace rc_7 := rH rc_7 hb_20
           replace rd_8 := rH rd_8 hb_20
           have hc := rCheckOutline_any d C D n2 k2 m2 j2 ws2 ts2 _ rc_7.out rd_8.out hn2 hm2
           rw [E2.out] at hc
           try dsimp only at hc
           have HC := Lib.hid hc; clear hc
           go_wp2_with fail
           refine HC.out.mono ?_
           rintro e w_31 ⟨rfl, hb⟩
           clear HC
           clear z_21 z_22 z_23 z_24 z_25 z_26 z_27 z_28 z_29 z_30
           have hb_32 := Lib.hid hb
           clear hb
           replace ba_1 := kH ba_1 hb_32
           obtain ⟨z_33, z_34, z_35⟩ := at3 ba_1
           replace bb_2 := kH bb_2 hb_32
           obtain ⟨z_36, z_37, z_38⟩ := at3 bb_2
           replace bp_3 := kH bp_3 hb_32
           obtain ⟨z_39, z_40, z_41, z_42⟩ := at4 bp_3
           have hc := rstretch_is p1 p2 c _ E3.out (w_31)
           have HC := Lib.hid hc; clear hc
           go_wp2_with fail
           refine HC.out.mono ?_
           rintro e w_43 ⟨rfl, hb⟩
           clear HC
           clear z_33 z_34 z_35 z_36 z_37 z_38 z_39 z_40 z_41 z_42
           have hb_44 := Lib.hid hb
           clear hb
           replace ba_1 := kH ba_1 hb_44
           obtain ⟨z_45, z_46, z_47⟩ := at3 ba_1
           replace bb_2 := kH bb_2 hb_44
           obtain ⟨z_48, z_49, z_50⟩ := at3 bb_2
           replace bp_3 := kH bp_3 hb_44
           obtain ⟨z_51, z_52, z_53, z_54⟩ := at4 bp_3
           have hc := rstretch_is p3 p4 d _ E4.out (w_43)
           have HC := Lib.hid hc; clear hc
           go_wp2_with fail
           refine HC.out.mono ?_
           rintro e w_55 ⟨rfl, hb⟩
           clear HC
           clear z_45 z_46 z_47 z_48 z_49 z_50 z_51 z_52 z_53 z_54
           have hb_56 := Lib.hid hb
           clear hb
           replace ba_1 := kH ba_1 hb_56
           obtain ⟨z_57, z_58, z_59⟩ := at3 ba_1
           replace bb_2 := kH bb_2 hb_56
           obtain ⟨z_60, z_61, z_62⟩ := at3 bb_2
           replace bp_3 := kH bp_3 hb_56
           obtain ⟨z_63, z_64, z_65, z_66⟩ := at4 bp_3
           go_wp2
           go_ret
           replace bel_4 := bH (bH (bH (bH bel_4 hb_20) hb_32) hb_44) hb_56
           exact ⟨rfl, bel_4.out⟩
   · have hne : (q2 != 0) = true := by simpa using h00
     rw [if_neg (show ¬ ((0 : Int) ≠ 0) by simp), if_pos h00]
     clear h00 HQ2
     go_enter Tryz.func25, Tryz.ntmps25
     obtain ⟨ba_1, bb_2, bp_3, bel_4⟩ := ent3 w #[.int .i64 c, .slice A n k, .slice B m j] 24 #[.int .i64 d, .slice C n2 k2, .slice D m2 j2] 24 #[.int .i64 p1, .int .i64 p2, .int .i64 p3, .int .i64 p4] 28
     have ra_5 := rI h1 bel_4
     have rb_6 := rI h2 bel_4
     have rc_7 := rI h3 bel_4
     have rd_8 := rI h4 bel_4
     clear h1 h2 h3 h4
     obtain ⟨z_9, z_10, z_11⟩ := at3 ba_1
     obtain ⟨z_12, z_13, z_14⟩ := at3 bb_2
     obtain ⟨z_15, z_16, z_17, z_18⟩ := at4 bp_3
     have hc := rCheckOutline_any c A B n k m j ws ts _ ra_5.out rb_6.out hn hm
     rw [E1.out] at hc
     try dsimp only at hc
     have HC := Lib.hid hc; clear hc
     go_wp2_with fail
     refine HC.out.mono ?_
     rintro e w_19 ⟨rfl, hb⟩
     clear HC
     clear z_9 z_10 z_11 z_12 z_13 z_14 z_15 z_16 z_17 z_18
     have hb_20 := Lib.hid hb
     clear hb
     replace ba_1 := kH ba_1 hb_20
     obtain ⟨z_21, z_22, z_23⟩ := at3 ba_1
     replace bb_2 := kH bb_2 hb_20
     obtain ⟨z_24, z_25, z_26⟩ := at3 bb_2
     replace bp_3 := kH bp_3 hb_20
     obtain ⟨z_27, z_28, z_29, z_30⟩ := at4 bp_3
     replace rc_7 := rH rc_7 hb_20
     replace rd_8 := rH rd_8 hb_20
     have hc := rCheckOutline_any d C D n2 k2 m2 j2 ws2 ts2 _ rc_7.out rd_8.out hn2 hm2
     rw [E2.out] at hc
     try dsimp only at hc
     have HC := Lib.hid hc; clear hc
     go_wp2_with fail
     refine HC.out.mono ?_
     rintro e w_31 ⟨rfl, hb⟩
     clear HC
     clear z_21 z_22 z_23 z_24 z_25 z_26 z_27 z_28 z_29 z_30
     have hb_32 := Lib.hid hb
     clear hb
     replace ba_1 := kH ba_1 hb_32
     obtain ⟨z_33, z_34, z_35⟩ := at3 ba_1
     replace bb_2 := kH bb_2 hb_32
     obtain ⟨z_36, z_37, z_38⟩ := at3 bb_2
     replace bp_3 := kH bp_3 hb_32
     obtain ⟨z_39, z_40, z_41, z_42⟩ := at4 bp_3
     go_wp2
     go_ret
     replace bel_4 := bH (bH bel_4 hb_20) hb_32
     exact ⟨rfl, bel_4.out⟩
 · have hne : (q != 0) = true := by simpa using h0
   have heq : (q == 0) = false := by simpa using h0
   dsimp only
   rw [if_pos h0, if_pos h0]
   clear h0 HQ HQ2
   go_enter Tryz.func25, Tryz.ntmps25
   obtain ⟨ba_1, bb_2, bp_3, bel_4⟩ := ent3 w #[.int .i64 c, .slice A n k, .slice B m j] 24 #[.int .i64 d, .slice C n2 k2, .slice D m2 j2] 24 #[.int .i64 p1, .int .i64 p2, .int .i64 p3, .int .i64 p4] 28
   have ra_5 := rI h1 bel_4
   have rb_6 := rI h2 bel_4
   have rc_7 := rI h3 bel_4
   have rd_8 := rI h4 bel_4
   clear h1 h2 h3 h4
   obtain ⟨z_9, z_10, z_11⟩ := at3 ba_1
   obtain ⟨z_12, z_13, z_14⟩ := at3 bb_2
   obtain ⟨z_15, z_16, z_17, z_18⟩ := at4 bp_3
   have hc := rCheckOutline_any c A B n k m j ws ts _ ra_5.out rb_6.out hn hm
   rw [E1.out] at hc
   try dsimp only at hc
   have HC := Lib.hid hc; clear hc
   go_wp2_with fail
   refine HC.out.mono ?_
   rintro e w_19 ⟨rfl, hb⟩
   clear HC
   clear z_9 z_10 z_11 z_12 z_13 z_14 z_15 z_16 z_17 z_18
   have hb_20 := Lib.hid hb
   clear hb
   replace ba_1 := kH ba_1 hb_20
   obtain ⟨z_21, z_22, z_23⟩ := at3 ba_1
   replace bb_2 := kH bb_2 hb_20
   obtain ⟨z_24, z_25, z_26⟩ := at3 bb_2
   replace bp_3 := kH bp_3 hb_20
   obtain ⟨z_27, z_28, z_29, z_30⟩ := at4 bp_3
   go_wp2
   go_ret
   replace bel_4 := bH bel_4 hb_20
   exact ⟨rfl, bel_4.out⟩
theorem chkP_rng {a b : Otl} {p : Prg} (h : chkP a b p = 0) : (3 ≤ a.c ∧ a.c ≤ 16) ∧ (3 ≤ b.c ∧ b.c ≤ 16) ∧ (0 ≤ p.af ∧ p.af < p.at2 ∧ p.at2 ≤ a.c) ∧ (0 ≤ p.bf ∧ p.bf < p.bt ∧ p.bt ≤ b.c) ∧ (∀ x ∈ b.ws, 0 ≤ x.f ∧ x.f ≤ 16 ∧ 0 ≤ x.t ∧ x.t ≤ 16) ∧ ∀ x ∈ b.ts, 0 ≤ x.f ∧ x.f ≤ 16 ∧ 0 ≤ x.t ∧ x.t ≤ 16 := by
 obtain ⟨oa, ob, sa, sb, -⟩ := chkP_ok h
 obtain ⟨a1, a2, -, -⟩ := chkO_ok oa
 obtain ⟨b1, b2, b3, b4⟩ := chkO_ok ob
 exact ⟨⟨a1, a2⟩, ⟨b1, b2⟩, sa, sb, chk_range b3 (by omega), chk_range b4 (by omega)⟩
theorem rjoint_any (u : Bool) (c : Int) (A B : Option Addr) (n k m j : Nat) (ws ts : List Bnd) (d : Int) (C D : Option Addr) (n2 k2 m2 j2 : Nat) (ws2 ts2 : List Bnd) (p1 p2 p3 p4 : Int) (w : World) (h1 : RdB w A n k ws) (h2 : RdB w B m j ts) (hn : n ≤ maxLen) (hm : m ≤ maxLen) (h3 : RdB w C n2 k2 ws2) (h4 : RdB w D m2 j2 ts2) (hn2 : n2 ≤ maxLen) (hm2 : m2 ≤ maxLen) (hq : chkP ⟨c, ws, ts⟩ ⟨d, ws2, ts2⟩ ⟨p1, p2, p3, p4⟩ = 0) :
 Calls Tryz.prog 75 #[.agg #[.int .i64 c, .slice A n k, .slice B m j], .agg #[.int .i64 d, .slice C n2 k2, .slice D m2 j2], .agg #[.int .i64 p1, .int .i64 p2, .int .i64 p3, .int .i64 p4], .bool u] w fun e w' => ∃ Ar nr kr, e = .returned (.agg #[.int .i64 (jP u ⟨c, ws, ts⟩ ⟨d, ws2, ts2⟩ ⟨p1, p2, p3, p4⟩), .slice Ar nr kr]) ∧ RdB w' Ar nr kr (jL u ⟨c, ws, ts⟩ ⟨d, ws2, ts2⟩ ⟨p1, p2, p3, p4⟩) ∧ Below w.heap.size w w' := by
 obtain ⟨g0, g1, g2, g3, r1, r2⟩ := chkP_rng hq
 obtain ⟨l1, l2, l3, l4⟩ := chkP_lens hq
 dsimp only at g0 g1 g2 g3 r1 r2 l1 l2 l3 l4
 cases u
 · exact rjoint_w c A B n k m j ws ts d C D n2 k2 m2 j2 ws2 ts2 p1 p2 p3 p4 w h1 h2 hn hm h3 h4 hn2 hm2 g0 g1 g2 g3 (by have := h1.len; omega) (by have := h3.len; omega) r1
 · exact rjoint_t c A B n k m j ws ts d C D n2 k2 m2 j2 ws2 ts2 p1 p2 p3 p4 w h1 h2 hn hm h3 h4 hn2 hm2 g0 g1 g2 g3 (by have := h2.len; omega) (by have := h4.len; omega) r2
theorem rdJ_len {u : Bool} {a b : Otl} {p : Prg} (h : chkP a b p = 0) {w : World} {A : Option Addr} {n k : Nat} (hr : RdB w A n k (jL u a b p)) : n ≤ 800 := by
 obtain ⟨l1, l2, l3, l4⟩ := chkP_lens h
 have := hr.len
 rw [jL_length] at this
 cases u <;> simp [oL] at this <;> omega
set_option maxRecDepth 100000 in
theorem Fit_e1 (u : Bool) (c : Int) (A B : Option Addr) (n k m j : Nat) (ws ts : List Bnd) (d : Int) (C D : Option Addr) (n2 k2 m2 j2 : Nat) (ws2 ts2 : List Bnd) (p1 p2 p3 p4 : Int) (w : World) (h1 : RdB w A n k ws) (h2 : RdB w B m j ts) (hn : n ≤ maxLen) (hm : m ≤ maxLen) (h3 : RdB w C n2 k2 ws2) (h4 : RdB w D m2 j2 ts2) (hn2 : n2 ≤ maxLen) (hm2 : m2 ≤ maxLen) (q : Int) (hq : (q != 0) = true) (E1 : Hid (chkP ⟨c, ws, ts⟩ ⟨d, ws2, ts2⟩ ⟨p1, p2, p3, p4⟩ = q)) : Calls Tryz.prog 27 #[.agg #[.int .i64 c, .slice A n k, .slice B m j], .agg #[.int .i64 d, .slice C n2 k2, .slice D m2 j2], .agg #[.int .i64 p1, .int .i64 p2, .int .i64 p3, .int .i64 p4], .bool u] w fun e w' => ∃ Ar nr kr, e = .returned (.tuple #[.agg #[.int .i64 (0), .slice Ar nr kr], .int .i64 q]) ∧ RdB w' Ar nr kr ([]) ∧ nr ≤ maxLen ∧ Below w.heap.size w w' := by
 go_enter Tryz.func27, Tryz.ntmps27
 have bel_1 := Lib.hid (show Below w.heap.size w w from Below.refl _ w)
 have ra_2 := Lib.hid (h1)
 clear h1
 have rb_3 := Lib.hid (h2)
 clear h2
 have rc_4 := Lib.hid (h3)
 clear h3
 have rd_5 := Lib.hid (h4)
 clear h4
 obtain ⟨o_, ho_⟩ : ∃ o, o = ((.cells #[.int .i64 c, .slice A n k, .slice B m j] 24) : Obj) := ⟨_, rfl⟩
 replace bel_1 := bA bel_1 o_
 replace ra_2 := rA ra_2 o_
 replace rb_3 := rA rb_3 o_
 replace rc_4 := rA rc_4 o_
 replace rd_5 := rA rd_5 o_
 subst ho_
 have ba_6 := Lib.hid (Blk.new w 24 #[.int .i64 c, .slice A n k, .slice B m j])
 obtain ⟨o_, ho_⟩ : ∃ o, o = ((.cells #[.int .i64 d, .slice C n2 k2, .slice D m2 j2] 24) : Obj) := ⟨_, rfl⟩
 replace bel_1 := bA bel_1 o_
 replace ra_2 := rA ra_2 o_
 replace rb_3 := rA rb_3 o_
 replace rc_4 := rA rc_4 o_
 replace rd_5 := rA rd_5 o_
 replace ba_6 := kA ba_6 o_
 subst ho_
 have nb_ := Blk.new (w.alloc (.cells #[.int .i64 c, .slice A n k, .slice B m j] 24)) 24 #[.int .i64 d, .slice C n2 k2, .slice D m2 j2]
 simp only [World.size_alloc] at nb_
 have bb_7 := Lib.hid nb_; clear nb_
 obtain ⟨o_, ho_⟩ : ∃ o, o = ((.cells #[.int .i64 p1, .int .i64 p2, .int .i64 p3, .int .i64 p4] 28) : Obj) := ⟨_, rfl⟩
 replace bel_1 := bA bel_1 o_
 replace ra_2 := rA ra_2 o_
 replace rb_3 := rA rb_3 o_
 replace rc_4 := rA rc_4 o_
 replace rd_5 := rA rd_5 o_
 replace ba_6 := kA ba_6 o_
 replace bb_7 := kA bb_7 o_
 subst ho_
 have nb_ := Blk.new ((w.alloc (.cells #[.int .i64 c, .slice A n k, .slice B m j] 24)).alloc (.cells #[.int .i64 d, .slice C n2 k2, .slice D m2 j2] 24)) 28 #[.int .i64 p1, .int .i64 p2, .int .i64 p3, .int .i64 p4]
 simp only [World.size_alloc] at nb_
 have bp_8 := Lib.hid nb_; clear nb_
 obtain ⟨o_, ho_⟩ : ∃ o, o = ((.cells #[.int .i64 0, .slice none 0 0] 46) : Obj) := ⟨_, rfl⟩
 replace bel_1 := bA bel_1 o_
 replace ra_2 := rA ra_2 o_
 replace rb_3 := rA rb_3 o_
 replace rc_4 := rA rc_4 o_
 replace rd_5 := rA rd_5 o_
 replace ba_6 := kA ba_6 o_
 replace bb_7 := kA bb_7 o_
 replace bp_8 := kA bp_8 o_
 subst ho_
 have nb_ := Blk.new (((w.alloc (.cells #[.int .i64 c, .slice A n k, .slice B m j] 24)).alloc (.cells #[.int .i64 d, .slice C n2 k2, .slice D m2 j2] 24)).alloc (.cells #[.int .i64 p1, .int .i64 p2, .int .i64 p3, .int .i64 p4] 28)) 46 #[.int .i64 0, .slice none 0 0]
 simp only [World.size_alloc] at nb_
 have bz_9 := Lib.hid nb_; clear nb_
 obtain ⟨z_10, z_11, z_12⟩ := at3 ba_6
 obtain ⟨z_13, z_14, z_15⟩ := at3 bb_7
 obtain ⟨z_16, z_17, z_18, z_19⟩ := at4 bp_8
 obtain ⟨z_20, z_21⟩ := at2 bz_9
 have hc := CheckPairing_any c A B n k m j ws ts d C D n2 k2 m2 j2 ws2 ts2 p1 p2 p3 p4 _ ra_2.out rb_3.out hn hm rc_4.out rd_5.out hn2 hm2
 rw [E1.out] at hc
 try dsimp only at hc
 have HC := Lib.hid hc; clear hc
 go_wp2_with fail
 refine HC.out.mono ?_
 rintro e w_22 ⟨rfl, hb⟩
 clear HC
 clear z_10 z_11 z_12 z_13 z_14 z_15 z_16 z_17 z_18 z_19 z_20 z_21
 have hb_23 := Lib.hid hb
 clear hb
 replace ba_6 := kH ba_6 hb_23
 obtain ⟨z_24, z_25, z_26⟩ := at3 ba_6
 replace bb_7 := kH bb_7 hb_23
 obtain ⟨z_27, z_28, z_29⟩ := at3 bb_7
 replace bp_8 := kH bp_8 hb_23
 obtain ⟨z_30, z_31, z_32, z_33⟩ := at4 bp_8
 replace bz_9 := kH bz_9 hb_23
 obtain ⟨z_34, z_35⟩ := at2 bz_9
 have fz_36 : (w_22).frozen? ⟨w.heap.size + 1 + 1 + 1, 0, none⟩ = false := Blk.frozen bz_9.out 0
 have fz_37 : (w_22).frozen? ⟨w.heap.size + 1 + 1 + 1, 1, none⟩ = false := Blk.frozen bz_9.out 1
 replace bel_1 := bH bel_1 hb_23
 have hlb_ := Blk.lt bz_9.out
 have HK := Lib.hid (bel_1.out)
 go_wp2
 have bel_ := HK.out
 refine bodyPost_ret (v := .tuple #[.agg #[.int .i64 0, .slice none 0 0], .int .i64 q]) (by simp [results, Tryz.results27, go_sem, z_24, z_25, z_26, z_27, z_28, z_29, z_30, z_31, z_32, z_33, z_34, z_35, fz_36, fz_37]) rfl ?_
 exact ⟨none, 0, 0, rfl, RdB.nil_ _, by unfold maxLen; omega, (by have hsz_ := Below.size bel_; repeat' (first | with_reducible exact bel_ | with_reducible exact Below.refl _ _ | with_reducible refine Below.alloc ?_ ?_ _ | with_reducible refine Below.setCell ?_ ?_ _ | with_reducible refine Below.drew ?_ | with_reducible refine below_setRow ?_ ?_ _ | omega | (simp; done) | (simp; omega)))⟩
set_option maxRecDepth 100000 in
theorem Fit_e2 (u : Bool) (c : Int) (A B : Option Addr) (n k m j : Nat) (ws ts : List Bnd) (d : Int) (C D : Option Addr) (n2 k2 m2 j2 : Nat) (ws2 ts2 : List Bnd) (p1 p2 p3 p4 : Int) (w : World) (h1 : RdB w A n k ws) (h2 : RdB w B m j ts) (hn : n ≤ maxLen) (hm : m ≤ maxLen) (h3 : RdB w C n2 k2 ws2) (h4 : RdB w D m2 j2 ts2) (hn2 : n2 ≤ maxLen) (hm2 : m2 ≤ maxLen) (E1 : Hid (chkP ⟨c, ws, ts⟩ ⟨d, ws2, ts2⟩ ⟨p1, p2, p3, p4⟩ = 0)) (q : Int) (hq : (q != 0) = true) (E2 : Hid (chk (jP u ⟨c, ws, ts⟩ ⟨d, ws2, ts2⟩ ⟨p1, p2, p3, p4⟩) (jL u ⟨c, ws, ts⟩ ⟨d, ws2, ts2⟩ ⟨p1, p2, p3, p4⟩) = q)) : Calls Tryz.prog 27 #[.agg #[.int .i64 c, .slice A n k, .slice B m j], .agg #[.int .i64 d, .slice C n2 k2, .slice D m2 j2], .agg #[.int .i64 p1, .int .i64 p2, .int .i64 p3, .int .i64 p4], .bool u] w fun e w' => ∃ Ar nr kr, e = .returned (.tuple #[.agg #[.int .i64 (0), .slice Ar nr kr], .int .i64 q]) ∧ RdB w' Ar nr kr ([]) ∧ nr ≤ maxLen ∧ Below w.heap.size w w' := by
 go_enter Tryz.func27, Tryz.ntmps27
 have bel_1 := Lib.hid (show Below w.heap.size w w from Below.refl _ w)
 have ra_2 := Lib.hid (h1)
 clear h1
 have rb_3 := Lib.hid (h2)
 clear h2
 have rc_4 := Lib.hid (h3)
 clear h3
 have rd_5 := Lib.hid (h4)
 clear h4
 obtain ⟨o_, ho_⟩ : ∃ o, o = ((.cells #[.int .i64 c, .slice A n k, .slice B m j] 24) : Obj) := ⟨_, rfl⟩
 replace bel_1 := bA bel_1 o_
 replace ra_2 := rA ra_2 o_
 replace rb_3 := rA rb_3 o_
 replace rc_4 := rA rc_4 o_
 replace rd_5 := rA rd_5 o_
 subst ho_
 have ba_6 := Lib.hid (Blk.new w 24 #[.int .i64 c, .slice A n k, .slice B m j])
 obtain ⟨o_, ho_⟩ : ∃ o, o = ((.cells #[.int .i64 d, .slice C n2 k2, .slice D m2 j2] 24) : Obj) := ⟨_, rfl⟩
 replace bel_1 := bA bel_1 o_
 replace ra_2 := rA ra_2 o_
 replace rb_3 := rA rb_3 o_
 replace rc_4 := rA rc_4 o_
 replace rd_5 := rA rd_5 o_
 replace ba_6 := kA ba_6 o_
 subst ho_
 have nb_ := Blk.new (w.alloc (.cells #[.int .i64 c, .slice A n k, .slice B m j] 24)) 24 #[.int .i64 d, .slice C n2 k2, .slice D m2 j2]
 simp only [World.size_alloc] at nb_
 have bb_7 := Lib.hid nb_; clear nb_
 obtain ⟨o_, ho_⟩ : ∃ o, o = ((.cells #[.int .i64 p1, .int .i64 p2, .int .i64 p3, .int .i64 p4] 28) : Obj) := ⟨_, rfl⟩
 replace bel_1 := bA bel_1 o_
 replace ra_2 := rA ra_2 o_
 replace rb_3 := rA rb_3 o_
 replace rc_4 := rA rc_4 o_
 replace rd_5 := rA rd_5 o_
 replace ba_6 := kA ba_6 o_
 replace bb_7 := kA bb_7 o_
 subst ho_
 have nb_ := Blk.new ((w.alloc (.cells #[.int .i64 c, .slice A n k, .slice B m j] 24)).alloc (.cells #[.int .i64 d, .slice C n2 k2, .slice D m2 j2] 24)) 28 #[.int .i64 p1, .int .i64 p2, .int .i64 p3, .int .i64 p4]
 simp only [World.size_alloc] at nb_
 have bp_8 := Lib.hid nb_; clear nb_
 obtain ⟨o_, ho_⟩ : ∃ o, o = ((.cells #[.int .i64 0, .slice none 0 0] 46) : Obj) := ⟨_, rfl⟩
 replace bel_1 := bA bel_1 o_
 replace ra_2 := rA ra_2 o_
 replace rb_3 := rA rb_3 o_
 replace rc_4 := rA rc_4 o_
 replace rd_5 := rA rd_5 o_
 replace ba_6 := kA ba_6 o_
 replace bb_7 := kA bb_7 o_
 replace bp_8 := kA bp_8 o_
 subst ho_
 have nb_ := Blk.new (((w.alloc (.cells #[.int .i64 c, .slice A n k, .slice B m j] 24)).alloc (.cells #[.int .i64 d, .slice C n2 k2, .slice D m2 j2] 24)).alloc (.cells #[.int .i64 p1, .int .i64 p2, .int .i64 p3, .int .i64 p4] 28)) 46 #[.int .i64 0, .slice none 0 0]
 simp only [World.size_alloc] at nb_
 have bz_9 := Lib.hid nb_; clear nb_
 obtain ⟨z_10, z_11, z_12⟩ := at3 ba_6
 obtain ⟨z_13, z_14, z_15⟩ := at3 bb_7
 obtain ⟨z_16, z_17, z_18, z_19⟩ := at4 bp_8
 obtain ⟨z_20, z_21⟩ := at2 bz_9
 have hc := CheckPairing_any c A B n k m j ws ts d C D n2 k2 m2 j2 ws2 ts2 p1 p2 p3 p4 _ ra_2.out rb_3.out hn hm rc_4.out rd_5.out hn2 hm2
 rw [E1.out] at hc
 try dsimp only at hc
 have HC := Lib.hid hc; clear hc
 go_wp2_with fail
 refine HC.out.mono ?_
 rintro e w_22 ⟨rfl, hb⟩
 clear HC
 clear z_10 z_11 z_12 z_13 z_14 z_15 z_16 z_17 z_18 z_19 z_20 z_21
 have hb_23 := Lib.hid hb
 clear hb
 replace ba_6 := kH ba_6 hb_23
 obtain ⟨z_24, z_25, z_26⟩ := at3 ba_6
 replace bb_7 := kH bb_7 hb_23
 obtain ⟨z_27, z_28, z_29⟩ := at3 bb_7
 replace bp_8 := kH bp_8 hb_23
 obtain ⟨z_30, z_31, z_32, z_33⟩ := at4 bp_8
 replace bz_9 := kH bz_9 hb_23
 obtain ⟨z_34, z_35⟩ := at2 bz_9
 replace ra_2 := rH ra_2 hb_23
 replace rb_3 := rH rb_3 hb_23
 replace rc_4 := rH rc_4 hb_23
 replace rd_5 := rH rd_5 hb_23
 have hc := joint_q u c A B n k m j ws ts d C D n2 k2 m2 j2 ws2 ts2 p1 p2 p3 p4 _ ra_2.out rb_3.out hn hm rc_4.out rd_5.out hn2 hm2 E1.out
 have HC := Lib.hid hc; clear hc
 go_wp2_with fail
 refine HC.out.mono ?_
 rintro e w_36 ⟨Ar, nr, kr, rfl, hrd, hb⟩
 clear HC
 clear z_24 z_25 z_26 z_27 z_28 z_29 z_30 z_31 z_32 z_33 z_34 z_35
 have hb_37 := Lib.hid hb
 clear hb
 have rl_38 := Lib.hid (hrd)
 clear hrd
 have hnr_ := rdJ_len E1.out rl_38.out
 have hnl_ := rl_38.out.len
 replace ba_6 := kH ba_6 hb_37
 obtain ⟨z_39, z_40, z_41⟩ := at3 ba_6
 replace bb_7 := kH bb_7 hb_37
 obtain ⟨z_42, z_43, z_44⟩ := at3 bb_7
 replace bp_8 := kH bp_8 hb_37
 obtain ⟨z_45, z_46, z_47, z_48⟩ := at4 bp_8
 replace bz_9 := kH bz_9 hb_37
 obtain ⟨z_49, z_50⟩ := at2 bz_9
 obtain ⟨o_, ho_⟩ : ∃ o, o = ((.cells #[.int .i64 (jP u ⟨c, ws, ts⟩ ⟨d, ws2, ts2⟩ ⟨p1, p2, p3, p4⟩), .slice Ar nr kr] 46) : Obj) := ⟨_, rfl⟩
 replace bel_1 := bA (bH (bH bel_1 hb_23) hb_37) o_
 replace ra_2 := rA (rH ra_2 hb_37) o_
 replace rb_3 := rA (rH rb_3 hb_37) o_
 replace rc_4 := rA (rH rc_4 hb_37) o_
 replace rd_5 := rA (rH rd_5 hb_37) o_
 replace ba_6 := kA ba_6 o_
 replace bb_7 := kA bb_7 o_
 replace bp_8 := kA bp_8 o_
 replace bz_9 := kA bz_9 o_
 replace rl_38 := rA rl_38 o_
 subst ho_
 have bs_51 := Lib.hid (Blk.new w_36 46 #[.int .i64 (jP u ⟨c, ws, ts⟩ ⟨d, ws2, ts2⟩ ⟨p1, p2, p3, p4⟩), .slice Ar nr kr])
 obtain ⟨z_52, z_53, z_54⟩ := at3 ba_6
 obtain ⟨z_55, z_56, z_57⟩ := at3 bb_7
 obtain ⟨z_58, z_59, z_60, z_61⟩ := at4 bp_8
 obtain ⟨z_62, z_63⟩ := at2 bz_9
 obtain ⟨z_64, z_65⟩ := at2 bs_51
 clear hnl_
 have hc := checkSystem_any (jP u ⟨c, ws, ts⟩ ⟨d, ws2, ts2⟩ ⟨p1, p2, p3, p4⟩) Ar nr kr (jL u ⟨c, ws, ts⟩ ⟨d, ws2, ts2⟩ ⟨p1, p2, p3, p4⟩) _ rl_38.out (by unfold maxLen; omega)
 rw [E2.out] at hc
 try dsimp only at hc
 have HC := Lib.hid hc; clear hc
 go_wp2_with fail
 refine HC.out.mono ?_
 rintro e w_66 ⟨rfl, hb⟩
 clear HC
 clear z_39 z_40 z_41 z_42 z_43 z_44 z_45 z_46 z_47 z_48 z_49 z_50 z_52 z_53 z_54 z_55 z_56 z_57 z_58 z_59 z_60 z_61 z_62 z_63 z_64 z_65
 have hb_67 := Lib.hid hb
 clear hb
 replace ba_6 := kH ba_6 hb_67
 obtain ⟨z_68, z_69, z_70⟩ := at3 ba_6
 replace bb_7 := kH bb_7 hb_67
 obtain ⟨z_71, z_72, z_73⟩ := at3 bb_7
 replace bp_8 := kH bp_8 hb_67
 obtain ⟨z_74, z_75, z_76, z_77⟩ := at4 bp_8
 replace bz_9 := kH bz_9 hb_67
 obtain ⟨z_78, z_79⟩ := at2 bz_9
 replace bs_51 := kH bs_51 hb_67
 obtain ⟨z_80, z_81⟩ := at2 bs_51
 have fz_82 : (w_66).frozen? ⟨w.heap.size + 1 + 1 + 1, 0, none⟩ = false := Blk.frozen bz_9.out 0
 have fz_83 : (w_66).frozen? ⟨w.heap.size + 1 + 1 + 1, 1, none⟩ = false := Blk.frozen bz_9.out 1
 replace bel_1 := bH bel_1 hb_67
 have hlb_ := Blk.lt bz_9.out
 have HK := Lib.hid (bel_1.out)
 go_wp2
 have bel_ := HK.out
 refine bodyPost_ret (v := .tuple #[.agg #[.int .i64 0, .slice none 0 0], .int .i64 q]) (by simp [results, Tryz.results27, go_sem, z_68, z_69, z_70, z_71, z_72, z_73, z_74, z_75, z_76, z_77, z_78, z_79, z_80, z_81, fz_82, fz_83]) rfl ?_
 exact ⟨none, 0, 0, rfl, RdB.nil_ _, by unfold maxLen; omega, (by have hsz_ := Below.size bel_; repeat' (first | with_reducible exact bel_ | with_reducible exact Below.refl _ _ | with_reducible refine Below.alloc ?_ ?_ _ | with_reducible refine Below.setCell ?_ ?_ _ | with_reducible refine Below.drew ?_ | with_reducible refine below_setRow ?_ ?_ _ | omega | (simp; done) | (simp; omega)))⟩
set_option maxRecDepth 100000 in
theorem Fit_ok (u : Bool) (c : Int) (A B : Option Addr) (n k m j : Nat) (ws ts : List Bnd) (d : Int) (C D : Option Addr) (n2 k2 m2 j2 : Nat) (ws2 ts2 : List Bnd) (p1 p2 p3 p4 : Int) (w : World) (h1 : RdB w A n k ws) (h2 : RdB w B m j ts) (hn : n ≤ maxLen) (hm : m ≤ maxLen) (h3 : RdB w C n2 k2 ws2) (h4 : RdB w D m2 j2 ts2) (hn2 : n2 ≤ maxLen) (hm2 : m2 ≤ maxLen) (E1 : Hid (chkP ⟨c, ws, ts⟩ ⟨d, ws2, ts2⟩ ⟨p1, p2, p3, p4⟩ = 0)) (E2 : Hid (chk (jP u ⟨c, ws, ts⟩ ⟨d, ws2, ts2⟩ ⟨p1, p2, p3, p4⟩) (jL u ⟨c, ws, ts⟩ ⟨d, ws2, ts2⟩ ⟨p1, p2, p3, p4⟩) = 0)) : Calls Tryz.prog 27 #[.agg #[.int .i64 c, .slice A n k, .slice B m j], .agg #[.int .i64 d, .slice C n2 k2, .slice D m2 j2], .agg #[.int .i64 p1, .int .i64 p2, .int .i64 p3, .int .i64 p4], .bool u] w fun e w' => ∃ Ar nr kr, e = .returned (.tuple #[.agg #[.int .i64 (jP u ⟨c, ws, ts⟩ ⟨d, ws2, ts2⟩ ⟨p1, p2, p3, p4⟩), .slice Ar nr kr], .int .i64 0]) ∧ RdB w' Ar nr kr (jL u ⟨c, ws, ts⟩ ⟨d, ws2, ts2⟩ ⟨p1, p2, p3, p4⟩) ∧ nr ≤ maxLen ∧ Below w.heap.size w w' := by
 go_enter Tryz.func27, Tryz.ntmps27
 have bel_1 := Lib.hid (show Below w.heap.size w w from Below.refl _ w)
 have ra_2 := Lib.hid (h1)
 clear h1
 have rb_3 := Lib.hid (h2)
 clear h2
 have rc_4 := Lib.hid (h3)
 clear h3
 have rd_5 := Lib.hid (h4)
 clear h4
 obtain ⟨o_, ho_⟩ : ∃ o, o = ((.cells #[.int .i64 c, .slice A n k, .slice B m j] 24) : Obj) := ⟨_, rfl⟩
 replace bel_1 := bA bel_1 o_
 replace ra_2 := rA ra_2 o_
 replace rb_3 := rA rb_3 o_
 replace rc_4 := rA rc_4 o_
 replace rd_5 := rA rd_5 o_
 subst ho_
 have ba_6 := Lib.hid (Blk.new w 24 #[.int .i64 c, .slice A n k, .slice B m j])
 obtain ⟨o_, ho_⟩ : ∃ o, o = ((.cells #[.int .i64 d, .slice C n2 k2, .slice D m2 j2] 24) : Obj) := ⟨_, rfl⟩
 replace bel_1 := bA bel_1 o_
 replace ra_2 := rA ra_2 o_
 replace rb_3 := rA rb_3 o_
 replace rc_4 := rA rc_4 o_
 replace rd_5 := rA rd_5 o_
 replace ba_6 := kA ba_6 o_
 subst ho_
 have nb_ := Blk.new (w.alloc (.cells #[.int .i64 c, .slice A n k, .slice B m j] 24)) 24 #[.int .i64 d, .slice C n2 k2, .slice D m2 j2]
 simp only [World.size_alloc] at nb_
 have bb_7 := Lib.hid nb_; clear nb_
 obtain ⟨o_, ho_⟩ : ∃ o, o = ((.cells #[.int .i64 p1, .int .i64 p2, .int .i64 p3, .int .i64 p4] 28) : Obj) := ⟨_, rfl⟩
 replace bel_1 := bA bel_1 o_
 replace ra_2 := rA ra_2 o_
 replace rb_3 := rA rb_3 o_
 replace rc_4 := rA rc_4 o_
 replace rd_5 := rA rd_5 o_
 replace ba_6 := kA ba_6 o_
 replace bb_7 := kA bb_7 o_
 subst ho_
 have nb_ := Blk.new ((w.alloc (.cells #[.int .i64 c, .slice A n k, .slice B m j] 24)).alloc (.cells #[.int .i64 d, .slice C n2 k2, .slice D m2 j2] 24)) 28 #[.int .i64 p1, .int .i64 p2, .int .i64 p3, .int .i64 p4]
 simp only [World.size_alloc] at nb_
 have bp_8 := Lib.hid nb_; clear nb_
 obtain ⟨o_, ho_⟩ : ∃ o, o = ((.cells #[.int .i64 0, .slice none 0 0] 46) : Obj) := ⟨_, rfl⟩
 replace bel_1 := bA bel_1 o_
 replace ra_2 := rA ra_2 o_
 replace rb_3 := rA rb_3 o_
 replace rc_4 := rA rc_4 o_
 replace rd_5 := rA rd_5 o_
 replace ba_6 := kA ba_6 o_
 replace bb_7 := kA bb_7 o_
 replace bp_8 := kA bp_8 o_
 subst ho_
 have nb_ := Blk.new (((w.alloc (.cells #[.int .i64 c, .slice A n k, .slice B m j] 24)).alloc (.cells #[.int .i64 d, .slice C n2 k2, .slice D m2 j2] 24)).alloc (.cells #[.int .i64 p1, .int .i64 p2, .int .i64 p3, .int .i64 p4] 28)) 46 #[.int .i64 0, .slice none 0 0]
 simp only [World.size_alloc] at nb_
 have bz_9 := Lib.hid nb_; clear nb_
 obtain ⟨z_10, z_11, z_12⟩ := at3 ba_6
 obtain ⟨z_13, z_14, z_15⟩ := at3 bb_7
 obtain ⟨z_16, z_17, z_18, z_19⟩ := at4 bp_8
 obtain ⟨z_20, z_21⟩ := at2 bz_9
 have hc := CheckPairing_any c A B n k m j ws ts d C D n2 k2 m2 j2 ws2 ts2 p1 p2 p3 p4 _ ra_2.out rb_3.out hn hm rc_4.out rd_5.out hn2 hm2
 rw [E1.out] at hc
 try dsimp only at hc
 have HC := Lib.hid hc; clear hc
 go_wp2_with fail
 refine HC.out.mono ?_
 rintro e w_22 ⟨rfl, hb⟩
 clear HC
 clear z_10 z_11 z_12 z_13 z_14 z_15 z_16 z_17 z_18 z_19 z_20 z_21
 have hb_23 := Lib.hid hb
 clear hb
 replace ba_6 := kH ba_6 hb_23
 obtain ⟨z_24, z_25, z_26⟩ := at3 ba_6
 replace bb_7 := kH bb_7 hb_23
 obtain ⟨z_27, z_28, z_29⟩ := at3 bb_7
 replace bp_8 := kH bp_8 hb_23
 obtain ⟨z_30, z_31, z_32, z_33⟩ := at4 bp_8
 replace bz_9 := kH bz_9 hb_23
 obtain ⟨z_34, z_35⟩ := at2 bz_9
 replace ra_2 := rH ra_2 hb_23
 replace rb_3 := rH rb_3 hb_23
 replace rc_4 := rH rc_4 hb_23
 replace rd_5 := rH rd_5 hb_23
 have hc := joint_q u c A B n k m j ws ts d C D n2 k2 m2 j2 ws2 ts2 p1 p2 p3 p4 _ ra_2.out rb_3.out hn hm rc_4.out rd_5.out hn2 hm2 E1.out
 have HC := Lib.hid hc; clear hc
 go_wp2_with fail
 refine HC.out.mono ?_
 rintro e w_36 ⟨Ar, nr, kr, rfl, hrd, hb⟩
 clear HC
 clear z_24 z_25 z_26 z_27 z_28 z_29 z_30 z_31 z_32 z_33 z_34 z_35
 have hb_37 := Lib.hid hb
 clear hb
 have rl_38 := Lib.hid (hrd)
 clear hrd
 have hnr_ := rdJ_len E1.out rl_38.out
 have hnl_ := rl_38.out.len
 replace ba_6 := kH ba_6 hb_37
 obtain ⟨z_39, z_40, z_41⟩ := at3 ba_6
 replace bb_7 := kH bb_7 hb_37
 obtain ⟨z_42, z_43, z_44⟩ := at3 bb_7
 replace bp_8 := kH bp_8 hb_37
 obtain ⟨z_45, z_46, z_47, z_48⟩ := at4 bp_8
 replace bz_9 := kH bz_9 hb_37
 obtain ⟨z_49, z_50⟩ := at2 bz_9
 obtain ⟨o_, ho_⟩ : ∃ o, o = ((.cells #[.int .i64 (jP u ⟨c, ws, ts⟩ ⟨d, ws2, ts2⟩ ⟨p1, p2, p3, p4⟩), .slice Ar nr kr] 46) : Obj) := ⟨_, rfl⟩
 replace bel_1 := bA (bH (bH bel_1 hb_23) hb_37) o_
 replace ra_2 := rA (rH ra_2 hb_37) o_
 replace rb_3 := rA (rH rb_3 hb_37) o_
 replace rc_4 := rA (rH rc_4 hb_37) o_
 replace rd_5 := rA (rH rd_5 hb_37) o_
 replace ba_6 := kA ba_6 o_
 replace bb_7 := kA bb_7 o_
 replace bp_8 := kA bp_8 o_
 replace bz_9 := kA bz_9 o_
 replace rl_38 := rA rl_38 o_
 subst ho_
 have bs_51 := Lib.hid (Blk.new w_36 46 #[.int .i64 (jP u ⟨c, ws, ts⟩ ⟨d, ws2, ts2⟩ ⟨p1, p2, p3, p4⟩), .slice Ar nr kr])
 obtain ⟨z_52, z_53, z_54⟩ := at3 ba_6
 obtain ⟨z_55, z_56, z_57⟩ := at3 bb_7
 obtain ⟨z_58, z_59, z_60, z_61⟩ := at4 bp_8
 obtain ⟨z_62, z_63⟩ := at2 bz_9
 obtain ⟨z_64, z_65⟩ := at2 bs_51
 clear hnl_
 have hc := checkSystem_any (jP u ⟨c, ws, ts⟩ ⟨d, ws2, ts2⟩ ⟨p1, p2, p3, p4⟩) Ar nr kr (jL u ⟨c, ws, ts⟩ ⟨d, ws2, ts2⟩ ⟨p1, p2, p3, p4⟩) _ rl_38.out (by unfold maxLen; omega)
 rw [E2.out] at hc
 try dsimp only at hc
 have HC := Lib.hid hc; clear hc
 go_wp2_with fail
 refine HC.out.mono ?_
 rintro e w_66 ⟨rfl, hb⟩
 clear HC
 clear z_39 z_40 z_41 z_42 z_43 z_44 z_45 z_46 z_47 z_48 z_49 z_50 z_52 z_53 z_54 z_55 z_56 z_57 z_58 z_59 z_60 z_61 z_62 z_63 z_64 z_65
 have hb_67 := Lib.hid hb
 clear hb
 replace ba_6 := kH ba_6 hb_67
 obtain ⟨z_68, z_69, z_70⟩ := at3 ba_6
 replace bb_7 := kH bb_7 hb_67
 obtain ⟨z_71, z_72, z_73⟩ := at3 bb_7
 replace bp_8 := kH bp_8 hb_67
 obtain ⟨z_74, z_75, z_76, z_77⟩ := at4 bp_8
 replace bz_9 := kH bz_9 hb_67
 obtain ⟨z_78, z_79⟩ := at2 bz_9
 replace bs_51 := kH bs_51 hb_67
 obtain ⟨z_80, z_81⟩ := at2 bs_51
 have fz_82 : (w_66).frozen? ⟨w.heap.size + 1 + 1 + 1, 0, none⟩ = false := Blk.frozen bz_9.out 0
 have fz_83 : (w_66).frozen? ⟨w.heap.size + 1 + 1 + 1, 1, none⟩ = false := Blk.frozen bz_9.out 1
 replace bel_1 := bH bel_1 hb_67
 replace rl_38 := rH rl_38 hb_67
 have hlb_ := Blk.lt bz_9.out; have bz_ := bz_9.out; have bel_ := bel_1.out; have rl_ := rl_38.out
 have HK := Lib.hid (And.intro bz_ (And.intro bel_ rl_)); clear bz_ bel_ rl_
 go_wp2
 obtain ⟨bz_, bel_, rl_⟩ := HK.out
 refine bodyPost_ret (v := .tuple #[.agg #[.int .i64 (jP u ⟨c, ws, ts⟩ ⟨d, ws2, ts2⟩ ⟨p1, p2, p3, p4⟩), .slice Ar nr kr], .int .i64 0]) (by simp [results, Tryz.results27, go_sem, z_68, z_69, z_70, z_71, z_72, z_73, z_74, z_75, z_76, z_77, z_78, z_79, z_80, z_81, fz_82, fz_83]) rfl ?_
 exact ⟨Ar, nr, kr, rfl, rdB_set2 rl_ ⟨w.heap.size + 1 + 1 + 1, 0, none⟩ ⟨w.heap.size + 1 + 1 + 1, 1, none⟩ (.int .i64 (jP u ⟨c, ws, ts⟩ ⟨d, ws2, ts2⟩ ⟨p1, p2, p3, p4⟩)) (.slice Ar nr kr) bz_ rfl, by unfold maxLen; omega, (by have hsz_ := Below.size bel_; repeat' (first | with_reducible exact bel_ | with_reducible exact Below.refl _ _ | with_reducible refine Below.alloc ?_ ?_ _ | with_reducible refine Below.setCell ?_ ?_ _ | with_reducible refine Below.drew ?_ | with_reducible refine below_setRow ?_ ?_ _ | omega | (simp; done) | (simp; omega)))⟩
theorem Fit_any (u : Bool) (c : Int) (A B : Option Addr) (n k m j : Nat) (ws ts : List Bnd) (d : Int) (C D : Option Addr) (n2 k2 m2 j2 : Nat) (ws2 ts2 : List Bnd) (p1 p2 p3 p4 : Int) (w : World) (h1 : RdB w A n k ws) (h2 : RdB w B m j ts) (hn : n ≤ maxLen) (hm : m ≤ maxLen) (h3 : RdB w C n2 k2 ws2) (h4 : RdB w D m2 j2 ts2) (hn2 : n2 ≤ maxLen) (hm2 : m2 ≤ maxLen) : Calls Tryz.prog 27 #[.agg #[.int .i64 c, .slice A n k, .slice B m j], .agg #[.int .i64 d, .slice C n2 k2, .slice D m2 j2], .agg #[.int .i64 p1, .int .i64 p2, .int .i64 p3, .int .i64 p4], .bool u] w fun e w' => ∃ Ar nr kr, e = .returned (.tuple #[.agg #[.int .i64 (if fitE u ⟨c, ws, ts⟩ ⟨d, ws2, ts2⟩ ⟨p1, p2, p3, p4⟩ = 0 then jP u ⟨c, ws, ts⟩ ⟨d, ws2, ts2⟩ ⟨p1, p2, p3, p4⟩ else 0), .slice Ar nr kr], .int .i64 (fitE u ⟨c, ws, ts⟩ ⟨d, ws2, ts2⟩ ⟨p1, p2, p3, p4⟩)]) ∧ RdB w' Ar nr kr (if fitE u ⟨c, ws, ts⟩ ⟨d, ws2, ts2⟩ ⟨p1, p2, p3, p4⟩ = 0 then jL u ⟨c, ws, ts⟩ ⟨d, ws2, ts2⟩ ⟨p1, p2, p3, p4⟩ else []) ∧ nr ≤ maxLen ∧ Below w.heap.size w w' := by
 by_cases h0 : chkP ⟨c, ws, ts⟩ ⟨d, ws2, ts2⟩ ⟨p1, p2, p3, p4⟩ = 0
 · by_cases hl : 400 < (jL u ⟨c, ws, ts⟩ ⟨d, ws2, ts2⟩ ⟨p1, p2, p3, p4⟩).length
   · have e : fitE u ⟨c, ws, ts⟩ ⟨d, ws2, ts2⟩ ⟨p1, p2, p3, p4⟩ = 2 := by unfold fitE; rw [if_neg (by simpa using h0), fit_same u h0, if_pos hl]
     rw [e, if_neg (by decide), if_neg (by decide)]
     exact Fit_e2 u c A B n k m j ws ts d C D n2 k2 m2 j2 ws2 ts2 p1 p2 p3 p4 w h1 h2 hn hm h3 h4 hn2 hm2 (Lib.hid h0) 2 (by simp) (Lib.hid (by rw [fit_same u h0, if_pos hl]))
   · have e : fitE u ⟨c, ws, ts⟩ ⟨d, ws2, ts2⟩ ⟨p1, p2, p3, p4⟩ = 0 := by unfold fitE; rw [if_neg (by simpa using h0), fit_same u h0, if_neg hl]
     rw [e, if_pos rfl, if_pos rfl]
     exact Fit_ok u c A B n k m j ws ts d C D n2 k2 m2 j2 ws2 ts2 p1 p2 p3 p4 w h1 h2 hn hm h3 h4 hn2 hm2 (Lib.hid h0) (Lib.hid (by rw [fit_same u h0, if_neg hl]))
 · have e : fitE u ⟨c, ws, ts⟩ ⟨d, ws2, ts2⟩ ⟨p1, p2, p3, p4⟩ = chkP ⟨c, ws, ts⟩ ⟨d, ws2, ts2⟩ ⟨p1, p2, p3, p4⟩ := by unfold fitE; rw [if_pos h0]
   rw [e, if_neg h0, if_neg h0]
   exact Fit_e1 u c A B n k m j ws ts d C D n2 k2 m2 j2 ws2 ts2 p1 p2 p3 p4 w h1 h2 hn hm h3 h4 hn2 hm2 _ (by simpa using h0) (Lib.hid rfl)
set_option maxRecDepth 100000 in
theorem rFit_e1 (u : Bool) (c : Int) (A B : Option Addr) (n k m j : Nat) (ws ts : List Bnd) (d : Int) (C D : Option Addr) (n2 k2 m2 j2 : Nat) (ws2 ts2 : List Bnd) (p1 p2 p3 p4 : Int) (w : World) (h1 : RdB w A n k ws) (h2 : RdB w B m j ts) (hn : n ≤ maxLen) (hm : m ≤ maxLen) (h3 : RdB w C n2 k2 ws2) (h4 : RdB w D m2 j2 ts2) (hn2 : n2 ≤ maxLen) (hm2 : m2 ≤ maxLen) (q : Int) (hq : (q != 0) = true) (E1 : Hid (chkP ⟨c, ws, ts⟩ ⟨d, ws2, ts2⟩ ⟨p1, p2, p3, p4⟩ = q)) : Calls Tryz.prog 28 #[.agg #[.int .i64 c, .slice A n k, .slice B m j], .agg #[.int .i64 d, .slice C n2 k2, .slice D m2 j2], .agg #[.int .i64 p1, .int .i64 p2, .int .i64 p3, .int .i64 p4], .bool u] w fun e w' => ∃ Ar nr kr, e = .returned (.tuple #[.agg #[.int .i64 (0), .slice Ar nr kr], .int .i64 q]) ∧ RdB w' Ar nr kr ([]) ∧ nr ≤ maxLen ∧ Below w.heap.size w w' := by
 go_enter Tryz.func28, Tryz.ntmps28
 have bel_1 := Lib.hid (show Below w.heap.size w w from Below.refl _ w)
 have ra_2 := Lib.hid (h1)
 clear h1
 have rb_3 := Lib.hid (h2)
 clear h2
 have rc_4 := Lib.hid (h3)
 clear h3
 have rd_5 := Lib.hid (h4)
 clear h4
 obtain ⟨o_, ho_⟩ : ∃ o, o = ((.cells #[.int .i64 c, .slice A n k, .slice B m j] 24) : Obj) := ⟨_, rfl⟩
 replace bel_1 := bA bel_1 o_
 replace ra_2 := rA ra_2 o_
 replace rb_3 := rA rb_3 o_
 replace rc_4 := rA rc_4 o_
 replace rd_5 := rA rd_5 o_
 subst ho_
 have ba_6 := Lib.hid (Blk.new w 24 #[.int .i64 c, .slice A n k, .slice B m j])
 obtain ⟨o_, ho_⟩ : ∃ o, o = ((.cells #[.int .i64 d, .slice C n2 k2, .slice D m2 j2] 24) : Obj) := ⟨_, rfl⟩
 replace bel_1 := bA bel_1 o_
 replace ra_2 := rA ra_2 o_
 replace rb_3 := rA rb_3 o_
 replace rc_4 := rA rc_4 o_
 replace rd_5 := rA rd_5 o_
 replace ba_6 := kA ba_6 o_
 subst ho_
 have nb_ := Blk.new (w.alloc (.cells #[.int .i64 c, .slice A n k, .slice B m j] 24)) 24 #[.int .i64 d, .slice C n2 k2, .slice D m2 j2]
 simp only [World.size_alloc] at nb_
 have bb_7 := Lib.hid nb_; clear nb_
 obtain ⟨o_, ho_⟩ : ∃ o, o = ((.cells #[.int .i64 p1, .int .i64 p2, .int .i64 p3, .int .i64 p4] 28) : Obj) := ⟨_, rfl⟩
 replace bel_1 := bA bel_1 o_
 replace ra_2 := rA ra_2 o_
 replace rb_3 := rA rb_3 o_
 replace rc_4 := rA rc_4 o_
 replace rd_5 := rA rd_5 o_
 replace ba_6 := kA ba_6 o_
 replace bb_7 := kA bb_7 o_
 subst ho_
 have nb_ := Blk.new ((w.alloc (.cells #[.int .i64 c, .slice A n k, .slice B m j] 24)).alloc (.cells #[.int .i64 d, .slice C n2 k2, .slice D m2 j2] 24)) 28 #[.int .i64 p1, .int .i64 p2, .int .i64 p3, .int .i64 p4]
 simp only [World.size_alloc] at nb_
 have bp_8 := Lib.hid nb_; clear nb_
 obtain ⟨o_, ho_⟩ : ∃ o, o = ((.cells #[.int .i64 0, .slice none 0 0] 46) : Obj) := ⟨_, rfl⟩
 replace bel_1 := bA bel_1 o_
 replace ra_2 := rA ra_2 o_
 replace rb_3 := rA rb_3 o_
 replace rc_4 := rA rc_4 o_
 replace rd_5 := rA rd_5 o_
 replace ba_6 := kA ba_6 o_
 replace bb_7 := kA bb_7 o_
 replace bp_8 := kA bp_8 o_
 subst ho_
 have nb_ := Blk.new (((w.alloc (.cells #[.int .i64 c, .slice A n k, .slice B m j] 24)).alloc (.cells #[.int .i64 d, .slice C n2 k2, .slice D m2 j2] 24)).alloc (.cells #[.int .i64 p1, .int .i64 p2, .int .i64 p3, .int .i64 p4] 28)) 46 #[.int .i64 0, .slice none 0 0]
 simp only [World.size_alloc] at nb_
 have bz_9 := Lib.hid nb_; clear nb_
 obtain ⟨z_10, z_11, z_12⟩ := at3 ba_6
 obtain ⟨z_13, z_14, z_15⟩ := at3 bb_7
 obtain ⟨z_16, z_17, z_18, z_19⟩ := at4 bp_8
 obtain ⟨z_20, z_21⟩ := at2 bz_9
 have hc := rCheckPairing_any c A B n k m j ws ts d C D n2 k2 m2 j2 ws2 ts2 p1 p2 p3 p4 _ ra_2.out rb_3.out hn hm rc_4.out rd_5.out hn2 hm2
 rw [E1.out] at hc
 try dsimp only at hc
 have HC := Lib.hid hc; clear hc
 go_wp2_with fail
 refine HC.out.mono ?_
 rintro e w_22 ⟨rfl, hb⟩
 clear HC
 clear z_10 z_11 z_12 z_13 z_14 z_15 z_16 z_17 z_18 z_19 z_20 z_21
 have hb_23 := Lib.hid hb
 clear hb
 replace ba_6 := kH ba_6 hb_23
 obtain ⟨z_24, z_25, z_26⟩ := at3 ba_6
 replace bb_7 := kH bb_7 hb_23
 obtain ⟨z_27, z_28, z_29⟩ := at3 bb_7
 replace bp_8 := kH bp_8 hb_23
 obtain ⟨z_30, z_31, z_32, z_33⟩ := at4 bp_8
 replace bz_9 := kH bz_9 hb_23
 obtain ⟨z_34, z_35⟩ := at2 bz_9
 have fz_36 : (w_22).frozen? ⟨w.heap.size + 1 + 1 + 1, 0, none⟩ = false := Blk.frozen bz_9.out 0
 have fz_37 : (w_22).frozen? ⟨w.heap.size + 1 + 1 + 1, 1, none⟩ = false := Blk.frozen bz_9.out 1
 replace bel_1 := bH bel_1 hb_23
 have hlb_ := Blk.lt bz_9.out
 have HK := Lib.hid (bel_1.out)
 go_wp2
 have bel_ := HK.out
 refine bodyPost_ret (v := .tuple #[.agg #[.int .i64 0, .slice none 0 0], .int .i64 q]) (by simp [results, Tryz.results28, go_sem, z_24, z_25, z_26, z_27, z_28, z_29, z_30, z_31, z_32, z_33, z_34, z_35, fz_36, fz_37]) rfl ?_
 exact ⟨none, 0, 0, rfl, RdB.nil_ _, by unfold maxLen; omega, (by have hsz_ := Below.size bel_; repeat' (first | with_reducible exact bel_ | with_reducible exact Below.refl _ _ | with_reducible refine Below.alloc ?_ ?_ _ | with_reducible refine Below.setCell ?_ ?_ _ | with_reducible refine Below.drew ?_ | with_reducible refine below_setRow ?_ ?_ _ | omega | (simp; done) | (simp; omega)))⟩
set_option maxRecDepth 100000 in
theorem rFit_e2 (u : Bool) (c : Int) (A B : Option Addr) (n k m j : Nat) (ws ts : List Bnd) (d : Int) (C D : Option Addr) (n2 k2 m2 j2 : Nat) (ws2 ts2 : List Bnd) (p1 p2 p3 p4 : Int) (w : World) (h1 : RdB w A n k ws) (h2 : RdB w B m j ts) (hn : n ≤ maxLen) (hm : m ≤ maxLen) (h3 : RdB w C n2 k2 ws2) (h4 : RdB w D m2 j2 ts2) (hn2 : n2 ≤ maxLen) (hm2 : m2 ≤ maxLen) (E1 : Hid (chkP ⟨c, ws, ts⟩ ⟨d, ws2, ts2⟩ ⟨p1, p2, p3, p4⟩ = 0)) (ln : Nat) (EL : Hid ((jL u ⟨c, ws, ts⟩ ⟨d, ws2, ts2⟩ ⟨p1, p2, p3, p4⟩).length = ln)) (hl : (400 : Int) < ln) : Calls Tryz.prog 28 #[.agg #[.int .i64 c, .slice A n k, .slice B m j], .agg #[.int .i64 d, .slice C n2 k2, .slice D m2 j2], .agg #[.int .i64 p1, .int .i64 p2, .int .i64 p3, .int .i64 p4], .bool u] w fun e w' => ∃ Ar nr kr, e = .returned (.tuple #[.agg #[.int .i64 (0), .slice Ar nr kr], .int .i64 2]) ∧ RdB w' Ar nr kr ([]) ∧ nr ≤ maxLen ∧ Below w.heap.size w w' := by
 go_enter Tryz.func28, Tryz.ntmps28
 have bel_1 := Lib.hid (show Below w.heap.size w w from Below.refl _ w)
 have ra_2 := Lib.hid (h1)
 clear h1
 have rb_3 := Lib.hid (h2)
 clear h2
 have rc_4 := Lib.hid (h3)
 clear h3
 have rd_5 := Lib.hid (h4)
 clear h4
 obtain ⟨o_, ho_⟩ : ∃ o, o = ((.cells #[.int .i64 c, .slice A n k, .slice B m j] 24) : Obj) := ⟨_, rfl⟩
 replace bel_1 := bA bel_1 o_
 replace ra_2 := rA ra_2 o_
 replace rb_3 := rA rb_3 o_
 replace rc_4 := rA rc_4 o_
 replace rd_5 := rA rd_5 o_
 subst ho_
 have ba_6 := Lib.hid (Blk.new w 24 #[.int .i64 c, .slice A n k, .slice B m j])
 obtain ⟨o_, ho_⟩ : ∃ o, o = ((.cells #[.int .i64 d, .slice C n2 k2, .slice D m2 j2] 24) : Obj) := ⟨_, rfl⟩
 replace bel_1 := bA bel_1 o_
 replace ra_2 := rA ra_2 o_
 replace rb_3 := rA rb_3 o_
 replace rc_4 := rA rc_4 o_
 replace rd_5 := rA rd_5 o_
 replace ba_6 := kA ba_6 o_
 subst ho_
 have nb_ := Blk.new (w.alloc (.cells #[.int .i64 c, .slice A n k, .slice B m j] 24)) 24 #[.int .i64 d, .slice C n2 k2, .slice D m2 j2]
 simp only [World.size_alloc] at nb_
 have bb_7 := Lib.hid nb_; clear nb_
 obtain ⟨o_, ho_⟩ : ∃ o, o = ((.cells #[.int .i64 p1, .int .i64 p2, .int .i64 p3, .int .i64 p4] 28) : Obj) := ⟨_, rfl⟩
 replace bel_1 := bA bel_1 o_
 replace ra_2 := rA ra_2 o_
 replace rb_3 := rA rb_3 o_
 replace rc_4 := rA rc_4 o_
 replace rd_5 := rA rd_5 o_
 replace ba_6 := kA ba_6 o_
 replace bb_7 := kA bb_7 o_
 subst ho_
 have nb_ := Blk.new ((w.alloc (.cells #[.int .i64 c, .slice A n k, .slice B m j] 24)).alloc (.cells #[.int .i64 d, .slice C n2 k2, .slice D m2 j2] 24)) 28 #[.int .i64 p1, .int .i64 p2, .int .i64 p3, .int .i64 p4]
 simp only [World.size_alloc] at nb_
 have bp_8 := Lib.hid nb_; clear nb_
 obtain ⟨o_, ho_⟩ : ∃ o, o = ((.cells #[.int .i64 0, .slice none 0 0] 46) : Obj) := ⟨_, rfl⟩
 replace bel_1 := bA bel_1 o_
 replace ra_2 := rA ra_2 o_
 replace rb_3 := rA rb_3 o_
 replace rc_4 := rA rc_4 o_
 replace rd_5 := rA rd_5 o_
 replace ba_6 := kA ba_6 o_
 replace bb_7 := kA bb_7 o_
 replace bp_8 := kA bp_8 o_
 subst ho_
 have nb_ := Blk.new (((w.alloc (.cells #[.int .i64 c, .slice A n k, .slice B m j] 24)).alloc (.cells #[.int .i64 d, .slice C n2 k2, .slice D m2 j2] 24)).alloc (.cells #[.int .i64 p1, .int .i64 p2, .int .i64 p3, .int .i64 p4] 28)) 46 #[.int .i64 0, .slice none 0 0]
 simp only [World.size_alloc] at nb_
 have bz_9 := Lib.hid nb_; clear nb_
 obtain ⟨z_10, z_11, z_12⟩ := at3 ba_6
 obtain ⟨z_13, z_14, z_15⟩ := at3 bb_7
 obtain ⟨z_16, z_17, z_18, z_19⟩ := at4 bp_8
 obtain ⟨z_20, z_21⟩ := at2 bz_9
 have hc := rCheckPairing_any c A B n k m j ws ts d C D n2 k2 m2 j2 ws2 ts2 p1 p2 p3 p4 _ ra_2.out rb_3.out hn hm rc_4.out rd_5.out hn2 hm2
 rw [E1.out] at hc
 try dsimp only at hc
 have HC := Lib.hid hc; clear hc
 go_wp2_with fail
 refine HC.out.mono ?_
 rintro e w_22 ⟨rfl, hb⟩
 clear HC
 clear z_10 z_11 z_12 z_13 z_14 z_15 z_16 z_17 z_18 z_19 z_20 z_21
 have hb_23 := Lib.hid hb
 clear hb
 replace ba_6 := kH ba_6 hb_23
 obtain ⟨z_24, z_25, z_26⟩ := at3 ba_6
 replace bb_7 := kH bb_7 hb_23
 obtain ⟨z_27, z_28, z_29⟩ := at3 bb_7
 replace bp_8 := kH bp_8 hb_23
 obtain ⟨z_30, z_31, z_32, z_33⟩ := at4 bp_8
 replace bz_9 := kH bz_9 hb_23
 obtain ⟨z_34, z_35⟩ := at2 bz_9
 replace ra_2 := rH ra_2 hb_23
 replace rb_3 := rH rb_3 hb_23
 replace rc_4 := rH rc_4 hb_23
 replace rd_5 := rH rd_5 hb_23
 have hc := rjoint_any u c A B n k m j ws ts d C D n2 k2 m2 j2 ws2 ts2 p1 p2 p3 p4 _ ra_2.out rb_3.out hn hm rc_4.out rd_5.out hn2 hm2 E1.out
 have HC := Lib.hid hc; clear hc
 go_wp2_with fail
 refine HC.out.mono ?_
 rintro e w_36 ⟨Ar, nr, kr, rfl, hrd, hb⟩
 clear HC
 clear z_24 z_25 z_26 z_27 z_28 z_29 z_30 z_31 z_32 z_33 z_34 z_35
 have hb_37 := Lib.hid hb
 clear hb
 have rl_38 := Lib.hid (hrd)
 clear hrd
 have hnr_ := rdJ_len E1.out rl_38.out
 have hnl_ := rl_38.out.len
 replace ba_6 := kH ba_6 hb_37
 obtain ⟨z_39, z_40, z_41⟩ := at3 ba_6
 replace bb_7 := kH bb_7 hb_37
 obtain ⟨z_42, z_43, z_44⟩ := at3 bb_7
 replace bp_8 := kH bp_8 hb_37
 obtain ⟨z_45, z_46, z_47, z_48⟩ := at4 bp_8
 replace bz_9 := kH bz_9 hb_37
 obtain ⟨z_49, z_50⟩ := at2 bz_9
 obtain ⟨o_, ho_⟩ : ∃ o, o = ((.cells #[.int .i64 (jP u ⟨c, ws, ts⟩ ⟨d, ws2, ts2⟩ ⟨p1, p2, p3, p4⟩), .slice Ar nr kr] 46) : Obj) := ⟨_, rfl⟩
 replace bel_1 := bA (bH (bH bel_1 hb_23) hb_37) o_
 replace ra_2 := rA (rH ra_2 hb_37) o_
 replace rb_3 := rA (rH rb_3 hb_37) o_
 replace rc_4 := rA (rH rc_4 hb_37) o_
 replace rd_5 := rA (rH rd_5 hb_37) o_
 replace ba_6 := kA ba_6 o_
 replace bb_7 := kA bb_7 o_
 replace bp_8 := kA bp_8 o_
 replace bz_9 := kA bz_9 o_
 replace rl_38 := rA rl_38 o_
 subst ho_
 have bs_51 := Lib.hid (Blk.new w_36 46 #[.int .i64 (jP u ⟨c, ws, ts⟩ ⟨d, ws2, ts2⟩ ⟨p1, p2, p3, p4⟩), .slice Ar nr kr])
 obtain ⟨z_52, z_53, z_54⟩ := at3 ba_6
 obtain ⟨z_55, z_56, z_57⟩ := at3 bb_7
 obtain ⟨z_58, z_59, z_60, z_61⟩ := at4 bp_8
 obtain ⟨z_62, z_63⟩ := at2 bz_9
 obtain ⟨z_64, z_65⟩ := at2 bs_51
 rw [EL.out] at hnl_
 have hlr_ : (400 : Int) < nr := by omega
 clear hnl_
 have fz_66 : ((w_36.alloc (.cells #[.int .i64 (jP u ⟨c, ws, ts⟩ ⟨d, ws2, ts2⟩ ⟨p1, p2, p3, p4⟩), .slice Ar nr kr] 46))).frozen? ⟨w.heap.size + 1 + 1 + 1, 0, none⟩ = false := Blk.frozen bz_9.out 0
 have fz_67 : ((w_36.alloc (.cells #[.int .i64 (jP u ⟨c, ws, ts⟩ ⟨d, ws2, ts2⟩ ⟨p1, p2, p3, p4⟩), .slice Ar nr kr] 46))).frozen? ⟨w.heap.size + 1 + 1 + 1, 1, none⟩ = false := Blk.frozen bz_9.out 1
 have hlb_ := Blk.lt bz_9.out
 have HK := Lib.hid (bel_1.out)
 go_wp2
 have bel_ := HK.out
 refine bodyPost_ret (v := .tuple #[.agg #[.int .i64 0, .slice none 0 0], .int .i64 2]) (by simp [results, Tryz.results28, go_sem, z_39, z_40, z_41, z_42, z_43, z_44, z_45, z_46, z_47, z_48, z_49, z_50, z_52, z_53, z_54, z_55, z_56, z_57, z_58, z_59, z_60, z_61, z_62, z_63, z_64, z_65, fz_66, fz_67]) rfl ?_
 exact ⟨none, 0, 0, rfl, RdB.nil_ _, by unfold maxLen; omega, (by have hsz_ := Below.size bel_; repeat' (first | with_reducible exact bel_ | with_reducible exact Below.refl _ _ | with_reducible refine Below.alloc ?_ ?_ _ | with_reducible refine Below.setCell ?_ ?_ _ | with_reducible refine Below.drew ?_ | with_reducible refine below_setRow ?_ ?_ _ | omega | (simp; done) | (simp; omega)))⟩
set_option maxRecDepth 100000 in
theorem rFit_ok (u : Bool) (c : Int) (A B : Option Addr) (n k m j : Nat) (ws ts : List Bnd) (d : Int) (C D : Option Addr) (n2 k2 m2 j2 : Nat) (ws2 ts2 : List Bnd) (p1 p2 p3 p4 : Int) (w : World) (h1 : RdB w A n k ws) (h2 : RdB w B m j ts) (hn : n ≤ maxLen) (hm : m ≤ maxLen) (h3 : RdB w C n2 k2 ws2) (h4 : RdB w D m2 j2 ts2) (hn2 : n2 ≤ maxLen) (hm2 : m2 ≤ maxLen) (E1 : Hid (chkP ⟨c, ws, ts⟩ ⟨d, ws2, ts2⟩ ⟨p1, p2, p3, p4⟩ = 0)) (ln : Nat) (EL : Hid ((jL u ⟨c, ws, ts⟩ ⟨d, ws2, ts2⟩ ⟨p1, p2, p3, p4⟩).length = ln)) (hl : ¬ (400 : Int) < ln) : Calls Tryz.prog 28 #[.agg #[.int .i64 c, .slice A n k, .slice B m j], .agg #[.int .i64 d, .slice C n2 k2, .slice D m2 j2], .agg #[.int .i64 p1, .int .i64 p2, .int .i64 p3, .int .i64 p4], .bool u] w fun e w' => ∃ Ar nr kr, e = .returned (.tuple #[.agg #[.int .i64 (jP u ⟨c, ws, ts⟩ ⟨d, ws2, ts2⟩ ⟨p1, p2, p3, p4⟩), .slice Ar nr kr], .int .i64 0]) ∧ RdB w' Ar nr kr (jL u ⟨c, ws, ts⟩ ⟨d, ws2, ts2⟩ ⟨p1, p2, p3, p4⟩) ∧ nr ≤ maxLen ∧ Below w.heap.size w w' := by
 go_enter Tryz.func28, Tryz.ntmps28
 have bel_1 := Lib.hid (show Below w.heap.size w w from Below.refl _ w)
 have ra_2 := Lib.hid (h1)
 clear h1
 have rb_3 := Lib.hid (h2)
 clear h2
 have rc_4 := Lib.hid (h3)
 clear h3
 have rd_5 := Lib.hid (h4)
 clear h4
 obtain ⟨o_, ho_⟩ : ∃ o, o = ((.cells #[.int .i64 c, .slice A n k, .slice B m j] 24) : Obj) := ⟨_, rfl⟩
 replace bel_1 := bA bel_1 o_
 replace ra_2 := rA ra_2 o_
 replace rb_3 := rA rb_3 o_
 replace rc_4 := rA rc_4 o_
 replace rd_5 := rA rd_5 o_
 subst ho_
 have ba_6 := Lib.hid (Blk.new w 24 #[.int .i64 c, .slice A n k, .slice B m j])
 obtain ⟨o_, ho_⟩ : ∃ o, o = ((.cells #[.int .i64 d, .slice C n2 k2, .slice D m2 j2] 24) : Obj) := ⟨_, rfl⟩
 replace bel_1 := bA bel_1 o_
 replace ra_2 := rA ra_2 o_
 replace rb_3 := rA rb_3 o_
 replace rc_4 := rA rc_4 o_
 replace rd_5 := rA rd_5 o_
 replace ba_6 := kA ba_6 o_
 subst ho_
 have nb_ := Blk.new (w.alloc (.cells #[.int .i64 c, .slice A n k, .slice B m j] 24)) 24 #[.int .i64 d, .slice C n2 k2, .slice D m2 j2]
 simp only [World.size_alloc] at nb_
 have bb_7 := Lib.hid nb_; clear nb_
 obtain ⟨o_, ho_⟩ : ∃ o, o = ((.cells #[.int .i64 p1, .int .i64 p2, .int .i64 p3, .int .i64 p4] 28) : Obj) := ⟨_, rfl⟩
 replace bel_1 := bA bel_1 o_
 replace ra_2 := rA ra_2 o_
 replace rb_3 := rA rb_3 o_
 replace rc_4 := rA rc_4 o_
 replace rd_5 := rA rd_5 o_
 replace ba_6 := kA ba_6 o_
 replace bb_7 := kA bb_7 o_
 subst ho_
 have nb_ := Blk.new ((w.alloc (.cells #[.int .i64 c, .slice A n k, .slice B m j] 24)).alloc (.cells #[.int .i64 d, .slice C n2 k2, .slice D m2 j2] 24)) 28 #[.int .i64 p1, .int .i64 p2, .int .i64 p3, .int .i64 p4]
 simp only [World.size_alloc] at nb_
 have bp_8 := Lib.hid nb_; clear nb_
 obtain ⟨o_, ho_⟩ : ∃ o, o = ((.cells #[.int .i64 0, .slice none 0 0] 46) : Obj) := ⟨_, rfl⟩
 replace bel_1 := bA bel_1 o_
 replace ra_2 := rA ra_2 o_
 replace rb_3 := rA rb_3 o_
 replace rc_4 := rA rc_4 o_
 replace rd_5 := rA rd_5 o_
 replace ba_6 := kA ba_6 o_
 replace bb_7 := kA bb_7 o_
 replace bp_8 := kA bp_8 o_
 subst ho_
 have nb_ := Blk.new (((w.alloc (.cells #[.int .i64 c, .slice A n k, .slice B m j] 24)).alloc (.cells #[.int .i64 d, .slice C n2 k2, .slice D m2 j2] 24)).alloc (.cells #[.int .i64 p1, .int .i64 p2, .int .i64 p3, .int .i64 p4] 28)) 46 #[.int .i64 0, .slice none 0 0]
 simp only [World.size_alloc] at nb_
 have bz_9 := Lib.hid nb_; clear nb_
 obtain ⟨z_10, z_11, z_12⟩ := at3 ba_6
 obtain ⟨z_13, z_14, z_15⟩ := at3 bb_7
 obtain ⟨z_16, z_17, z_18, z_19⟩ := at4 bp_8
 obtain ⟨z_20, z_21⟩ := at2 bz_9
 have hc := rCheckPairing_any c A B n k m j ws ts d C D n2 k2 m2 j2 ws2 ts2 p1 p2 p3 p4 _ ra_2.out rb_3.out hn hm rc_4.out rd_5.out hn2 hm2
 rw [E1.out] at hc
 try dsimp only at hc
 have HC := Lib.hid hc; clear hc
 go_wp2_with fail
 refine HC.out.mono ?_
 rintro e w_22 ⟨rfl, hb⟩
 clear HC
 clear z_10 z_11 z_12 z_13 z_14 z_15 z_16 z_17 z_18 z_19 z_20 z_21
 have hb_23 := Lib.hid hb
 clear hb
 replace ba_6 := kH ba_6 hb_23
 obtain ⟨z_24, z_25, z_26⟩ := at3 ba_6
 replace bb_7 := kH bb_7 hb_23
 obtain ⟨z_27, z_28, z_29⟩ := at3 bb_7
 replace bp_8 := kH bp_8 hb_23
 obtain ⟨z_30, z_31, z_32, z_33⟩ := at4 bp_8
 replace bz_9 := kH bz_9 hb_23
 obtain ⟨z_34, z_35⟩ := at2 bz_9
 replace ra_2 := rH ra_2 hb_23
 replace rb_3 := rH rb_3 hb_23
 replace rc_4 := rH rc_4 hb_23
 replace rd_5 := rH rd_5 hb_23
 have hc := rjoint_any u c A B n k m j ws ts d C D n2 k2 m2 j2 ws2 ts2 p1 p2 p3 p4 _ ra_2.out rb_3.out hn hm rc_4.out rd_5.out hn2 hm2 E1.out
 have HC := Lib.hid hc; clear hc
 go_wp2_with fail
 refine HC.out.mono ?_
 rintro e w_36 ⟨Ar, nr, kr, rfl, hrd, hb⟩
 clear HC
 clear z_24 z_25 z_26 z_27 z_28 z_29 z_30 z_31 z_32 z_33 z_34 z_35
 have hb_37 := Lib.hid hb
 clear hb
 have rl_38 := Lib.hid (hrd)
 clear hrd
 have hnr_ := rdJ_len E1.out rl_38.out
 have hnl_ := rl_38.out.len
 replace ba_6 := kH ba_6 hb_37
 obtain ⟨z_39, z_40, z_41⟩ := at3 ba_6
 replace bb_7 := kH bb_7 hb_37
 obtain ⟨z_42, z_43, z_44⟩ := at3 bb_7
 replace bp_8 := kH bp_8 hb_37
 obtain ⟨z_45, z_46, z_47, z_48⟩ := at4 bp_8
 replace bz_9 := kH bz_9 hb_37
 obtain ⟨z_49, z_50⟩ := at2 bz_9
 obtain ⟨o_, ho_⟩ : ∃ o, o = ((.cells #[.int .i64 (jP u ⟨c, ws, ts⟩ ⟨d, ws2, ts2⟩ ⟨p1, p2, p3, p4⟩), .slice Ar nr kr] 46) : Obj) := ⟨_, rfl⟩
 replace bel_1 := bA (bH (bH bel_1 hb_23) hb_37) o_
 replace ra_2 := rA (rH ra_2 hb_37) o_
 replace rb_3 := rA (rH rb_3 hb_37) o_
 replace rc_4 := rA (rH rc_4 hb_37) o_
 replace rd_5 := rA (rH rd_5 hb_37) o_
 replace ba_6 := kA ba_6 o_
 replace bb_7 := kA bb_7 o_
 replace bp_8 := kA bp_8 o_
 replace bz_9 := kA bz_9 o_
 replace rl_38 := rA rl_38 o_
 subst ho_
 have bs_51 := Lib.hid (Blk.new w_36 46 #[.int .i64 (jP u ⟨c, ws, ts⟩ ⟨d, ws2, ts2⟩ ⟨p1, p2, p3, p4⟩), .slice Ar nr kr])
 obtain ⟨z_52, z_53, z_54⟩ := at3 ba_6
 obtain ⟨z_55, z_56, z_57⟩ := at3 bb_7
 obtain ⟨z_58, z_59, z_60, z_61⟩ := at4 bp_8
 obtain ⟨z_62, z_63⟩ := at2 bz_9
 obtain ⟨z_64, z_65⟩ := at2 bs_51
 rw [EL.out] at hnl_
 have hlr_ : ¬ (400 : Int) < nr := by omega
 clear hnl_
 have fz_66 : ((w_36.alloc (.cells #[.int .i64 (jP u ⟨c, ws, ts⟩ ⟨d, ws2, ts2⟩ ⟨p1, p2, p3, p4⟩), .slice Ar nr kr] 46))).frozen? ⟨w.heap.size + 1 + 1 + 1, 0, none⟩ = false := Blk.frozen bz_9.out 0
 have fz_67 : ((w_36.alloc (.cells #[.int .i64 (jP u ⟨c, ws, ts⟩ ⟨d, ws2, ts2⟩ ⟨p1, p2, p3, p4⟩), .slice Ar nr kr] 46))).frozen? ⟨w.heap.size + 1 + 1 + 1, 1, none⟩ = false := Blk.frozen bz_9.out 1
 have hlb_ := Blk.lt bz_9.out; have bz_ := bz_9.out; have bel_ := bel_1.out; have rl_ := rl_38.out
 have HK := Lib.hid (And.intro bz_ (And.intro bel_ rl_)); clear bz_ bel_ rl_
 go_wp2
 obtain ⟨bz_, bel_, rl_⟩ := HK.out
 refine bodyPost_ret (v := .tuple #[.agg #[.int .i64 (jP u ⟨c, ws, ts⟩ ⟨d, ws2, ts2⟩ ⟨p1, p2, p3, p4⟩), .slice Ar nr kr], .int .i64 0]) (by simp [results, Tryz.results28, go_sem, z_39, z_40, z_41, z_42, z_43, z_44, z_45, z_46, z_47, z_48, z_49, z_50, z_52, z_53, z_54, z_55, z_56, z_57, z_58, z_59, z_60, z_61, z_62, z_63, z_64, z_65, fz_66, fz_67]) rfl ?_
 exact ⟨Ar, nr, kr, rfl, rdB_set2 rl_ ⟨w.heap.size + 1 + 1 + 1, 0, none⟩ ⟨w.heap.size + 1 + 1 + 1, 1, none⟩ (.int .i64 (jP u ⟨c, ws, ts⟩ ⟨d, ws2, ts2⟩ ⟨p1, p2, p3, p4⟩)) (.slice Ar nr kr) bz_ rfl, by unfold maxLen; omega, (by have hsz_ := Below.size bel_; repeat' (first | with_reducible exact bel_ | with_reducible exact Below.refl _ _ | with_reducible refine Below.alloc ?_ ?_ _ | with_reducible refine Below.setCell ?_ ?_ _ | with_reducible refine Below.drew ?_ | with_reducible refine below_setRow ?_ ?_ _ | omega | (simp; done) | (simp; omega)))⟩
theorem rFit_any (u : Bool) (c : Int) (A B : Option Addr) (n k m j : Nat) (ws ts : List Bnd) (d : Int) (C D : Option Addr) (n2 k2 m2 j2 : Nat) (ws2 ts2 : List Bnd) (p1 p2 p3 p4 : Int) (w : World) (h1 : RdB w A n k ws) (h2 : RdB w B m j ts) (hn : n ≤ maxLen) (hm : m ≤ maxLen) (h3 : RdB w C n2 k2 ws2) (h4 : RdB w D m2 j2 ts2) (hn2 : n2 ≤ maxLen) (hm2 : m2 ≤ maxLen) : Calls Tryz.prog 28 #[.agg #[.int .i64 c, .slice A n k, .slice B m j], .agg #[.int .i64 d, .slice C n2 k2, .slice D m2 j2], .agg #[.int .i64 p1, .int .i64 p2, .int .i64 p3, .int .i64 p4], .bool u] w fun e w' => ∃ Ar nr kr, e = .returned (.tuple #[.agg #[.int .i64 (if fitE u ⟨c, ws, ts⟩ ⟨d, ws2, ts2⟩ ⟨p1, p2, p3, p4⟩ = 0 then jP u ⟨c, ws, ts⟩ ⟨d, ws2, ts2⟩ ⟨p1, p2, p3, p4⟩ else 0), .slice Ar nr kr], .int .i64 (fitE u ⟨c, ws, ts⟩ ⟨d, ws2, ts2⟩ ⟨p1, p2, p3, p4⟩)]) ∧ RdB w' Ar nr kr (if fitE u ⟨c, ws, ts⟩ ⟨d, ws2, ts2⟩ ⟨p1, p2, p3, p4⟩ = 0 then jL u ⟨c, ws, ts⟩ ⟨d, ws2, ts2⟩ ⟨p1, p2, p3, p4⟩ else []) ∧ nr ≤ maxLen ∧ Below w.heap.size w w' := by
 by_cases h0 : chkP ⟨c, ws, ts⟩ ⟨d, ws2, ts2⟩ ⟨p1, p2, p3, p4⟩ = 0
 · by_cases hl : 400 < (jL u ⟨c, ws, ts⟩ ⟨d, ws2, ts2⟩ ⟨p1, p2, p3, p4⟩).length
   · have e : fitE u ⟨c, ws, ts⟩ ⟨d, ws2, ts2⟩ ⟨p1, p2, p3, p4⟩ = 2 := by unfold fitE; rw [if_neg (by simpa using h0), fit_same u h0, if_pos hl]
     rw [e, if_neg (by decide), if_neg (by decide)]
     exact rFit_e2 u c A B n k m j ws ts d C D n2 k2 m2 j2 ws2 ts2 p1 p2 p3 p4 w h1 h2 hn hm h3 h4 hn2 hm2 (Lib.hid h0) _ (Lib.hid rfl) (by omega)
   · have e : fitE u ⟨c, ws, ts⟩ ⟨d, ws2, ts2⟩ ⟨p1, p2, p3, p4⟩ = 0 := by unfold fitE; rw [if_neg (by simpa using h0), fit_same u h0, if_neg hl]
     rw [e, if_pos rfl, if_pos rfl]
     exact rFit_ok u c A B n k m j ws ts d C D n2 k2 m2 j2 ws2 ts2 p1 p2 p3 p4 w h1 h2 hn hm h3 h4 hn2 hm2 (Lib.hid h0) _ (Lib.hid rfl) (by omega)
 · have e : fitE u ⟨c, ws, ts⟩ ⟨d, ws2, ts2⟩ ⟨p1, p2, p3, p4⟩ = chkP ⟨c, ws, ts⟩ ⟨d, ws2, ts2⟩ ⟨p1, p2, p3, p4⟩ := by unfold fitE; rw [if_pos h0]
   rw [e, if_neg h0, if_neg h0]
   exact rFit_e1 u c A B n k m j ws ts d C D n2 k2 m2 j2 ws2 ts2 p1 p2 p3 p4 w h1 h2 hn hm h3 h4 hn2 hm2 _ (by simpa using h0) (Lib.hid rfl)
end Go.Proofs.YtaoanagmgheicaaGreat
