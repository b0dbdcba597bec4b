import Derived.Great.BuildSlice
import Derived.Laws.AppendOwnNone
import Derived.Test.YtaoanagmgheicaaGreatQEPair
import Derived.Test.YtaoanagmgheicaaGreatQOnw
import Derived.Deep.AppendLies
import Derived.Deep.DeepCutAuto
import Derived.Deep.OwnRows
import Derived.Lib.SmallJoins
import Derived.Maps.OwnIn
import Derived.Shelf.SlIterI.Nil
import Derived.Shelf.Slices.Reverse
import Derived.Shelf.SortM.Plain
import Derived.Shelf.SortM.SortNone
import Derived.Sort.OwnSortedInts
import Derived.Test.YtaoanagmgheicaaGreatQERefO
set_option linter.unusedSimpArgs false
set_option linter.unusedVariables false
namespace Go.Proofs.YtaoanagmgheicaaGreat
open Go.RowKit
theorem rstretch_any (f t c : Int) (w : World) : Calls Tryz.prog 73 #[.int .i64 c, .agg #[.int .i64 f, .int .i64 t]] w fun e w' => e = .returned (.bool (isStr f t c)) ∧ Below w.heap.size w w' := by
 by_cases h1 : 0 ≤ f
 · by_cases h2 : f < t
   · go_enter Tryz.func73, Tryz.ntmps73
     go_wp2
     go_ret
     exact ⟨by simp [isStr, h1, h2], (by (repeat (first | exact Below.refl _ _ | refine Below.drew ?_ | refine Below.alloc ?_ (by simp) _)))⟩
   · go_enter Tryz.func73, Tryz.ntmps73
     go_wp2
     go_ret
     exact ⟨ret_bool (Bool.eq_iff_iff.2 (by simp [isStr]; omega)), (by (repeat (first | exact Below.refl _ _ | refine Below.drew ?_ | refine Below.alloc ?_ (by simp) _)))⟩
 · go_enter Tryz.func73, Tryz.ntmps73
   go_wp2
   go_ret
   exact ⟨ret_bool (Bool.eq_iff_iff.2 (by simp [isStr]; omega)), (by (repeat (first | exact Below.refl _ _ | refine Below.drew ?_ | refine Below.alloc ?_ (by simp) _)))⟩
theorem rstretch_is (f t c : Int) (b : Bool) (h : isStr f t c = b) (w : World) : Calls Tryz.prog 73 #[.int .i64 c, .agg #[.int .i64 f, .int .i64 t]] w fun e w' => e = .returned (.bool b) ∧ Below w.heap.size w w' := by
 subst h
 exact rstretch_any f t c w
end Go.Proofs.YtaoanagmgheicaaGreat
set_option linter.unusedSimpArgs false
set_option linter.unusedVariables false
namespace Go.Proofs.YtaoanagmgheicaaGreat
open Go.RowKit
set_option maxRecDepth 100000 in
set_option maxHeartbeats 4000000 in
theorem rCheckPairing_any (c : Int) (A B : Option Addr) (n k m j : Nat) (ws ts : List Bnd) (d : Int) (C D : Option Addr) (n2 k2 m2 j2 : Nat) (ws2 ts2 : List Bnd) (p1 p2 p3 p4 : Int) (w : World) (h1 : RdB w A n k ws) (h2 : RdB w B m j ts) (hn : n ≤ maxLen) (hm : m ≤ maxLen) (h3 : RdB w C n2 k2 ws2) (h4 : RdB w D m2 j2 ts2) (hn2 : n2 ≤ maxLen) (hm2 : m2 ≤ maxLen) :
 Calls Tryz.prog 25 #[.agg #[.int .i64 c, .slice A n k, .slice B m j], .agg #[.int .i64 d, .slice C n2 k2, .slice D m2 j2], .agg #[.int .i64 p1, .int .i64 p2, .int .i64 p3, .int .i64 p4]] w fun e w' => e = .returned (.int .i64 (chkP ⟨c, ws, ts⟩ ⟨d, ws2, ts2⟩ ⟨p1, p2, p3, p4⟩)) ∧ Below w.heap.size w w' := by
 obtain ⟨q, hq⟩ : ∃ q, chkO ⟨c, ws, ts⟩ = q := ⟨_, rfl⟩
 obtain ⟨q2, hq2⟩ : ∃ q, chkO ⟨d, ws2, ts2⟩ = q := ⟨_, rfl⟩
 unfold chkP chkOO
 rw [hq, hq2]
 have HQ := Lib.hid hq; have HQ2 := Lib.hid hq2
 have E1 := Lib.hid hq; have E2 := Lib.hid hq2; clear hq hq2
 by_cases h0 : q = 0
 · subst h0
   have g1 := (chkO_ok HQ.out).2.1
   dsimp only at g1 ⊢
   clear HQ
   by_cases h00 : q2 = 0
   · subst h00
     have g2 := (chkO_ok HQ2.out).2.1
     dsimp only at g2
     clear HQ2
     rw [if_neg (by simp)]
     cases hs1 : isStr p1 p2 c
     · rw [if_pos rfl]
       have E3 := Lib.hid hs1; clear hs1
       go_enter Tryz.func25, Tryz.ntmps25
       obtain ⟨ba_1, bb_2, bp_3, bel_4⟩ := ent3 w #[.int .i64 c, .slice A n k, .slice B m j] 24 #[.int .i64 d, .slice C n2 k2, .slice D m2 j2] 24 #[.int .i64 p1, .int .i64 p2, .int .i64 p3, .int .i64 p4] 28
       have ra_5 := rI h1 bel_4
       have rb_6 := rI h2 bel_4
       have rc_7 := rI h3 bel_4
       have rd_8 := rI h4 bel_4
       clear h1 h2 h3 h4
       obtain ⟨z_9, z_10, z_11⟩ := at3 ba_1
       obtain ⟨z_12, z_13, z_14⟩ := at3 bb_2
       obtain ⟨z_15, z_16, z_17, z_18⟩ := at4 bp_3
       have hc := rCheckOutline_any c A B n k m j ws ts _ ra_5.out rb_6.out hn hm
       rw [E1.out] at hc
       try dsimp only at hc
       have HC := Lib.hid hc; clear hc
       go_wp2_with fail
       refine HC.out.mono ?_
       rintro e w_19 ⟨rfl, hb⟩
       clear HC
       clear z_9 z_10 z_11 z_12 z_13 z_14 z_15 z_16 z_17 z_18
       have hb_20 := Lib.hid hb
       clear hb
       replace ba_1 := kH ba_1 hb_20
       obtain ⟨z_21, z_22, z_23⟩ := at3 ba_1
       replace bb_2 := kH bb_2 hb_20
       obtain ⟨z_24, z_25, z_26⟩ := at3 bb_2
       replace bp_3 := kH bp_3 hb_20
       obtain ⟨z_27, z_28, z_29, z_30⟩ := at4 bp_3
       replace rc_7 := rH rc_7 hb_20
       replace rd_8 := rH rd_8 hb_20
       have hc := rCheckOutline_any d C D n2 k2 m2 j2 ws2 ts2 _ rc_7.out rd_8.out hn2 hm2
       rw [E2.out] at hc
       try dsimp only at hc
       have HC := Lib.hid hc; clear hc
       go_wp2_with fail
       refine HC.out.mono ?_
       rintro e w_31 ⟨rfl, hb⟩
       clear HC
       clear z_21 z_22 z_23 z_24 z_25 z_26 z_27 z_28 z_29 z_30
       have hb_32 := Lib.hid hb
       clear hb
       replace ba_1 := kH ba_1 hb_32
       obtain ⟨z_33, z_34, z_35⟩ := at3 ba_1
       replace bb_2 := kH bb_2 hb_32
       obtain ⟨z_36, z_37, z_38⟩ := at3 bb_2
       replace bp_3 := kH bp_3 hb_32
       obtain ⟨z_39, z_40, z_41, z_42⟩ := at4 bp_3
       have hc := rstretch_is p1 p2 c _ E3.out (w_31)
       have HC := Lib.hid hc; clear hc
       go_wp2_with fail
       refine HC.out.mono ?_
       rintro e w_43 ⟨rfl, hb⟩
       clear HC
       clear z_33 z_34 z_35 z_36 z_37 z_38 z_39 z_40 z_41 z_42
       have hb_44 := Lib.hid hb
       clear hb
       replace ba_1 := kH ba_1 hb_44
       obtain ⟨z_45, z_46, z_47⟩ := at3 ba_1
       replace bb_2 := kH bb_2 hb_44
       obtain ⟨z_48, z_49, z_50⟩ := at3 bb_2
       replace bp_3 := kH bp_3 hb_44
       obtain ⟨z_51, z_52, z_53, z_54⟩ := at4 bp_3
       go_wp2
       go_ret
       replace bel_4 := bH (bH (bH bel_4 hb_20) hb_32) hb_44
       exact ⟨rfl, bel_4.out⟩
     · rw [if_neg (by simp)]
       have i1 := isStr_ok hs1
       have E3 := Lib.hid hs1; clear hs1
       cases hs2 : isStr p3 p4 d
       · rw [if_pos rfl]
         have E4 := Lib.hid hs2; clear hs2
         go_enter Tryz.func25, Tryz.ntmps25
         obtain ⟨ba_1, bb_2, bp_3, bel_4⟩ := ent3 w #[.int .i64 c, .slice A n k, .slice B m j] 24 #[.int .i64 d, .slice C n2 k2, .slice D m2 j2] 24 #[.int .i64 p1, .int .i64 p2, .int .i64 p3, .int .i64 p4] 28
         have ra_5 := rI h1 bel_4
         have rb_6 := rI h2 bel_4
         have rc_7 := rI h3 bel_4
         have rd_8 := rI h4 bel_4
         clear h1 h2 h3 h4
         obtain ⟨z_9, z_10, z_11⟩ := at3 ba_1
         obtain ⟨z_12, z_13, z_14⟩ := at3 bb_2
         obtain ⟨z_15, z_16, z_17, z_18⟩ := at4 bp_3
         have hc := rCheckOutline_any c A B n k m j ws ts _ ra_5.out rb_6.out hn hm
         rw [E1.out] at hc
         try dsimp only at hc
         have HC := Lib.hid hc; clear hc
         go_wp2_with fail
         refine HC.out.mono ?_
         rintro e w_19 ⟨rfl, hb⟩
         clear HC
         clear z_9 z_10 z_11 z_12 z_13 z_14 z_15 z_16 z_17 z_18
         have hb_20 := Lib.hid hb
         clear hb
         replace ba_1 := kH ba_1 hb_20
         obtain ⟨z_21, z_22, z_23⟩ := at3 ba_1
         replace bb_2 := kH bb_2 hb_20
         obtain ⟨z_24, z_25, z_26⟩ := at3 bb_2
         replace bp_3 := kH bp_3 hb_20
         obtain ⟨z_27, z_28, z_29, z_30⟩ := at4 bp_3
         replace rc_7 := rH rc_7 hb_20
         replace rd_8 := rH rd_8 hb_20
         have hc := rCheckOutline_any d C D n2 k2 m2 j2 ws2 ts2 _ rc_7.out rd_8.out hn2 hm2
         rw [E2.out] at hc
         try dsimp only at hc
         have HC := Lib.hid hc; clear hc
         go_wp2_with fail
         refine HC.out.mono ?_
         rintro e w_31 ⟨rfl, hb⟩
         clear HC
         clear z_21 z_22 z_23 z_24 z_25 z_26 z_27 z_28 z_29 z_30
         have hb_32 := Lib.hid hb
         clear hb
         replace ba_1 := kH ba_1 hb_32
         obtain ⟨z_33, z_34, z_35⟩ := at3 ba_1
         replace bb_2 := kH bb_2 hb_32
         obtain ⟨z_36, z_37, z_38⟩ := at3 bb_2
         replace bp_3 := kH bp_3 hb_32
         obtain ⟨z_39, z_40, z_41, z_42⟩ := at4 bp_3
         have hc := rstretch_is p1 p2 c _ E3.out (w_31)
         have HC := Lib.hid hc; clear hc
         go_wp2_with fail
         refine HC.out.mono ?_
         rintro e w_43 ⟨rfl, hb⟩
         clear HC
         clear z_33 z_34 z_35 z_36 z_37 z_38 z_39 z_40 z_41 z_42
         have hb_44 := Lib.hid hb
         clear hb
         replace ba_1 := kH ba_1 hb_44
         obtain ⟨z_45, z_46, z_47⟩ := at3 ba_1
         replace bb_2 := kH bb_2 hb_44
         obtain ⟨z_48, z_49, z_50⟩ := at3 bb_2
         replace bp_3 := kH bp_3 hb_44
         obtain ⟨z_51, z_52, z_53, z_54⟩ := at4 bp_3
         have hc := rstretch_is p3 p4 d _ E4.out (w_43)
         have HC := Lib.hid hc; clear hc
         go_wp2_with fail
         refine HC.out.mono ?_
         rintro e w_55 ⟨rfl, hb⟩
         clear HC
         clear z_45 z_46 z_47 z_48 z_49 z_50 z_51 z_52 z_53 z_54
         have hb_56 := Lib.hid hb
         clear hb
         replace ba_1 := kH ba_1 hb_56
         obtain ⟨z_57, z_58, z_59⟩ := at3 ba_1
         replace bb_2 := kH bb_2 hb_56
         obtain ⟨z_60, z_61, z_62⟩ := at3 bb_2
         replace bp_3 := kH bp_3 hb_56
         obtain ⟨z_63, z_64, z_65, z_66⟩ := at4 bp_3
         go_wp2
         go_ret
         replace bel_4 := bH (bH (bH (bH bel_4 hb_20) hb_32) hb_44) hb_56
         exact ⟨rfl, bel_4.out⟩
       · rw [if_neg (by simp)]
         have i2 := isStr_ok hs2
         have E4 := Lib.hid hs2; clear hs2
         by_cases hk : p2 - p1 = p4 - p3
         · rw [if_neg (by simpa using hk)]
           have hkb : (p2 - p1 != p4 - p3) = false := by simpa using hk
           clear hk
           go_enter Tryz.func25, Tryz.ntmps25
           obtain ⟨ba_1, bb_2, bp_3, bel_4⟩ := ent3 w #[.int .i64 c, .slice A n k, .slice B m j] 24 #[.int .i64 d, .slice C n2 k2, .slice D m2 j2] 24 #[.int .i64 p1, .int .i64 p2, .int .i64 p3, .int .i64 p4] 28
           have ra_5 := rI h1 bel_4
           have rb_6 := rI h2 bel_4
           have rc_7 := rI h3 bel_4
           have rd_8 := rI h4 bel_4
           clear h1 h2 h3 h4
           obtain ⟨z_9, z_10, z_11⟩ := at3 ba_1
           obtain ⟨z_12, z_13, z_14⟩ := at3 bb_2
           obtain ⟨z_15, z_16, z_17, z_18⟩ := at4 bp_3
           have hc := rCheckOutline_any c A B n k m j ws ts _ ra_5.out rb_6.out hn hm
           rw [E1.out] at hc
           try dsimp only at hc
           have HC := Lib.hid hc; clear hc
           go_wp2_with fail
           refine HC.out.mono ?_
           rintro e w_19 ⟨rfl, hb⟩
           clear HC
           clear z_9 z_10 z_11 z_12 z_13 z_14 z_15 z_16 z_17 z_18
           have hb_20 := Lib.hid hb
           clear hb
           replace ba_1 := kH ba_1 hb_20
           obtain ⟨z_21, z_22, z_23⟩ := at3 ba_1
           replace bb_2 := kH bb_2 hb_20
           obtain ⟨z_24, z_25, z_26⟩ := at3 bb_2
           replace bp_3 := kH bp_3 hb_20
           obtain ⟨z_27, z_28, z_29, z_30⟩ := at4 bp_3
           replace rc_7 := rH rc_7 hb_20
           replace rd_8 := rH rd_8 hb_20
           have hc := rCheckOutline_any d C D n2 k2 m2 j2 ws2 ts2 _ rc_7.out rd_8.out hn2 hm2
           rw [E2.out] at hc
           try dsimp only at hc
           have HC := Lib.hid hc; clear hc
           go_wp2_with fail
           refine HC.out.mono ?_
           rintro e w_31 ⟨rfl, hb⟩
           clear HC
           clear z_21 z_22 z_23 z_24 z_25 z_26 z_27 z_28 z_29 z_30
           have hb_32 := Lib.hid hb
           clear hb
           replace ba_1 := kH ba_1 hb_32
           obtain ⟨z_33, z_34, z_35⟩ := at3 ba_1
           replace bb_2 := kH bb_2 hb_32
           obtain ⟨z_36, z_37, z_38⟩ := at3 bb_2
           replace bp_3 := kH bp_3 hb_32
           obtain ⟨z_39, z_40, z_41, z_42⟩ := at4 bp_3
           have hc := rstretch_is p1 p2 c _ E3.out (w_31)
           have HC := Lib.hid hc; clear hc
           go_wp2_with fail
           refine HC.out.mono ?_
           rintro e w_43 ⟨rfl, hb⟩
           clear HC
           clear z_33 z_34 z_35 z_36 z_37 z_38 z_39 z_40 z_41 z_42
           have hb_44 := Lib.hid hb
           clear hb
           replace ba_1 := kH ba_1 hb_44
           obtain ⟨z_45, z_46, z_47⟩ := at3 ba_1
           replace bb_2 := kH bb_2 hb_44
           obtain ⟨z_48, z_49, z_50⟩ := at3 bb_2
           replace bp_3 := kH bp_3 hb_44
           obtain ⟨z_51, z_52, z_53, z_54⟩ := at4 bp_3
           have hc := rstretch_is p3 p4 d _ E4.out (w_43)
           have HC := Lib.hid hc; clear hc
           go_wp2_with fail
           refine HC.out.mono ?_
           rintro e w_55 ⟨rfl, hb⟩
           clear HC
           clear z_45 z_46 z_47 z_48 z_49 z_50 z_51 z_52 z_53 z_54
           have hb_56 := Lib.hid hb
           clear hb
           replace ba_1 := kH ba_1 hb_56
           obtain ⟨z_57, z_58, z_59⟩ := at3 ba_1
           replace bb_2 := kH bb_2 hb_56
           obtain ⟨z_60, z_61, z_62⟩ := at3 bb_2
           replace bp_3 := kH bp_3 hb_56
           obtain ⟨z_63, z_64, z_65, z_66⟩ := at4 bp_3
           go_wp2
           go_ret
           replace bel_4 := bH (bH (bH (bH bel_4 hb_20) hb_32) hb_44) hb_56
           exact ⟨rfl, bel_4.out⟩
         · rw [if_pos hk]
           have hkb : (p2 - p1 != p4 - p3) = true := by simpa using hk
           clear hk
           go_enter Tryz.func25, Tryz.ntmps25
           obtain ⟨ba_1, bb_2, bp_3, bel_4⟩ := ent3 w #[.int .i64 c, .slice A n k, .slice B m j] 24 #[.int .i64 d, .slice C n2 k2, .slice D m2 j2] 24 #[.int .i64 p1, .int .i64 p2, .int .i64 p3, .int .i64 p4] 28
           have ra_5 := rI h1 bel_4
           have rb_6 := rI h2 bel_4
           have rc_7 := rI h3 bel_4
           have rd_8 := rI h4 bel_4
           clear h1 h2 h3 h4
           obtain ⟨z_9, z_10, z_11⟩ := at3 ba_1
           obtain ⟨z_12, z_13, z_14⟩ := at3 bb_2
           obtain ⟨z_15, z_16, z_17, z_18⟩ := at4 bp_3
           have hc := rCheckOutline_any c A B n k m j ws ts _ ra_5.out rb_6.out hn hm
           rw [E1.out] at hc
           try dsimp only at hc
           have HC := Lib.hid hc; clear hc
           go_wp2_with fail
           refine HC.out.mono ?_
           rintro e w_19 ⟨rfl, hb⟩
           clear HC
           clear z_9 z_10 z_11 z_12 z_13 z_14 z_15 z_16 z_17 z_18
           have hb_20 := Lib.hid hb
           clear hb
           replace ba_1 := kH ba_1 hb_20
           obtain ⟨z_21, z_22, z_23⟩ := at3 ba_1
           replace bb_2 := kH bb_2 hb_20
           obtain ⟨z_24, z_25, z_26⟩ := at3 bb_2
           replace bp_3 := kH bp_3 hb_20
           obtain ⟨z_27, z_28, z_29, z_30⟩ := at4 bp_3
           replace rc_7 := rH rc_7 hb_20
           replace rd_8 := rH rd_8 hb_20
           have hc := rCheckOutline_any d C D n2 k2 m2 j2 ws2 ts2 _ rc_7.out rd_8.out hn2 hm2
           rw [E2.out] at hc
           try dsimp only at hc
           have HC := Lib.hid hc; clear hc
           go_wp2_with fail
           refine HC.out.mono ?_
           rintro e w_31 ⟨rfl, hb⟩
           clear HC
           clear z_21 z_22 z_23 z_24 z_25 z_26 z_27 z_28 z_29 z_30
           have hb_32 := Lib.hid hb
           clear hb
           replace ba_1 := kH ba_1 hb_32
           obtain ⟨z_33, z_34, z_35⟩ := at3 ba_1
           replace bb_2 := kH bb_2 hb_32
           obtain ⟨z_36, z_37, z_38⟩ := at3 bb_2
           replace bp_3 := kH bp_3 hb_32
           obtain ⟨z_39, z_40, z_41, z_42⟩ := at4 bp_3
           have hc := rstretch_is p1 p2 c _ E3.out (w_31)
           have HC := Lib.hid hc; clear hc
           go_wp2_with fail
           refine HC.out.mono ?_
           rintro e w_43 ⟨rfl, hb⟩
           clear HC
           clear z_33 z_34 z_35 z_36 z_37 z_38 z_39 z_40 z_41 z_42
           have hb_44 := Lib.hid hb
           clear hb
           replace ba_1 := kH ba_1 hb_44
           obtain ⟨z_45, z_46, z_47⟩ := at3 ba_1
           replace bb_2 := kH bb_2 hb_44
           obtain ⟨z_48, z_49, z_50⟩ := at3 bb_2
           replace bp_3 := kH bp_3 hb_44
           obtain ⟨z_51, z_52, z_53, z_54⟩ := at4 bp_3
           have hc := rstretch_is p3 p4 d _ E4.out (w_43)
           have HC := Lib.hid hc; clear hc
           go_wp2_with fail
           refine HC.out.mono ?_
           rintro e w_55 ⟨rfl, hb⟩
           clear HC
           clear z_45 z_46 z_47 z_48 z_49 z_50 z_51 z_52 z_53 z_54
           have hb_56 := Lib.hid hb
           clear hb
           replace ba_1 := kH ba_1 hb_56
           obtain ⟨z_57, z_58, z_59⟩ := at3 ba_1
           replace bb_2 := kH bb_2 hb_56
           obtain ⟨z_60, z_61, z_62⟩ := at3 bb_2
           replace bp_3 := kH bp_3 hb_56
           obtain ⟨z_63, z_64, z_65, z_66⟩ := at4 bp_3
           go_wp2
           go_ret
           replace bel_4 := bH (bH (bH (bH bel_4 hb_20) hb_32) hb_44) hb_56
           exact ⟨rfl, bel_4.out⟩
   · have hne : (q2 != 0) = true := by simpa using h00
     rw [if_neg (show ¬ ((0 : Int) ≠ 0) by simp), if_pos h00]
     clear h00 HQ2
     go_enter Tryz.func25, Tryz.ntmps25
     obtain ⟨ba_1, bb_2, bp_3, bel_4⟩ := ent3 w #[.int .i64 c, .slice A n k, .slice B m j] 24 #[.int .i64 d, .slice C n2 k2, .slice D m2 j2] 24 #[.int .i64 p1, .int .i64 p2, .int .i64 p3, .int .i64 p4] 28
     have ra_5 := rI h1 bel_4
     have rb_6 := rI h2 bel_4
     have rc_7 := rI h3 bel_4
     have rd_8 := rI h4 bel_4
     clear h1 h2 h3 h4
     obtain ⟨z_9, z_10, z_11⟩ := at3 ba_1
     obtain ⟨z_12, z_13, z_14⟩ := at3 bb_2
     obtain ⟨z_15, z_16, z_17, z_18⟩ := at4 bp_3
     have hc := rCheckOutline_any c A B n k m j ws ts _ ra_5.out rb_6.out hn hm
     rw [E1.out] at hc
     try dsimp only at hc
     have HC := Lib.hid hc; clear hc
     go_wp2_with fail
     refine HC.out.mono ?_
     rintro e w_19 ⟨rfl, hb⟩
     clear HC
     clear z_9 z_10 z_11 z_12 z_13 z_14 z_15 z_16 z_17 z_18
     have hb_20 := Lib.hid hb
     clear hb
     replace ba_1 := kH ba_1 hb_20
     obtain ⟨z_21, z_22, z_23⟩ := at3 ba_1
     replace bb_2 := kH bb_2 hb_20
     obtain ⟨z_24, z_25, z_26⟩ := at3 bb_2
     replace bp_3 := kH bp_3 hb_20
     obtain ⟨z_27, z_28, z_29, z_30⟩ := at4 bp_3
     replace rc_7 := rH rc_7 hb_20
     replace rd_8 := rH rd_8 hb_20
     have hc := rCheckOutline_any d C D n2 k2 m2 j2 ws2 ts2 _ rc_7.out rd_8.out hn2 hm2
     rw [E2.out] at hc
     try dsimp only at hc
     have HC := Lib.hid hc; clear hc
     go_wp2_with fail
     refine HC.out.mono ?_
     rintro e w_31 ⟨rfl, hb⟩
     clear HC
     clear z_21 z_22 z_23 z_24 z_25 z_26 z_27 z_28 z_29 z_30
     have hb_32 := Lib.hid hb
     clear hb
     replace ba_1 := kH ba_1 hb_32
     obtain ⟨z_33, z_34, z_35⟩ := at3 ba_1
     replace bb_2 := kH bb_2 hb_32
     obtain ⟨z_36, z_37, z_38⟩ := at3 bb_2
     replace bp_3 := kH bp_3 hb_32
     obtain ⟨z_39, z_40, z_41, z_42⟩ := at4 bp_3
     go_wp2
     go_ret
     replace bel_4 := bH (bH bel_4 hb_20) hb_32
     exact ⟨rfl, bel_4.out⟩
 · have hne : (q != 0) = true := by simpa using h0
   have heq : (q == 0) = false := by simpa using h0
   dsimp only
   rw [if_pos h0, if_pos h0]
   clear h0 HQ HQ2
   go_enter Tryz.func25, Tryz.ntmps25
   obtain ⟨ba_1, bb_2, bp_3, bel_4⟩ := ent3 w #[.int .i64 c, .slice A n k, .slice B m j] 24 #[.int .i64 d, .slice C n2 k2, .slice D m2 j2] 24 #[.int .i64 p1, .int .i64 p2, .int .i64 p3, .int .i64 p4] 28
   have ra_5 := rI h1 bel_4
   have rb_6 := rI h2 bel_4
   have rc_7 := rI h3 bel_4
   have rd_8 := rI h4 bel_4
   clear h1 h2 h3 h4
   obtain ⟨z_9, z_10, z_11⟩ := at3 ba_1
   obtain ⟨z_12, z_13, z_14⟩ := at3 bb_2
   obtain ⟨z_15, z_16, z_17, z_18⟩ := at4 bp_3
   have hc := rCheckOutline_any c A B n k m j ws ts _ ra_5.out rb_6.out hn hm
   rw [E1.out] at hc
   try dsimp only at hc
   have HC := Lib.hid hc; clear hc
   go_wp2_with fail
   refine HC.out.mono ?_
   rintro e w_19 ⟨rfl, hb⟩
   clear HC
   clear z_9 z_10 z_11 z_12 z_13 z_14 z_15 z_16 z_17 z_18
   have hb_20 := Lib.hid hb
   clear hb
   replace ba_1 := kH ba_1 hb_20
   obtain ⟨z_21, z_22, z_23⟩ := at3 ba_1
   replace bb_2 := kH bb_2 hb_20
   obtain ⟨z_24, z_25, z_26⟩ := at3 bb_2
   replace bp_3 := kH bp_3 hb_20
   obtain ⟨z_27, z_28, z_29, z_30⟩ := at4 bp_3
   go_wp2
   go_ret
   replace bel_4 := bH bel_4 hb_20
   exact ⟨rfl, bel_4.out⟩
end Go.Proofs.YtaoanagmgheicaaGreat
