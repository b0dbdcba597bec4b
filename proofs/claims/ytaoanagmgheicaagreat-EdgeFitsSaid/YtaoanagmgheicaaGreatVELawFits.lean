import Derived.Test.YtaoanagmgheicaaGreatRows
import Derived.Test.YtaoanagmgheicaaGreatQEAlive
import Derived.Test.YtaoanagmgheicaaGreatQEOpen
import Derived.Test.YtaoanagmgheicaaGreatVEFew
import Derived.Test.YtaoanagmgheicaaGreatVEOpen
import Derived.Test.YtaoanagmgheicaaGreatVERefP
import Derived.Test.YtaoanagmgheicaaGreatVESameB
set_option maxHeartbeats 4000000
set_option linter.unusedSimpArgs false
set_option linter.unusedVariables false
namespace Go.Proofs.YtaoanagmgheicaaGreat
open Go.ChangeShapes Go.WideShapes Go.ChangeAt Go.RowKit
theorem Fit_is (u : Bool) (c : Int) (A B : Option Addr) (n k m j : Nat) (ws ts : List Bnd) (d : Int) (C D : Option Addr) (n2 k2 m2 j2 : Nat) (ws2 ts2 : List Bnd) (p1 p2 p3 p4 : Int) (w : World) (h1 : RdB w A n k ws) (h2 : RdB w B m j ts) (hn : n ≤ maxLen) (hm : m ≤ maxLen) (h3 : RdB w C n2 k2 ws2) (h4 : RdB w D m2 j2 ts2) (hn2 : n2 ≤ maxLen) (hm2 : m2 ≤ maxLen) (q P : Int) (L : List Bnd) (hV : (fitE u ⟨c, ws, ts⟩ ⟨d, ws2, ts2⟩ ⟨p1, p2, p3, p4⟩ = q ∧ (if fitE u ⟨c, ws, ts⟩ ⟨d, ws2, ts2⟩ ⟨p1, p2, p3, p4⟩ = 0 then jP u ⟨c, ws, ts⟩ ⟨d, ws2, ts2⟩ ⟨p1, p2, p3, p4⟩ else 0) = P ∧ (if fitE u ⟨c, ws, ts⟩ ⟨d, ws2, ts2⟩ ⟨p1, p2, p3, p4⟩ = 0 then jL u ⟨c, ws, ts⟩ ⟨d, ws2, ts2⟩ ⟨p1, p2, p3, p4⟩ else []) = L)) : Calls Tryz.prog 27 #[.agg #[.int .i64 c, .slice A n k, .slice B m j], .agg #[.int .i64 d, .slice C n2 k2, .slice D m2 j2], .agg #[.int .i64 p1, .int .i64 p2, .int .i64 p3, .int .i64 p4], .bool u] w fun e w' => ∃ Ar nr kr, e = .returned (.tuple #[.agg #[.int .i64 P, .slice Ar nr kr], .int .i64 q]) ∧ RdB w' Ar nr kr L ∧ nr ≤ maxLen ∧ Below w.heap.size w w' := by
 obtain ⟨rfl, rfl, rfl⟩ := hV
 exact Fit_any u c A B n k m j ws ts d C D n2 k2 m2 j2 ws2 ts2 p1 p2 p3 p4 w h1 h2 hn hm h3 h4 hn2 hm2
theorem rFit_is (u : Bool) (c : Int) (A B : Option Addr) (n k m j : Nat) (ws ts : List Bnd) (d : Int) (C D : Option Addr) (n2 k2 m2 j2 : Nat) (ws2 ts2 : List Bnd) (p1 p2 p3 p4 : Int) (w : World) (h1 : RdB w A n k ws) (h2 : RdB w B m j ts) (hn : n ≤ maxLen) (hm : m ≤ maxLen) (h3 : RdB w C n2 k2 ws2) (h4 : RdB w D m2 j2 ts2) (hn2 : n2 ≤ maxLen) (hm2 : m2 ≤ maxLen) (q P : Int) (L : List Bnd) (hV : (fitE u ⟨c, ws, ts⟩ ⟨d, ws2, ts2⟩ ⟨p1, p2, p3, p4⟩ = q ∧ (if fitE u ⟨c, ws, ts⟩ ⟨d, ws2, ts2⟩ ⟨p1, p2, p3, p4⟩ = 0 then jP u ⟨c, ws, ts⟩ ⟨d, ws2, ts2⟩ ⟨p1, p2, p3, p4⟩ else 0) = P ∧ (if fitE u ⟨c, ws, ts⟩ ⟨d, ws2, ts2⟩ ⟨p1, p2, p3, p4⟩ = 0 then jL u ⟨c, ws, ts⟩ ⟨d, ws2, ts2⟩ ⟨p1, p2, p3, p4⟩ else []) = L)) : Calls Tryz.prog 28 #[.agg #[.int .i64 c, .slice A n k, .slice B m j], .agg #[.int .i64 d, .slice C n2 k2, .slice D m2 j2], .agg #[.int .i64 p1, .int .i64 p2, .int .i64 p3, .int .i64 p4], .bool u] w fun e w' => ∃ Ar nr kr, e = .returned (.tuple #[.agg #[.int .i64 P, .slice Ar nr kr], .int .i64 q]) ∧ RdB w' Ar nr kr L ∧ nr ≤ maxLen ∧ Below w.heap.size w w' := by
 obtain ⟨rfl, rfl, rfl⟩ := hV
 exact rFit_any u c A B n k m j ws ts d C D n2 k2 m2 j2 ws2 ts2 p1 p2 p3 p4 w h1 h2 hn hm h3 h4 hn2 hm2
set_option maxRecDepth 100000 in
theorem xf_a (c : Int) (A B : Option Addr) (n k m j : Nat) (ws ts : List Bnd) (d : Int) (C D : Option Addr) (n2 k2 m2 j2 : Nat) (ws2 ts2 : List Bnd) (p1 p2 p3 p4 : Int) (w : World) (h1 : RdB w A n k ws) (h2 : RdB w B m j ts) (hn : n ≤ maxLen) (hm : m ≤ maxLen) (h3 : RdB w C n2 k2 ws2) (h4 : RdB w D m2 j2 ts2) (hn2 : n2 ≤ maxLen) (hm2 : m2 ≤ maxLen) (u : Bool) (F1 : Hid (fewB n m = false)) : Calls Tryz.prog 4 #[.agg #[.int .i64 c, .slice A n k, .slice B m j], .agg #[.int .i64 d, .slice C n2 k2, .slice D m2 j2], .agg #[.int .i64 p1, .int .i64 p2, .int .i64 p3, .int .i64 p4], .bool u] w fun e w' => e = .returned (.bool true) ∧ Below w.heap.size w w' := by
 go_enter Tryz.func4, Tryz.ntmps4
 obtain ⟨ba_1, bb_2, bp_3, bel_4⟩ := ent3 w #[.int .i64 c, .slice A n k, .slice B m j] 24 #[.int .i64 d, .slice C n2 k2, .slice D m2 j2] 24 #[.int .i64 p1, .int .i64 p2, .int .i64 p3, .int .i64 p4] 28
 have ra_5 := rI h1 bel_4
 have rb_6 := rI h2 bel_4
 have rc_7 := rI h3 bel_4
 have rd_8 := rI h4 bel_4
 clear h1 h2 h3 h4
 obtain ⟨z_9, z_10, z_11⟩ := at3 ba_1
 obtain ⟨z_12, z_13, z_14⟩ := at3 bb_2
 obtain ⟨z_15, z_16, z_17, z_18⟩ := at4 bp_3
 have hc := few3_any c A B n k m j ((((w.alloc (.cells #[.int .i64 c, .slice A n k, .slice B m j] 24)).alloc (.cells #[.int .i64 d, .slice C n2 k2, .slice D m2 j2] 24)).alloc (.cells #[.int .i64 p1, .int .i64 p2, .int .i64 p3, .int .i64 p4] 28)))
 rw [F1.out] at hc
 try dsimp only at hc
 have HC := Lib.hid hc; clear hc
 go_wp2_with fail
 refine HC.out.mono ?_
 rintro e w_19 ⟨rfl, hb⟩
 clear HC
 clear z_9 z_10 z_11 z_12 z_13 z_14 z_15 z_16 z_17 z_18
 have hb_20 := Lib.hid hb
 clear hb
 replace ba_1 := kH ba_1 hb_20
 obtain ⟨z_21, z_22, z_23⟩ := at3 ba_1
 replace bb_2 := kH bb_2 hb_20
 obtain ⟨z_24, z_25, z_26⟩ := at3 bb_2
 replace bp_3 := kH bp_3 hb_20
 obtain ⟨z_27, z_28, z_29, z_30⟩ := at4 bp_3
 have hc := joined_any (w_19)
 have HC := Lib.hid hc; clear hc
 go_wp2_with fail
 refine HC.out.mono ?_
 rintro e w_31 ⟨rfl, hb⟩
 clear HC
 clear z_21 z_22 z_23 z_24 z_25 z_26 z_27 z_28 z_29 z_30
 have hb_32 := Lib.hid hb
 clear hb
 replace ba_1 := kH ba_1 hb_32
 obtain ⟨z_33, z_34, z_35⟩ := at3 ba_1
 replace bb_2 := kH bb_2 hb_32
 obtain ⟨z_36, z_37, z_38⟩ := at3 bb_2
 replace bp_3 := kH bp_3 hb_32
 obtain ⟨z_39, z_40, z_41, z_42⟩ := at4 bp_3
 go_wp2
 go_ret
 replace bel_4 := bH (bH bel_4 hb_20) hb_32
 exact ⟨rfl, bel_4.out⟩
set_option maxRecDepth 100000 in
theorem xf_b (c : Int) (A B : Option Addr) (n k m j : Nat) (ws ts : List Bnd) (d : Int) (C D : Option Addr) (n2 k2 m2 j2 : Nat) (ws2 ts2 : List Bnd) (p1 p2 p3 p4 : Int) (w : World) (h1 : RdB w A n k ws) (h2 : RdB w B m j ts) (hn : n ≤ maxLen) (hm : m ≤ maxLen) (h3 : RdB w C n2 k2 ws2) (h4 : RdB w D m2 j2 ts2) (hn2 : n2 ≤ maxLen) (hm2 : m2 ≤ maxLen) (u : Bool) (F1 : Hid (fewB n m = true)) (F2 : Hid (fewB n2 m2 = false)) : Calls Tryz.prog 4 #[.agg #[.int .i64 c, .slice A n k, .slice B m j], .agg #[.int .i64 d, .slice C n2 k2, .slice D m2 j2], .agg #[.int .i64 p1, .int .i64 p2, .int .i64 p3, .int .i64 p4], .bool u] w fun e w' => e = .returned (.bool true) ∧ Below w.heap.size w w' := by
 go_enter Tryz.func4, Tryz.ntmps4
 obtain ⟨ba_1, bb_2, bp_3, bel_4⟩ := ent3 w #[.int .i64 c, .slice A n k, .slice B m j] 24 #[.int .i64 d, .slice C n2 k2, .slice D m2 j2] 24 #[.int .i64 p1, .int .i64 p2, .int .i64 p3, .int .i64 p4] 28
 have ra_5 := rI h1 bel_4
 have rb_6 := rI h2 bel_4
 have rc_7 := rI h3 bel_4
 have rd_8 := rI h4 bel_4
 clear h1 h2 h3 h4
 obtain ⟨z_9, z_10, z_11⟩ := at3 ba_1
 obtain ⟨z_12, z_13, z_14⟩ := at3 bb_2
 obtain ⟨z_15, z_16, z_17, z_18⟩ := at4 bp_3
 have hc := few3_any c A B n k m j ((((w.alloc (.cells #[.int .i64 c, .slice A n k, .slice B m j] 24)).alloc (.cells #[.int .i64 d, .slice C n2 k2, .slice D m2 j2] 24)).alloc (.cells #[.int .i64 p1, .int .i64 p2, .int .i64 p3, .int .i64 p4] 28)))
 rw [F1.out] at hc
 try dsimp only at hc
 have HC := Lib.hid hc; clear hc
 go_wp2_with fail
 refine HC.out.mono ?_
 rintro e w_19 ⟨rfl, hb⟩
 clear HC
 clear z_9 z_10 z_11 z_12 z_13 z_14 z_15 z_16 z_17 z_18
 have hb_20 := Lib.hid hb
 clear hb
 replace ba_1 := kH ba_1 hb_20
 obtain ⟨z_21, z_22, z_23⟩ := at3 ba_1
 replace bb_2 := kH bb_2 hb_20
 obtain ⟨z_24, z_25, z_26⟩ := at3 bb_2
 replace bp_3 := kH bp_3 hb_20
 obtain ⟨z_27, z_28, z_29, z_30⟩ := at4 bp_3
 have hc := few3_any d C D n2 k2 m2 j2 (w_19)
 rw [F2.out] at hc
 try dsimp only at hc
 have HC := Lib.hid hc; clear hc
 go_wp2_with fail
 refine HC.out.mono ?_
 rintro e w_31 ⟨rfl, hb⟩
 clear HC
 clear z_21 z_22 z_23 z_24 z_25 z_26 z_27 z_28 z_29 z_30
 have hb_32 := Lib.hid hb
 clear hb
 replace ba_1 := kH ba_1 hb_32
 obtain ⟨z_33, z_34, z_35⟩ := at3 ba_1
 replace bb_2 := kH bb_2 hb_32
 obtain ⟨z_36, z_37, z_38⟩ := at3 bb_2
 replace bp_3 := kH bp_3 hb_32
 obtain ⟨z_39, z_40, z_41, z_42⟩ := at4 bp_3
 have hc := joined_any (w_31)
 have HC := Lib.hid hc; clear hc
 go_wp2_with fail
 refine HC.out.mono ?_
 rintro e w_43 ⟨rfl, hb⟩
 clear HC
 clear z_33 z_34 z_35 z_36 z_37 z_38 z_39 z_40 z_41 z_42
 have hb_44 := Lib.hid hb
 clear hb
 replace ba_1 := kH ba_1 hb_44
 obtain ⟨z_45, z_46, z_47⟩ := at3 ba_1
 replace bb_2 := kH bb_2 hb_44
 obtain ⟨z_48, z_49, z_50⟩ := at3 bb_2
 replace bp_3 := kH bp_3 hb_44
 obtain ⟨z_51, z_52, z_53, z_54⟩ := at4 bp_3
 go_wp2
 go_ret
 replace bel_4 := bH (bH (bH bel_4 hb_20) hb_32) hb_44
 exact ⟨rfl, bel_4.out⟩
set_option maxRecDepth 100000 in
theorem xf_ok (c : Int) (A B : Option Addr) (n k m j : Nat) (ws ts : List Bnd) (d : Int) (C D : Option Addr) (n2 k2 m2 j2 : Nat) (ws2 ts2 : List Bnd) (p1 p2 p3 p4 : Int) (w : World) (h1 : RdB w A n k ws) (h2 : RdB w B m j ts) (hn : n ≤ maxLen) (hm : m ≤ maxLen) (h3 : RdB w C n2 k2 ws2) (h4 : RdB w D m2 j2 ts2) (hn2 : n2 ≤ maxLen) (hm2 : m2 ≤ maxLen) (u : Bool) (F1 : Hid (fewB n m = true)) (F2 : Hid (fewB n2 m2 = true)) (q P : Int) (L : List Bnd) (HV : Hid (fitE u ⟨c, ws, ts⟩ ⟨d, ws2, ts2⟩ ⟨p1, p2, p3, p4⟩ = q ∧ (if fitE u ⟨c, ws, ts⟩ ⟨d, ws2, ts2⟩ ⟨p1, p2, p3, p4⟩ = 0 then jP u ⟨c, ws, ts⟩ ⟨d, ws2, ts2⟩ ⟨p1, p2, p3, p4⟩ else 0) = P ∧ (if fitE u ⟨c, ws, ts⟩ ⟨d, ws2, ts2⟩ ⟨p1, p2, p3, p4⟩ = 0 then jL u ⟨c, ws, ts⟩ ⟨d, ws2, ts2⟩ ⟨p1, p2, p3, p4⟩ else []) = L)) : Calls Tryz.prog 4 #[.agg #[.int .i64 c, .slice A n k, .slice B m j], .agg #[.int .i64 d, .slice C n2 k2, .slice D m2 j2], .agg #[.int .i64 p1, .int .i64 p2, .int .i64 p3, .int .i64 p4], .bool u] w fun e w' => e = .returned (.bool true) ∧ Below w.heap.size w w' := by
 go_enter Tryz.func4, Tryz.ntmps4
 obtain ⟨ba_1, bb_2, bp_3, bel_4⟩ := ent3 w #[.int .i64 c, .slice A n k, .slice B m j] 24 #[.int .i64 d, .slice C n2 k2, .slice D m2 j2] 24 #[.int .i64 p1, .int .i64 p2, .int .i64 p3, .int .i64 p4] 28
 have ra_5 := rI h1 bel_4
 have rb_6 := rI h2 bel_4
 have rc_7 := rI h3 bel_4
 have rd_8 := rI h4 bel_4
 clear h1 h2 h3 h4
 obtain ⟨z_9, z_10, z_11⟩ := at3 ba_1
 obtain ⟨z_12, z_13, z_14⟩ := at3 bb_2
 obtain ⟨z_15, z_16, z_17, z_18⟩ := at4 bp_3
 have hc := few3_any c A B n k m j ((((w.alloc (.cells #[.int .i64 c, .slice A n k, .slice B m j] 24)).alloc (.cells #[.int .i64 d, .slice C n2 k2, .slice D m2 j2] 24)).alloc (.cells #[.int .i64 p1, .int .i64 p2, .int .i64 p3, .int .i64 p4] 28)))
 rw [F1.out] at hc
 try dsimp only at hc
 have HC := Lib.hid hc; clear hc
 go_wp2_with fail
 refine HC.out.mono ?_
 rintro e w_19 ⟨rfl, hb⟩
 clear HC
 clear z_9 z_10 z_11 z_12 z_13 z_14 z_15 z_16 z_17 z_18
 have hb_20 := Lib.hid hb
 clear hb
 replace ba_1 := kH ba_1 hb_20
 obtain ⟨z_21, z_22, z_23⟩ := at3 ba_1
 replace bb_2 := kH bb_2 hb_20
 obtain ⟨z_24, z_25, z_26⟩ := at3 bb_2
 replace bp_3 := kH bp_3 hb_20
 obtain ⟨z_27, z_28, z_29, z_30⟩ := at4 bp_3
 have hc := few3_any d C D n2 k2 m2 j2 (w_19)
 rw [F2.out] at hc
 try dsimp only at hc
 have HC := Lib.hid hc; clear hc
 go_wp2_with fail
 refine HC.out.mono ?_
 rintro e w_31 ⟨rfl, hb⟩
 clear HC
 clear z_21 z_22 z_23 z_24 z_25 z_26 z_27 z_28 z_29 z_30
 have hb_32 := Lib.hid hb
 clear hb
 replace ba_1 := kH ba_1 hb_32
 obtain ⟨z_33, z_34, z_35⟩ := at3 ba_1
 replace bb_2 := kH bb_2 hb_32
 obtain ⟨z_36, z_37, z_38⟩ := at3 bb_2
 replace bp_3 := kH bp_3 hb_32
 obtain ⟨z_39, z_40, z_41, z_42⟩ := at4 bp_3
 replace ra_5 := rH (rH ra_5 hb_20) hb_32
 replace rb_6 := rH (rH rb_6 hb_20) hb_32
 replace rc_7 := rH (rH rc_7 hb_20) hb_32
 replace rd_8 := rH (rH rd_8 hb_20) hb_32
 have hc := Fit_is u c A B n k m j ws ts d C D n2 k2 m2 j2 ws2 ts2 p1 p2 p3 p4 _ ra_5.out rb_6.out hn hm rc_7.out rd_8.out hn2 hm2 q P L HV.out
 have HC := Lib.hid hc; clear hc
 go_wp2_with fail
 refine HC.out.mono ?_
 rintro e w_43 ⟨A1, n1_, c1_, rfl, hr1, hm1_, hb⟩
 clear HC
 clear z_33 z_34 z_35 z_36 z_37 z_38 z_39 z_40 z_41 z_42
 have hb_44 := Lib.hid hb
 clear hb
 have s1_45 := Lib.hid (hr1)
 clear hr1
 replace ba_1 := kH ba_1 hb_44
 obtain ⟨z_46, z_47, z_48⟩ := at3 ba_1
 replace bb_2 := kH bb_2 hb_44
 obtain ⟨z_49, z_50, z_51⟩ := at3 bb_2
 replace bp_3 := kH bp_3 hb_44
 obtain ⟨z_52, z_53, z_54, z_55⟩ := at4 bp_3
 obtain ⟨o_, ho_⟩ : ∃ o, o = ((.cells #[.int .i64 P, .slice A1 n1_ c1_] 46) : Obj) := ⟨_, rfl⟩
 replace bel_4 := bA (bH (bH (bH bel_4 hb_20) hb_32) hb_44) o_
 replace ra_5 := rA (rH ra_5 hb_44) o_
 replace rb_6 := rA (rH rb_6 hb_44) o_
 replace rc_7 := rA (rH rc_7 hb_44) o_
 replace rd_8 := rA (rH rd_8 hb_44) o_
 replace ba_1 := kA ba_1 o_
 replace bb_2 := kA bb_2 o_
 replace bp_3 := kA bp_3 o_
 replace s1_45 := rA s1_45 o_
 subst ho_
 have b1_56 := Lib.hid (Blk.new w_43 46 #[.int .i64 P, .slice A1 n1_ c1_])
 obtain ⟨z_57, z_58, z_59⟩ := at3 ba_1
 obtain ⟨z_60, z_61, z_62⟩ := at3 bb_2
 obtain ⟨z_63, z_64, z_65, z_66⟩ := at4 bp_3
 obtain ⟨z_67, z_68⟩ := at2 b1_56
 have hc := rFit_is u c A B n k m j ws ts d C D n2 k2 m2 j2 ws2 ts2 p1 p2 p3 p4 _ ra_5.out rb_6.out hn hm rc_7.out rd_8.out hn2 hm2 q P L HV.out
 have HC := Lib.hid hc; clear hc
 go_wp2_with fail
 refine HC.out.mono ?_
 rintro e w_69 ⟨A2, n2_, c2_, rfl, hr2, hm2_, hb⟩
 clear HC
 clear z_46 z_47 z_48 z_49 z_50 z_51 z_52 z_53 z_54 z_55 z_57 z_58 z_59 z_60 z_61 z_62 z_63 z_64 z_65 z_66 z_67 z_68
 have hb_70 := Lib.hid hb
 clear hb
 have s2_71 := Lib.hid (hr2)
 clear hr2
 replace ba_1 := kH ba_1 hb_70
 obtain ⟨z_72, z_73, z_74⟩ := at3 ba_1
 replace bb_2 := kH bb_2 hb_70
 obtain ⟨z_75, z_76, z_77⟩ := at3 bb_2
 replace bp_3 := kH bp_3 hb_70
 obtain ⟨z_78, z_79, z_80, z_81⟩ := at4 bp_3
 replace b1_56 := kH b1_56 hb_70
 obtain ⟨z_82, z_83⟩ := at2 b1_56
 obtain ⟨o_, ho_⟩ : ∃ o, o = ((.cells #[.int .i64 P, .slice A2 n2_ c2_] 46) : Obj) := ⟨_, rfl⟩
 replace bel_4 := bA (bH bel_4 hb_70) o_
 replace ra_5 := rA (rH ra_5 hb_70) o_
 replace rb_6 := rA (rH rb_6 hb_70) o_
 replace rc_7 := rA (rH rc_7 hb_70) o_
 replace rd_8 := rA (rH rd_8 hb_70) o_
 replace ba_1 := kA ba_1 o_
 replace bb_2 := kA bb_2 o_
 replace bp_3 := kA bp_3 o_
 replace s1_45 := rA (rH s1_45 hb_70) o_
 replace b1_56 := kA b1_56 o_
 replace s2_71 := rA s2_71 o_
 subst ho_
 have b2_84 := Lib.hid (Blk.new w_69 46 #[.int .i64 P, .slice A2 n2_ c2_])
 obtain ⟨z_85, z_86, z_87⟩ := at3 ba_1
 obtain ⟨z_88, z_89, z_90⟩ := at3 bb_2
 obtain ⟨z_91, z_92, z_93, z_94⟩ := at4 bp_3
 obtain ⟨z_95, z_96⟩ := at2 b1_56
 obtain ⟨z_97, z_98⟩ := at2 b2_84
 have hc := joined_any ((w_69.alloc (.cells #[.int .i64 P, .slice A2 n2_ c2_] 46)))
 have HC := Lib.hid hc; clear hc
 go_wp2_with fail
 refine HC.out.mono ?_
 rintro e w_99 ⟨rfl, hb⟩
 clear HC
 clear z_72 z_73 z_74 z_75 z_76 z_77 z_78 z_79 z_80 z_81 z_82 z_83 z_85 z_86 z_87 z_88 z_89 z_90 z_91 z_92 z_93 z_94 z_95 z_96 z_97 z_98
 have hb_100 := Lib.hid hb
 clear hb
 replace ba_1 := kH ba_1 hb_100
 obtain ⟨z_101, z_102, z_103⟩ := at3 ba_1
 replace bb_2 := kH bb_2 hb_100
 obtain ⟨z_104, z_105, z_106⟩ := at3 bb_2
 replace bp_3 := kH bp_3 hb_100
 obtain ⟨z_107, z_108, z_109, z_110⟩ := at4 bp_3
 replace b1_56 := kH b1_56 hb_100
 obtain ⟨z_111, z_112⟩ := at2 b1_56
 replace b2_84 := kH b2_84 hb_100
 obtain ⟨z_113, z_114⟩ := at2 b2_84
 have hqq : (q == q) = true := by simp
 have hpp : (P == P) = true := by simp
 replace s1_45 := rH s1_45 hb_100
 replace s2_71 := rH s2_71 hb_100
 have hc := SameB_true A1 A2 n1_ c1_ n2_ c2_ L _ s1_45.out s2_71.out hm1_
 have HC := Lib.hid hc; clear hc
 go_wp2_with fail
 refine HC.out.mono ?_
 rintro e w_115 ⟨rfl, hb⟩
 clear HC
 clear z_101 z_102 z_103 z_104 z_105 z_106 z_107 z_108 z_109 z_110 z_111 z_112 z_113 z_114
 have hb_116 := Lib.hid hb
 clear hb
 replace ba_1 := kH ba_1 hb_116
 obtain ⟨z_117, z_118, z_119⟩ := at3 ba_1
 replace bb_2 := kH bb_2 hb_116
 obtain ⟨z_120, z_121, z_122⟩ := at3 bb_2
 replace bp_3 := kH bp_3 hb_116
 obtain ⟨z_123, z_124, z_125, z_126⟩ := at4 bp_3
 replace b1_56 := kH b1_56 hb_116
 obtain ⟨z_127, z_128⟩ := at2 b1_56
 replace b2_84 := kH b2_84 hb_116
 obtain ⟨z_129, z_130⟩ := at2 b2_84
 go_wp2
 go_ret
 replace bel_4 := bH (bH bel_4 hb_100) hb_116
 exact ⟨rfl, bel_4.out⟩
set_option maxRecDepth 100000 in
theorem xf_walk (w : World) (c : Int) (A : Option Addr) (n k : Nat) (B : Option Addr) (m j : Nat) (ws ts : List Bnd) (_ : (Lit.int .i64 c).wf = true) (h1 : RdB w A n k ws) (h2 : RdB w B m j ts) (hn : n ≤ maxLen) (hm : m ≤ maxLen) (d : Int) (C : Option Addr) (n2 k2 : Nat) (D : Option Addr) (m2 j2 : Nat) (ws2 ts2 : List Bnd) (_ : (Lit.int .i64 d).wf = true) (h3 : RdB w C n2 k2 ws2) (h4 : RdB w D m2 j2 ts2) (hn2 : n2 ≤ maxLen) (hm2 : m2 ≤ maxLen) (p1 p2 p3 p4 : Int) (u : Bool) : Calls Tryz.prog 4 #[.agg #[.int .i64 c, .slice A n k, .slice B m j], .agg #[.int .i64 d, .slice C n2 k2, .slice D m2 j2], .agg #[.int .i64 p1, .int .i64 p2, .int .i64 p3, .int .i64 p4], .bool u] w fun e w' => e = .returned (.bool true) ∧ Below w.heap.size w w' := by
 cases hf : fewB n m
 · exact xf_a c A B n k m j ws ts d C D n2 k2 m2 j2 ws2 ts2 p1 p2 p3 p4 w h1 h2 hn hm h3 h4 hn2 hm2 u (Lib.hid hf)
 · cases hf2 : fewB n2 m2
   · exact xf_b c A B n k m j ws ts d C D n2 k2 m2 j2 ws2 ts2 p1 p2 p3 p4 w h1 h2 hn hm h3 h4 hn2 hm2 u (Lib.hid hf) (Lib.hid hf2)
   · exact xf_ok c A B n k m j ws ts d C D n2 k2 m2 j2 ws2 ts2 p1 p2 p3 p4 w h1 h2 hn hm h3 h4 hn2 hm2 u (Lib.hid hf) (Lib.hid hf2) _ _ _ (Lib.hid ⟨rfl, rfl, rfl⟩)
set_option maxRecDepth 100000 in
theorem edgeFits_lifted (os : Os) (started : os.Started) (H : Type) (enc : TypeId × Value → H) :
 ReturnsInHanded {} Tryz.checked os 4 .any (Rows.edgeFitsSpec.pre6 enc Tryz.prog Tryz.f4 Rows.edgeFitsRow.domain false) (Rows.edgeFitsSpec.post enc Tryz.prog Tryz.f4 false true false false) := by
 refine returnsInHanded_of_change (C := Tryz.checked) Law.own started (by kernel_rfl) Tryz.func4
  (ChangeSpec.witness6 (enc := enc) (C := Tryz.checked) false ⟨#[], #[.agg #[.int .i64 0, .slice none 0 0, .slice none 0 0], .agg #[.int .i64 0, .slice none 0 0, .slice none 0 0], .agg #[.int .i64 0, .int .i64 0, .int .i64 0, .int .i64 0], .bool false], []⟩ 8 (by kernel_rfl) (by kernel_rfl) (by kernel_rfl) (by kernel_rfl)) ?_
 intro W base args ds gs before hval0 hW hcnd _
 have hval : ∀ (j : Nat) t v, Tryz.f4.params[j]? = some t → args[j]? = some v → Value.okWide Tryz.prog W .any base t v := hval0
 have hW' := hW
 obtain ⟨p, q, hA0, hV, rfl, hfz, hnd⟩ := hW
 have hA : DataW.TrodAll enc Tryz.prog W 0 (fun _ => true) true Tryz.f4.params.toList args.toList ds p := hA0
 rw [Tryz.params4] at hA hval
 obtain ⟨v0, vs0, d0, ds0, p0, q0, hargs, rfl, rfl, h0, r0⟩ := trodAll_cons hA
 obtain ⟨v1, vs1, d1, ds1, p1, q1, rfl, rfl, rfl, h1, r1⟩ := trodAll_cons r0
 obtain ⟨v2, vs2, d2, ds2, p2, q2, rfl, rfl, rfl, h2, r2⟩ := trodAll_cons r1
 obtain ⟨v3, vs3, d3, ds3, p3, q3, rfl, rfl, rfl, h3, r3⟩ := trodAll_cons r2
 obtain ⟨rfl, rfl, rfl⟩ := trodAll_nil r3
 obtain rfl : args = #[v0, v1, v2, v3] := by cases args; simp_all
 obtain ⟨rfl, rfl⟩ := trodVars_none hV
 have k0 := h0
 have lt0 : ∀ x ∈ p0, x.block < W.heap.size := by obtain ⟨m, hm⟩ := k0; exact DataW.trod_lt m _ _ _ hm
 obtain ⟨c0, A0, n0, k0', B0, m0, j0, ws0, ts0, rfl, w0, ra0, rb0, xa0, xb0⟩ := open_outl (hval 0 24 v0 rfl rfl) h0
 have k1 := h1
 have lt1 : ∀ x ∈ p1, x.block < W.heap.size := by obtain ⟨m, hm⟩ := k1; exact DataW.trod_lt m _ _ _ hm
 obtain ⟨c1, A1, n1, k1', B1, m1, j1, ws1, ts1, rfl, w1, ra1, rb1, xa1, xb1⟩ := open_outl (hval 1 24 v1 rfl rfl) h1
 have k2 := h2
 have lt2 : ∀ x ∈ p2, x.block < W.heap.size := by obtain ⟨m, hm⟩ := k2; exact DataW.trod_lt m _ _ _ hm
 obtain ⟨f2, t2, m2, i2, rfl⟩ := open_pair (hval 2 28 v2 rfl rfl) h2
 obtain ⟨a3, rfl, rfl, rfl⟩ := open_bool Tryz.underlying4 (hval 3 4 v3 rfl rfl) h3
 clear hA0 hval0
 refine (xf_walk W c0 A0 n0 k0' B0 m0 j0 ws0 ts0 w0 ra0 rb0 xa0 xb0 c1 A1 n1 k1' B1 m1 j1 ws1 ts1 w1 ra1 rb1 xa1 xb1 f2 t2 m2 i2 a3).mono fun e W' ⟨he, bel⟩ => ?_
 subst he
 exact ⟨_, rfl, _, _, _, [], _, [], hW', trodAll_mk1 (shut_bool Tryz.underlying4 _), (trodAll_cons_mk (Below.trod Law.laidOut (by kernel_rfl) (of_decide_eq_true (by kernel_rfl)) k0 bel lt0) (trodAll_cons_mk (Below.trod Law.laidOut (by kernel_rfl) (of_decide_eq_true (by kernel_rfl)) k1 bel lt1) (trodAll_cons_mk (Below.trod Law.laidOut (by kernel_rfl) (of_decide_eq_true (by kernel_rfl)) k2 bel lt2) (trodAll_cons_mk (shut_bool Tryz.underlying4 a3) trodAll_mk0)))), rfl, bel.frame _, fun h => by cases h⟩
theorem edgeFits_over : Rows.edgeFitsRow.holds Tryz.pinned (OpenSpec.ofChange Rows.edgeFitsSpec) :=
 OpenClaim.holds_of_wide 4 Tryz.f4 rfl rfl rfl rfl rfl rfl rfl ⟨rfl, rfl, rfl, rfl, rfl⟩ rfl rfl rfl rfl rfl (by kernel_rfl) Tryz.func4 (by kernel_rfl)
  (of_decide_eq_true (by kernel_rfl)) (by unfold Func.isWrapper; first | (rw [if_pos (by decide +kernel)]; kernel_rfl) | (rw [if_neg (by decide +kernel)]; exact ⟨rfl, rfl⟩))
  (fun os started H enc _ => edgeFits_lifted os started H enc)
theorem edgeFits_proved : Rows.EdgeFitsSaid := edgeFits_over
end Go.Proofs.YtaoanagmgheicaaGreat
