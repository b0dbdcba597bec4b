import Derived.Test.YtaoanagmgheicaaGreatQESols
import Derived.Test.YtaoanagmgheicaaGreatQEPlaces
import Derived.Test.YtaoanagmgheicaaGreatQRWalk
set_option maxHeartbeats 4000000
set_option linter.unusedSimpArgs false
set_option linter.unusedVariables false
namespace Go.Proofs.YtaoanagmgheicaaGreat
open Go.RowKit
def checkPlaceV (a b : Otl) (p : Prg) (xa xb ya yb : List Int) : Bool × Int := if asked a b p = 0 then (plB a b p xa xb ya yb, 0) else (false, asked a b p)
set_option maxRecDepth 100000 in
theorem isPlacement_is (c : Int) (A B : Option Addr) (n k m j : Nat) (ws ts : List Bnd) (d : Int) (C D : Option Addr) (n2 k2 m2 j2 : Nat) (ws2 ts2 : List Bnd) (p1 p2 p3 p4 : Int) (X1 : Option Addr) (x1 k1 : Nat) (xa : List Int) (X2 : Option Addr) (x2 k2x : Nat) (xb : List Int) (X3 : Option Addr) (x3 k3 : Nat) (ya : List Int) (X4 : Option Addr) (x4 k4 : Nat) (yb : List Int) (w : World) (h1 : RdB w A n k ws) (h2 : RdB w B m j ts) (hn : n ≤ maxLen) (hm : m ≤ maxLen) (h3 : RdB w C n2 k2 ws2) (h4 : RdB w D m2 j2 ts2) (hn2 : n2 ≤ maxLen) (hm2 : m2 ≤ maxLen) (hx0 : RdI w X1 x1 k1 xa) (hl0 : x1 ≤ maxLen) (hx1 : RdI w X2 x2 k2x xb) (hl1 : x2 ≤ maxLen) (hx2 : RdI w X3 x3 k3 ya) (hl2 : x3 ≤ maxLen) (hx3 : RdI w X4 x4 k4 yb) (hl3 : x4 ≤ maxLen) (hq : chkP ⟨c, ws, ts⟩ ⟨d, ws2, ts2⟩ ⟨p1, p2, p3, p4⟩ = 0) :
 Calls Tryz.prog 89 #[.agg #[.int .i64 c, .slice A n k, .slice B m j, .int .i64 d, .slice C n2 k2, .slice D m2 j2, .int .i64 p1, .int .i64 p2, .int .i64 p3, .int .i64 p4], .agg #[.slice X1 x1 k1, .slice X2 x2 k2x, .slice X3 x3 k3, .slice X4 x4 k4]] w fun e w' => e = .returned (.bool (plB ⟨c, ws, ts⟩ ⟨d, ws2, ts2⟩ ⟨p1, p2, p3, p4⟩ xa xb ya yb)) ∧ Below w.heap.size w w' := by
 obtain ⟨oa, ob, sa, sb, hk⟩ := chkP_ok hq
 dsimp only at sa sb hk
 obtain ⟨q1, rfl⟩ := Int.eq_ofNat_of_zero_le sa.1
 obtain ⟨q2, rfl⟩ := Int.eq_ofNat_of_zero_le (show 0 ≤ p2 by omega)
 obtain ⟨q3, rfl⟩ := Int.eq_ofNat_of_zero_le sb.1
 obtain ⟨q4, rfl⟩ := Int.eq_ofNat_of_zero_le (show 0 ≤ p4 by omega)
 exact isPlacement_any c A B n k m j ws ts d C D n2 k2 m2 j2 ws2 ts2 q1 q2 q3 q4 X1 x1 k1 xa X2 x2 k2x xb X3 x3 k3 ya X4 x4 k4 yb w h1 h2 hn hm h3 h4 hn2 hm2 hx0 hl0 hx1 hl1 hx2 hl2 hx3 hl3 hq
set_option maxRecDepth 100000 in
theorem CheckPlace_any (c : Int) (A B : Option Addr) (n k m j : Nat) (ws ts : List Bnd) (d : Int) (C D : Option Addr) (n2 k2 m2 j2 : Nat) (ws2 ts2 : List Bnd) (p1 p2 p3 p4 : Int) (w : World) (h1 : RdB w A n k ws) (h2 : RdB w B m j ts) (hn : n ≤ maxLen) (hm : m ≤ maxLen) (h3 : RdB w C n2 k2 ws2) (h4 : RdB w D m2 j2 ts2) (hn2 : n2 ≤ maxLen) (hm2 : m2 ≤ maxLen) (X1 : Option Addr) (x1 k1 : Nat) (xa : List Int) (X2 : Option Addr) (x2 k2x : Nat) (xb : List Int) (X3 : Option Addr) (x3 k3 : Nat) (ya : List Int) (X4 : Option Addr) (x4 k4 : Nat) (yb : List Int) (hx0 : RdI w X1 x1 k1 xa) (hl0 : x1 ≤ maxLen) (hx1 : RdI w X2 x2 k2x xb) (hl1 : x2 ≤ maxLen) (hx2 : RdI w X3 x3 k3 ya) (hl2 : x3 ≤ maxLen) (hx3 : RdI w X4 x4 k4 yb) (hl3 : x4 ≤ maxLen) : Calls Tryz.prog 38 #[.agg #[.int .i64 c, .slice A n k, .slice B m j], .agg #[.int .i64 d, .slice C n2 k2, .slice D m2 j2], .agg #[.int .i64 p1, .int .i64 p2, .int .i64 p3, .int .i64 p4], .agg #[.slice X1 x1 k1, .slice X2 x2 k2x, .slice X3 x3 k3, .slice X4 x4 k4]] w fun e w' => e = .returned (.tuple #[.bool (checkPlaceV ⟨c, ws, ts⟩ ⟨d, ws2, ts2⟩ ⟨p1, p2, p3, p4⟩ xa xb ya yb).1, .int .i64 (checkPlaceV ⟨c, ws, ts⟩ ⟨d, ws2, ts2⟩ ⟨p1, p2, p3, p4⟩ xa xb ya yb).2]) ∧ Below w.heap.size w w' := by
 unfold checkPlaceV
 by_cases hq : asked ⟨c, ws, ts⟩ ⟨d, ws2, ts2⟩ ⟨p1, p2, p3, p4⟩ = 0
 · rw [if_pos hq]
   have HQ1 := Lib.hid (asked_ok hq).1
   go_enter Tryz.func38, Tryz.ntmps38
   have bel_1 := Lib.hid (show Below w.heap.size w w from Below.refl _ w)
   have ra_2 := Lib.hid (h1)
   clear h1
   have rb_3 := Lib.hid (h2)
   clear h2
   have rc_4 := Lib.hid (h3)
   clear h3
   have rd_5 := Lib.hid (h4)
   clear h4
   have l0_6 := Lib.hid (hx0)
   clear hx0
   have l1_7 := Lib.hid (hx1)
   clear hx1
   have l2_8 := Lib.hid (hx2)
   clear hx2
   have l3_9 := Lib.hid (hx3)
   clear hx3
   obtain ⟨o_, ho_⟩ : ∃ o, o = ((.cells #[.int .i64 c, .slice A n k, .slice B m j] 24) : Obj) := ⟨_, rfl⟩
   replace bel_1 := bA bel_1 o_
   replace ra_2 := rA ra_2 o_
   replace rb_3 := rA rb_3 o_
   replace rc_4 := rA rc_4 o_
   replace rd_5 := rA rd_5 o_
   replace l0_6 := iA l0_6 o_
   replace l1_7 := iA l1_7 o_
   replace l2_8 := iA l2_8 o_
   replace l3_9 := iA l3_9 o_
   subst ho_
   have ba_10 := Lib.hid (Blk.new w 24 #[.int .i64 c, .slice A n k, .slice B m j])
   obtain ⟨o_, ho_⟩ : ∃ o, o = ((.cells #[.int .i64 d, .slice C n2 k2, .slice D m2 j2] 24) : Obj) := ⟨_, rfl⟩
   replace bel_1 := bA bel_1 o_
   replace ra_2 := rA ra_2 o_
   replace rb_3 := rA rb_3 o_
   replace rc_4 := rA rc_4 o_
   replace rd_5 := rA rd_5 o_
   replace l0_6 := iA l0_6 o_
   replace l1_7 := iA l1_7 o_
   replace l2_8 := iA l2_8 o_
   replace l3_9 := iA l3_9 o_
   replace ba_10 := kA ba_10 o_
   subst ho_
   have nb_ := Blk.new (w.alloc (.cells #[.int .i64 c, .slice A n k, .slice B m j] 24)) 24 #[.int .i64 d, .slice C n2 k2, .slice D m2 j2]
   simp only [World.size_alloc] at nb_
   have bb_11 := Lib.hid nb_; clear nb_
   obtain ⟨o_, ho_⟩ : ∃ o, o = ((.cells #[.int .i64 p1, .int .i64 p2, .int .i64 p3, .int .i64 p4] 28) : Obj) := ⟨_, rfl⟩
   replace bel_1 := bA bel_1 o_
   replace ra_2 := rA ra_2 o_
   replace rb_3 := rA rb_3 o_
   replace rc_4 := rA rc_4 o_
   replace rd_5 := rA rd_5 o_
   replace l0_6 := iA l0_6 o_
   replace l1_7 := iA l1_7 o_
   replace l2_8 := iA l2_8 o_
   replace l3_9 := iA l3_9 o_
   replace ba_10 := kA ba_10 o_
   replace bb_11 := kA bb_11 o_
   subst ho_
   have nb_ := Blk.new ((w.alloc (.cells #[.int .i64 c, .slice A n k, .slice B m j] 24)).alloc (.cells #[.int .i64 d, .slice C n2 k2, .slice D m2 j2] 24)) 28 #[.int .i64 p1, .int .i64 p2, .int .i64 p3, .int .i64 p4]
   simp only [World.size_alloc] at nb_
   have bp_12 := Lib.hid nb_; clear nb_
   obtain ⟨o_, ho_⟩ : ∃ o, o = ((.cells #[.slice X1 x1 k1, .slice X2 x2 k2x, .slice X3 x3 k3, .slice X4 x4 k4] 54) : Obj) := ⟨_, rfl⟩
   replace bel_1 := bA bel_1 o_
   replace ra_2 := rA ra_2 o_
   replace rb_3 := rA rb_3 o_
   replace rc_4 := rA rc_4 o_
   replace rd_5 := rA rd_5 o_
   replace l0_6 := iA l0_6 o_
   replace l1_7 := iA l1_7 o_
   replace l2_8 := iA l2_8 o_
   replace l3_9 := iA l3_9 o_
   replace ba_10 := kA ba_10 o_
   replace bb_11 := kA bb_11 o_
   replace bp_12 := kA bp_12 o_
   subst ho_
   have nb_ := Blk.new (((w.alloc (.cells #[.int .i64 c, .slice A n k, .slice B m j] 24)).alloc (.cells #[.int .i64 d, .slice C n2 k2, .slice D m2 j2] 24)).alloc (.cells #[.int .i64 p1, .int .i64 p2, .int .i64 p3, .int .i64 p4] 28)) 54 #[.slice X1 x1 k1, .slice X2 x2 k2x, .slice X3 x3 k3, .slice X4 x4 k4]
   simp only [World.size_alloc] at nb_
   have by_13 := Lib.hid nb_; clear nb_
   obtain ⟨z_14, z_15, z_16⟩ := at3 ba_10
   obtain ⟨z_17, z_18, z_19⟩ := at3 bb_11
   obtain ⟨z_20, z_21, z_22, z_23⟩ := at4 bp_12
   obtain ⟨z_24, z_25, z_26, z_27⟩ := at4 by_13
   have hc := pairOf_yes c A B n k m j ws ts d C D n2 k2 m2 j2 ws2 ts2 p1 p2 p3 p4 _ ra_2.out rb_3.out hn hm rc_4.out rd_5.out hn2 hm2 hq
   have HC := Lib.hid hc; clear hc
   go_wp2_with fail
   refine HC.out.mono ?_
   rintro e w_28 ⟨rfl, hb⟩
   clear HC
   clear z_14 z_15 z_16 z_17 z_18 z_19 z_20 z_21 z_22 z_23 z_24 z_25 z_26 z_27
   have hb_29 := Lib.hid hb
   clear hb
   replace ba_10 := kH ba_10 hb_29
   obtain ⟨z_30, z_31, z_32⟩ := at3 ba_10
   replace bb_11 := kH bb_11 hb_29
   obtain ⟨z_33, z_34, z_35⟩ := at3 bb_11
   replace bp_12 := kH bp_12 hb_29
   obtain ⟨z_36, z_37, z_38, z_39⟩ := at4 bp_12
   replace by_13 := kH by_13 hb_29
   obtain ⟨z_40, z_41, z_42, z_43⟩ := at4 by_13
   clear z_30 z_31 z_32 z_33 z_34 z_35 z_36 z_37 z_38 z_39 z_40 z_41 z_42 z_43
   obtain ⟨o_, ho_⟩ : ∃ o, o = ((.cells #[.int .i64 c, .slice A n k, .slice B m j, .int .i64 d, .slice C n2 k2, .slice D m2 j2, .int .i64 p1, .int .i64 p2, .int .i64 p3, .int .i64 p4] 101) : Obj) := ⟨_, rfl⟩
   replace bel_1 := bA (bH bel_1 hb_29) o_
   replace ra_2 := rA (rH ra_2 hb_29) o_
   replace rb_3 := rA (rH rb_3 hb_29) o_
   replace rc_4 := rA (rH rc_4 hb_29) o_
   replace rd_5 := rA (rH rd_5 hb_29) o_
   replace l0_6 := iA (iH l0_6 hb_29) o_
   replace l1_7 := iA (iH l1_7 hb_29) o_
   replace l2_8 := iA (iH l2_8 hb_29) o_
   replace l3_9 := iA (iH l3_9 hb_29) o_
   replace ba_10 := kA ba_10 o_
   replace bb_11 := kA bb_11 o_
   replace bp_12 := kA bp_12 o_
   replace by_13 := kA by_13 o_
   subst ho_
   have bq_44 := Lib.hid (Blk.new w_28 101 #[.int .i64 c, .slice A n k, .slice B m j, .int .i64 d, .slice C n2 k2, .slice D m2 j2, .int .i64 p1, .int .i64 p2, .int .i64 p3, .int .i64 p4])
   obtain ⟨z_45, z_46, z_47⟩ := at3 ba_10
   obtain ⟨z_48, z_49, z_50⟩ := at3 bb_11
   obtain ⟨z_51, z_52, z_53, z_54⟩ := at4 bp_12
   obtain ⟨z_55, z_56, z_57, z_58⟩ := at4 by_13
   obtain ⟨z_59, z_60, z_61, z_62, z_63, z_64, z_65, z_66, z_67, z_68⟩ := at10 bq_44
   have hc := isPlacement_is c A B n k m j ws ts d C D n2 k2 m2 j2 ws2 ts2 p1 p2 p3 p4 X1 x1 k1 xa X2 x2 k2x xb X3 x3 k3 ya X4 x4 k4 yb _ ra_2.out rb_3.out hn hm rc_4.out rd_5.out hn2 hm2 l0_6.out hl0 l1_7.out hl1 l2_8.out hl2 l3_9.out hl3 HQ1.out
   have HC := Lib.hid hc; clear hc
   go_wp2_with fail
   refine HC.out.mono ?_
   rintro e w_69 ⟨rfl, hb⟩
   clear HC
   clear z_45 z_46 z_47 z_48 z_49 z_50 z_51 z_52 z_53 z_54 z_55 z_56 z_57 z_58 z_59 z_60 z_61 z_62 z_63 z_64 z_65 z_66 z_67 z_68
   have hb_70 := Lib.hid hb
   clear hb
   go_wp2
   go_ret2
   replace bel_1 := bH bel_1 hb_70
   exact ⟨rfl, bel_1.out⟩
 · rw [if_neg hq]
   obtain ⟨q, hq2⟩ : ∃ q, asked ⟨c, ws, ts⟩ ⟨d, ws2, ts2⟩ ⟨p1, p2, p3, p4⟩ = q := ⟨_, rfl⟩
   rw [hq2] at hq
   rw [hq2]
   have hne := hq
   have hqe : (q == 0) = false := by simpa using hq
   clear hq
   have hq := hq2; clear hq2
   dsimp only
   go_enter Tryz.func38, Tryz.ntmps38
   have bel_1 := Lib.hid (show Below w.heap.size w w from Below.refl _ w)
   have ra_2 := Lib.hid (h1)
   clear h1
   have rb_3 := Lib.hid (h2)
   clear h2
   have rc_4 := Lib.hid (h3)
   clear h3
   have rd_5 := Lib.hid (h4)
   clear h4
   have l0_6 := Lib.hid (hx0)
   clear hx0
   have l1_7 := Lib.hid (hx1)
   clear hx1
   have l2_8 := Lib.hid (hx2)
   clear hx2
   have l3_9 := Lib.hid (hx3)
   clear hx3
   obtain ⟨o_, ho_⟩ : ∃ o, o = ((.cells #[.int .i64 c, .slice A n k, .slice B m j] 24) : Obj) := ⟨_, rfl⟩
   replace bel_1 := bA bel_1 o_
   replace ra_2 := rA ra_2 o_
   replace rb_3 := rA rb_3 o_
   replace rc_4 := rA rc_4 o_
   replace rd_5 := rA rd_5 o_
   replace l0_6 := iA l0_6 o_
   replace l1_7 := iA l1_7 o_
   replace l2_8 := iA l2_8 o_
   replace l3_9 := iA l3_9 o_
   subst ho_
   have ba_10 := Lib.hid (Blk.new w 24 #[.int .i64 c, .slice A n k, .slice B m j])
   obtain ⟨o_, ho_⟩ : ∃ o, o = ((.cells #[.int .i64 d, .slice C n2 k2, .slice D m2 j2] 24) : Obj) := ⟨_, rfl⟩
   replace bel_1 := bA bel_1 o_
   replace ra_2 := rA ra_2 o_
   replace rb_3 := rA rb_3 o_
   replace rc_4 := rA rc_4 o_
   replace rd_5 := rA rd_5 o_
   replace l0_6 := iA l0_6 o_
   replace l1_7 := iA l1_7 o_
   replace l2_8 := iA l2_8 o_
   replace l3_9 := iA l3_9 o_
   replace ba_10 := kA ba_10 o_
   subst ho_
   have nb_ := Blk.new (w.alloc (.cells #[.int .i64 c, .slice A n k, .slice B m j] 24)) 24 #[.int .i64 d, .slice C n2 k2, .slice D m2 j2]
   simp only [World.size_alloc] at nb_
   have bb_11 := Lib.hid nb_; clear nb_
   obtain ⟨o_, ho_⟩ : ∃ o, o = ((.cells #[.int .i64 p1, .int .i64 p2, .int .i64 p3, .int .i64 p4] 28) : Obj) := ⟨_, rfl⟩
   replace bel_1 := bA bel_1 o_
   replace ra_2 := rA ra_2 o_
   replace rb_3 := rA rb_3 o_
   replace rc_4 := rA rc_4 o_
   replace rd_5 := rA rd_5 o_
   replace l0_6 := iA l0_6 o_
   replace l1_7 := iA l1_7 o_
   replace l2_8 := iA l2_8 o_
   replace l3_9 := iA l3_9 o_
   replace ba_10 := kA ba_10 o_
   replace bb_11 := kA bb_11 o_
   subst ho_
   have nb_ := Blk.new ((w.alloc (.cells #[.int .i64 c, .slice A n k, .slice B m j] 24)).alloc (.cells #[.int .i64 d, .slice C n2 k2, .slice D m2 j2] 24)) 28 #[.int .i64 p1, .int .i64 p2, .int .i64 p3, .int .i64 p4]
   simp only [World.size_alloc] at nb_
   have bp_12 := Lib.hid nb_; clear nb_
   obtain ⟨o_, ho_⟩ : ∃ o, o = ((.cells #[.slice X1 x1 k1, .slice X2 x2 k2x, .slice X3 x3 k3, .slice X4 x4 k4] 54) : Obj) := ⟨_, rfl⟩
   replace bel_1 := bA bel_1 o_
   replace ra_2 := rA ra_2 o_
   replace rb_3 := rA rb_3 o_
   replace rc_4 := rA rc_4 o_
   replace rd_5 := rA rd_5 o_
   replace l0_6 := iA l0_6 o_
   replace l1_7 := iA l1_7 o_
   replace l2_8 := iA l2_8 o_
   replace l3_9 := iA l3_9 o_
   replace ba_10 := kA ba_10 o_
   replace bb_11 := kA bb_11 o_
   replace bp_12 := kA bp_12 o_
   subst ho_
   have nb_ := Blk.new (((w.alloc (.cells #[.int .i64 c, .slice A n k, .slice B m j] 24)).alloc (.cells #[.int .i64 d, .slice C n2 k2, .slice D m2 j2] 24)).alloc (.cells #[.int .i64 p1, .int .i64 p2, .int .i64 p3, .int .i64 p4] 28)) 54 #[.slice X1 x1 k1, .slice X2 x2 k2x, .slice X3 x3 k3, .slice X4 x4 k4]
   simp only [World.size_alloc] at nb_
   have by_13 := Lib.hid nb_; clear nb_
   obtain ⟨z_14, z_15, z_16⟩ := at3 ba_10
   obtain ⟨z_17, z_18, z_19⟩ := at3 bb_11
   obtain ⟨z_20, z_21, z_22, z_23⟩ := at4 bp_12
   obtain ⟨z_24, z_25, z_26, z_27⟩ := at4 by_13
   have hc := pairOf_no c A B n k m j ws ts d C D n2 k2 m2 j2 ws2 ts2 p1 p2 p3 p4 _ ra_2.out rb_3.out hn hm rc_4.out rd_5.out hn2 hm2 q hq hne
   have HC := Lib.hid hc; clear hc
   go_wp2_with fail
   refine HC.out.mono ?_
   rintro e w_28 ⟨rfl, hb⟩
   clear HC
   clear z_14 z_15 z_16 z_17 z_18 z_19 z_20 z_21 z_22 z_23 z_24 z_25 z_26 z_27
   have hb_29 := Lib.hid hb
   clear hb
   replace ba_10 := kH ba_10 hb_29
   obtain ⟨z_30, z_31, z_32⟩ := at3 ba_10
   replace bb_11 := kH bb_11 hb_29
   obtain ⟨z_33, z_34, z_35⟩ := at3 bb_11
   replace bp_12 := kH bp_12 hb_29
   obtain ⟨z_36, z_37, z_38, z_39⟩ := at4 bp_12
   replace by_13 := kH by_13 hb_29
   obtain ⟨z_40, z_41, z_42, z_43⟩ := at4 by_13
   clear z_30 z_31 z_32 z_33 z_34 z_35 z_36 z_37 z_38 z_39 z_40 z_41 z_42 z_43
   obtain ⟨o_, ho_⟩ : ∃ o, o = ((.cells #[.int .i64 0, .slice none 0 0, .slice none 0 0, .int .i64 0, .slice none 0 0, .slice none 0 0, .int .i64 0, .int .i64 0, .int .i64 0, .int .i64 0] 101) : Obj) := ⟨_, rfl⟩
   replace bel_1 := bA (bH bel_1 hb_29) o_
   replace ra_2 := rA (rH ra_2 hb_29) o_
   replace rb_3 := rA (rH rb_3 hb_29) o_
   replace rc_4 := rA (rH rc_4 hb_29) o_
   replace rd_5 := rA (rH rd_5 hb_29) o_
   replace l0_6 := iA (iH l0_6 hb_29) o_
   replace l1_7 := iA (iH l1_7 hb_29) o_
   replace l2_8 := iA (iH l2_8 hb_29) o_
   replace l3_9 := iA (iH l3_9 hb_29) o_
   replace ba_10 := kA ba_10 o_
   replace bb_11 := kA bb_11 o_
   replace bp_12 := kA bp_12 o_
   replace by_13 := kA by_13 o_
   subst ho_
   have bq_44 := Lib.hid (Blk.new w_28 101 #[.int .i64 0, .slice none 0 0, .slice none 0 0, .int .i64 0, .slice none 0 0, .slice none 0 0, .int .i64 0, .int .i64 0, .int .i64 0, .int .i64 0])
   obtain ⟨z_45, z_46, z_47⟩ := at3 ba_10
   obtain ⟨z_48, z_49, z_50⟩ := at3 bb_11
   obtain ⟨z_51, z_52, z_53, z_54⟩ := at4 bp_12
   obtain ⟨z_55, z_56, z_57, z_58⟩ := at4 by_13
   obtain ⟨z_59, z_60, z_61, z_62, z_63, z_64, z_65, z_66, z_67, z_68⟩ := at10 bq_44
   go_wp2
   go_ret2
   exact ⟨rfl, (by have hsz_ := Below.size bel_1.out; repeat' (first | with_reducible exact bel_1.out | with_reducible exact Below.refl _ _ | with_reducible refine Below.alloc ?_ ?_ _ | with_reducible refine Below.setCell ?_ ?_ _ | with_reducible refine Below.drew ?_ | with_reducible refine below_setRow ?_ ?_ _ | omega | (simp; done) | (simp; omega)))⟩
def withO (u : Bool) (a : Otl) (x : Bnd) : Otl := if u then ⟨a.c, a.ws, a.ts ++ [x]⟩ else ⟨a.c, a.ws ++ [x], a.ts⟩
def withE (u : Bool) (a : Otl) (x : Bnd) : Int := if chkO a ≠ 0 then chkO a else chkO (withO u a x)
def RetO (q : Int) (o : Otl) (w : World) (e : Ending) (w' : World) : Prop :=
 ∃ A n k B m j, e = .returned (.tuple #[.agg #[.int .i64 (if q = 0 then o.c else 0), .slice A n k, .slice B m j], .int .i64 q]) ∧ RdB w' A n k (if q = 0 then o.ws else []) ∧ RdB w' B m j (if q = 0 then o.ts else []) ∧ n ≤ maxLen ∧ m ≤ maxLen ∧ Below w.heap.size w w'
theorem OwnsX.gt {w : World} {base : Nat} {e : TypeId} {size : Nat} {A : Option Addr} {n c : Nat} {xs : List Value} (h : OwnsX w base e size (.slice A n c) n xs) {k : Nat} (hk : k < base) (hc : c ≠ 0) : (Value.slice A n c).ownBlock ≠ some k := by
 intro he
 rcases h.either with ⟨-, h⟩ | ⟨-, h, -⟩
 · have := (h.lt k he).1; omega
 · exact hc h
theorem OwnsX.far {w : World} {base : Nat} {e : TypeId} {size : Nat} {A : Option Addr} {n c : Nat} {xs : List Value} (h : OwnsX w base e size (.slice A n c) n xs) {a : Addr} (ha : c ≠ 0 → (Value.slice A n c).ownBlock ≠ some a.block) (u : Value) : OwnsX (w.setCell a u) base e size (.slice A n c) n xs := by
 rcases h.either with ⟨hc, h⟩ | ⟨h1, h2, h3⟩
 · exact .inl (own_far h (ha hc) u)
 · subst h1 h2 h3
   exact .inr ⟨A, rfl, rfl, rfl⟩
theorem OwnsX.apart {w w' : World} {b1 : Nat} {e : TypeId} {size : Nat} {A B : Option Addr} {n c m d : Nat} {xs ys : List Value} (h1 : OwnsX w b1 e size (.slice A n c) n xs) (h2 : OwnsX w' w.heap.size e size (.slice B m d) m ys) :
 ∀ b o, B = some ⟨b, o, none⟩ → m ≠ 0 → c ≠ 0 → (Value.slice A n c).ownBlock ≠ some b := by
 intro b o hB hm hc he
 rcases h1.either with ⟨-, h1⟩ | ⟨-, h1, -⟩
 · have i1 := (h1.lt b he).2
   rcases h2.either with ⟨-, h2⟩ | ⟨h2, -, -⟩
   · subst hB
     have := (h2.lt b rfl).1
     omega
   · exact hm h2
 · exact hc h1
theorem OwnsX.apart' {w w' : World} {b1 : Nat} {e : TypeId} {size : Nat} {A B : Option Addr} {n c m d : Nat} {xs ys : List Value} (h1 : OwnsX w b1 e size (.slice A n c) n xs) (h2 : OwnsX w' w.heap.size e size (.slice B m d) m ys) :
 ∀ b o, A = some ⟨b, o, none⟩ → n ≠ 0 → d ≠ 0 → (Value.slice B m d).ownBlock ≠ some b := by
 intro b o hA hn hd he
 rcases h2.either with ⟨-, h2⟩ | ⟨-, h2, -⟩
 · have i1 := (h2.lt b he).1
   rcases h1.either with ⟨-, h1⟩ | ⟨h1, -, -⟩
   · subst hA
     have := (h1.lt b rfl).2
     omega
   · exact hn h1
 · exact hd h2
theorem rdB_setN {w : World} {A : Option Addr} {n c : Nat} {l : List Bnd} (h : RdB w A n c l) (a : Addr) (u : Value) {t : TypeId} {cs : Array Value} (hb : Blk w a.block t cs) (hn : ∀ (j : Nat) (x : Int), cs[j + 1]? ≠ some (.int .i64 x)) : RdB (w.setCell a u) A n c l := by
 refine ⟨h.len, h.cap, h.nil, ?_⟩
 rcases h.cells with h0 | ⟨k, o, e, hlt, hj⟩
 · exact .inl h0
 · refine .inr ⟨k, o, e, by rw [show (w.setCell a u).heap.size = w.heap.size by simp]; exact hlt, fun j q hq => ?_⟩
   by_cases hbb : k = a.block
   · exfalso
     subst hbb
     cases l with
     | nil => simp [bcells] at hq
     | cons y l =>
      have h2 := hj 1 (.int .i64 y.t) (by simp [bcells, Bnd.cells])
      rw [hb.cell] at h2
      exact hn o y.t h2
   · rw [World.cell?_of_block (a := ⟨k, o + j, none⟩) (heap_setCell_other w a k u hbb)]
     exact hj j q hq
theorem rdB_far {w w' : World} {A S : Option Addr} {n c m d : Nat} {l : List Bnd} (h : RdB w A n c l) (hk : ∀ k, k < w.heap.size → (d ≠ 0 → (Value.slice S m d).ownBlock ≠ some k) → w'.heap[k]? = w.heap[k]?)
 (hf : ∀ b o, A = some ⟨b, o, none⟩ → n ≠ 0 → d ≠ 0 → (Value.slice S m d).ownBlock ≠ some b) (hs : w.heap.size ≤ w'.heap.size) : RdB w' A n c l := by
 refine ⟨h.len, h.cap, h.nil, ?_⟩
 rcases h.cells with h0 | ⟨b, o, e, hlt, hj⟩
 · exact .inl h0
 · by_cases hn : n = 0
   · left
     have := h.len
     rw [hn] at this
     rw [List.length_eq_zero_iff.1 this]
     rfl
   · refine .inr ⟨b, o, e, Nat.lt_of_lt_of_le hlt hs, fun j u hu => ?_⟩
     rw [World.cell?_of_block (a := ⟨b, o + j, none⟩) (hk b hlt (hf b o e hn))]
     exact hj j u hu
set_option maxRecDepth 100000 in
theorem With_ok1 (c : Int) (A B : Option Addr) (n k m j : Nat) (ws ts : List Bnd) (w : World) (h1 : RdB w A n k ws) (h2 : RdB w B m j ts) (hn : n ≤ maxLen) (hm : m ≤ maxLen) (f t mm ib : Int) (E1 : Hid (chkO ⟨c, ws, ts⟩ = 0)) (q : Int) (E2 : Hid (chkO ⟨c, ws, ts ++ [⟨f, t, mm, ib⟩]⟩ = q)) :
 Calls Tryz.prog 18 #[.agg #[.int .i64 c, .slice A n k, .slice B m j], .bool true, .agg #[.int .i64 f, .int .i64 t, .int .i64 mm, .int .i64 ib]] w (RetO q (withO true ⟨c, ws, ts⟩ ⟨f, t, mm, ib⟩) w) := by
 obtain ⟨i0, hi0, hz0, hz1, hz2⟩ := info_parts infoB
 have HI := Lib.hid hi0; have HZ0 := Lib.hid hz0; have HZ1 := Lib.hid hz1; have HZ2 := Lib.hid hz2; clear hi0 hz0 hz1 hz2
 obtain ⟨-, -, g3, g4⟩ := chkO_ok E1.out
 have HL1 := Lib.hid (chk_ok g3).2.2.1; have HL2 := Lib.hid (chk_ok g4).2.2.1; clear g3 g4
 have HN4 := Lib.hid (rdB_len h1 HL1.out); have HM4 := Lib.hid (rdB_len h2 HL2.out)
 go_enter Tryz.func18, Tryz.ntmps18
 obtain ⟨ba_1, xb_2, bz_3, bel_4⟩ := ent3 w #[.int .i64 c, .slice A n k, .slice B m j] 24 #[.int .i64 f, .int .i64 t, .int .i64 mm, .int .i64 ib] 30 #[.int .i64 0, .slice none 0 0, .slice none 0 0] 24
 have ra_5 := rI h1 bel_4
 have rb_6 := rI h2 bel_4
 clear h1 h2
 obtain ⟨z_7, z_8, z_9⟩ := at3 ba_1
 obtain ⟨z_10, z_11, z_12, z_13⟩ := at4 xb_2
 obtain ⟨z_14, z_15, z_16⟩ := at3 bz_3
 have hc := CheckOutline_any c A B n k m j ws ts _ ra_5.out rb_6.out hn hm
 rw [E1.out] at hc
 try dsimp only at hc
 have HC := Lib.hid hc; clear hc
 go_wp2_with fail
 refine HC.out.mono ?_
 rintro e w_17 ⟨rfl, hb⟩
 clear HC
 clear z_7 z_8 z_9 z_10 z_11 z_12 z_13 z_14 z_15 z_16
 have hb_18 := Lib.hid hb
 clear hb
 replace ba_1 := kH ba_1 hb_18
 obtain ⟨z_19, z_20, z_21⟩ := at3 ba_1
 replace xb_2 := kH xb_2 hb_18
 obtain ⟨z_22, z_23, z_24, z_25⟩ := at4 xb_2
 replace bz_3 := kH bz_3 hb_18
 obtain ⟨z_26, z_27, z_28⟩ := at3 bz_3
 go_wp2_with fail
 clear z_19 z_20 z_21 z_22 z_23 z_24 z_25 z_26 z_27 z_28
 replace bel_4 := bD (bH bel_4 hb_18)
 replace ra_5 := rD (rH ra_5 hb_18)
 replace rb_6 := rD (rH rb_6 hb_18)
 replace ba_1 := kD ba_1
 replace xb_2 := kD xb_2
 replace bz_3 := kD bz_3
 refine wp_region_held_drew (S := (fun W' => Blk W' (w.heap.size) 24 #[.int .i64 c, .slice A n k, .slice B m j])) (by kernel_rfl) ba_1.out (fun _ => ?_)
 obtain ⟨w1310, hw1311⟩ : ∃ w', w' = (w_17.drew) := ⟨_, rfl⟩
 rw [← hw1311] at bel_4 ra_5 rb_6 ba_1 xb_2 bz_3
 rw [← hw1311]
 clear hw1311
 refine' twH 0 ba_1.out ?_
 refine' tkH 1 ba_1.out ?hyR1313 ?_
 case hyR1313 => (rintro W' hS0; have hc0 := Blk.nth hS0 0; clear hS0; go_simp; try with_reducible rfl)
 refine' twH 2 ba_1.out ?_
 refine' tkH 3 ba_1.out ?hyR1315 ?_
 case hyR1315 => (rintro W' hS0; have hc0 := Blk.nth hS0 1; clear hS0; go_simp; try with_reducible rfl)
 try simp only [Act.put, qsA, qsZ, qsS]
 refine' twH 5 ba_1.out ?_
 refine' tkH 6 ba_1.out ?hyR1317 ?_
 case hyR1317 => (rintro W' hS0; have hc0 := Blk.nth hS0 2; clear hS0; go_simp; try with_reducible rfl)
 try simp only [Act.put, qsA, qsZ, qsS]
 refine wpAnyH_ready (rs := [4, 9]) (by kernel_rfl) (by simp) ?_
 refine rdH rfl (fun K hK => ?_) ?_
 · -- 4: call
  have hn4_ : n ≤ 400 := by have h := HL1.out; have h2 := (ra_5.out).len; omega
  go_simp
  go_at_call 61
  refine (ecopied_any A n k ws _ ra_5.out hn4_).mono ?_
  rintro e w1318 ⟨Ac, cc, rfl, hox1, hb1319⟩
  dsimp only
  have hox1 := OwnsX.base hox1 (show w.heap.size + 1 + 1 + 1 ≤ _ from Nat.succ_le_of_lt (Blk.lt (bz_3.out)))
  replace hb1319 := Lib.hid hb1319
  have x1_1320 := Lib.hid (hox1)
  clear hox1
  replace ba_1 := kH ba_1 hb1319
  refine hK.out _ _ ba_1.out (fun _ => ?_); clear hK K
  try simp only [Act.put, qsA, qsZ, qsS]
  refine wpAnyH_ready (rs := [7, 9]) (by kernel_rfl) (by simp) ?_
  refine rdH rfl (fun K hK => ?_) ?_
  · -- 7: call
   replace rb_6 := rH rb_6 hb1319
   replace bz_3 := kH bz_3 hb1319
   have hm4_ : m ≤ 400 := by have h := HL2.out; have h2 := (rb_6.out).len; omega
   go_simp
   go_at_call 61
   refine (ecopied_any B m j ts _ rb_6.out hm4_).mono ?_
   rintro e w1321 ⟨Bc, dc, rfl, hox2, hb1322⟩
   dsimp only
   have HD12 := Lib.hid (OwnsX.apart (x1_1320.out) hox2); have HD21 := Lib.hid (OwnsX.apart' (x1_1320.out) hox2)
   have hox2 := OwnsX.base hox2 (show w.heap.size + 1 + 1 + 1 ≤ _ from Nat.succ_le_of_lt (Blk.lt (bz_3.out)))
   replace hb1322 := Lib.hid hb1322
   have x2_1323 := Lib.hid (hox2)
   clear hox2
   replace ba_1 := kH ba_1 hb1322
   refine hK.out _ _ ba_1.out (fun _ => ?_); clear hK K
   try simp only [Act.put, qsA, qsZ, qsS]
   refine' twH 8 ba_1.out ?_
   try simp only [Act.put, qsA, qsZ, qsS]
   refine oneH 9 rfl fun K hK => ?_
   replace x1_1320 := Lib.hid (OwnsX.below (x1_1320.out) hb1322.out)
   replace bel_4 := bH (bH bel_4 hb1319) hb1322
   replace ra_5 := rH (rH ra_5 hb1319) hb1322
   replace rb_6 := rH rb_6 hb1322
   replace xb_2 := kH (kH xb_2 hb1319) hb1322
   replace bz_3 := kH bz_3 hb1322
   go_simp
   have hne1_ := OwnsX.ne (x1_1320.out) (Nat.le_refl _)
   have hne2_ := OwnsX.ne (x2_1323.out) (Nat.le_refl _)
   have lb1329 := Lib.hid (bel_4.out.size)
   have ne1330 := Lib.hid (Nat.ne_of_lt (Blk.lt ba_1.out))
   have ne1331 := Lib.hid (Nat.ne_of_lt (Blk.lt xb_2.out))
   have ne1332 := Lib.hid (Nat.ne_of_lt (Blk.lt bz_3.out))
   obtain ⟨o_, ho_⟩ : ∃ o, o = (.cells #[.int .i64 0, .slice none 0 0, .slice none 0 0] 24 : Obj) := ⟨_, rfl⟩
   replace bel_4 := bA bel_4 o_
   replace ra_5 := rA ra_5 o_
   replace rb_6 := rA rb_6 o_
   replace ba_1 := kA ba_1 o_
   replace xb_2 := kA xb_2 o_
   replace bz_3 := kA bz_3 o_
   replace x1_1320 := Lib.hid (OwnsX.alloc (x1_1320.out) (o_))
   replace x2_1323 := Lib.hid (OwnsX.alloc (x2_1323.out) (o_))
   subst ho_
   have bo_1333 := Lib.hid (Blk.new (w1321) 24 #[.int .i64 0, .slice none 0 0, .slice none 0 0])
   obtain ⟨g1325, hg1326⟩ : ∃ g, g = (w1321).heap.size := ⟨_, rfl⟩
   obtain ⟨w1327, hw1328⟩ : ∃ w', w' = (w1321).alloc (.cells #[.int .i64 0, .slice none 0 0, .slice none 0 0] 24) := ⟨_, rfl⟩
   rw [← hw1328] at bel_4 ra_5 rb_6 ba_1 xb_2 bz_3 x1_1320 x2_1323 bo_1333
   rw [← hg1326] at lb1329 ne1330 ne1331 ne1332 bo_1333 hne1_ hne2_
   rw [← hg1326, ← hw1328]
   clear hg1326 hw1328
   have HB1 := Lib.hid hne1_; clear hne1_
   have HB2 := Lib.hid hne2_; clear hne2_
   refine hK.out _ _ ba_1.out (fun _ => ?_); clear hK K
   try simp only [Act.put, qsA, qsZ, qsS]
   refine oneH 10 rfl fun K hK => ?_
   have v1334 : (w1327).cell? ⟨g1325, 0, none⟩ = some (.int .i64 0) := Blk.cell (bo_1333.out) 0
   have f1335 : (w1327).frozen? ⟨g1325, 0, none⟩ = false := Blk.frozen (bo_1333.out) 0
   have v1336 : (w1327).cell? ⟨g1325, 1, none⟩ = some (.slice none 0 0) := Blk.cell (bo_1333.out) 1
   have f1337 : (w1327).frozen? ⟨g1325, 1, none⟩ = false := Blk.frozen (bo_1333.out) 1
   have v1338 : (w1327).cell? ⟨g1325, 2, none⟩ = some (.slice none 0 0) := Blk.cell (bo_1333.out) 2
   have f1339 : (w1327).frozen? ⟨g1325, 2, none⟩ = false := Blk.frozen (bo_1333.out) 2
   have hlt_ := Blk.lt (bo_1333.out)
   go_simp
   have k1340 := Lib.hid (Below.setCell (Below.setCell (Below.setCell (bel_4.out) (p := ⟨g1325, 0, none⟩) (lb1329.out) (.int .i64 c)) (p := ⟨g1325, 1, none⟩) (lb1329.out) (.slice Ac n cc)) (p := ⟨g1325, 2, none⟩) (lb1329.out) (.slice Bc m dc))
   have k1341 := Lib.hid (Blk.far (Blk.far (Blk.far (ba_1.out) (p := ⟨g1325, 0, none⟩) (ne1330.out) (.int .i64 c)) (p := ⟨g1325, 1, none⟩) (ne1330.out) (.slice Ac n cc)) (p := ⟨g1325, 2, none⟩) (ne1330.out) (.slice Bc m dc))
   have k1342 := Lib.hid (Blk.far (Blk.far (Blk.far (xb_2.out) (p := ⟨g1325, 0, none⟩) (ne1331.out) (.int .i64 c)) (p := ⟨g1325, 1, none⟩) (ne1331.out) (.slice Ac n cc)) (p := ⟨g1325, 2, none⟩) (ne1331.out) (.slice Bc m dc))
   have k1343 := Lib.hid (Blk.far (Blk.far (Blk.far (bz_3.out) (p := ⟨g1325, 0, none⟩) (ne1332.out) (.int .i64 c)) (p := ⟨g1325, 1, none⟩) (ne1332.out) (.slice Ac n cc)) (p := ⟨g1325, 2, none⟩) (ne1332.out) (.slice Bc m dc))
   have k1344 := Lib.hid (OwnsX.far (OwnsX.far (OwnsX.far (x1_1320.out) (a := ⟨g1325, 0, none⟩) (HB1.out) (.int .i64 c)) (a := ⟨g1325, 1, none⟩) (HB1.out) (.slice Ac n cc)) (a := ⟨g1325, 2, none⟩) (HB1.out) (.slice Bc m dc))
   have k1345 := Lib.hid (OwnsX.far (OwnsX.far (OwnsX.far (x2_1323.out) (a := ⟨g1325, 0, none⟩) (HB2.out) (.int .i64 c)) (a := ⟨g1325, 1, none⟩) (HB2.out) (.slice Ac n cc)) (a := ⟨g1325, 2, none⟩) (HB2.out) (.slice Bc m dc))
   have k1346 := Lib.hid (Blk.set_ (Blk.set_ (Blk.set_ (bo_1333.out) 0 (.int .i64 c)) 1 (.slice Ac n cc)) 2 (.slice Bc m dc))
   obtain ⟨w1347, hw1348⟩ : ∃ w', w' = ((((w1327).setCell ⟨g1325, 0, none⟩ (.int .i64 c)).setCell ⟨g1325, 1, none⟩ (.slice Ac n cc)).setCell ⟨g1325, 2, none⟩ (.slice Bc m dc)) := ⟨_, rfl⟩
   rw [← hw1348] at k1340 k1341 k1342 k1343 k1344 k1345 k1346
   rw [← hw1348]
   clear hw1348 v1334 f1335 v1336 f1337 v1338 f1339 hlt_
   refine hK.out _ _ k1341.out (fun _ => ?_); clear hK K
   try simp only [Act.put, qsA, qsZ, qsS]
   refine wpAnyH_done (by kernel_rfl) ?_ _
   obtain ⟨z_1029, z_1030, z_1031⟩ := at3 k1341
   obtain ⟨z_1032, z_1033, z_1034, z_1035⟩ := at4 k1342
   obtain ⟨z_1036, z_1037, z_1038⟩ := at3 k1343
   obtain ⟨z_1039, z_1040, z_1041⟩ := at3 k1346
   have NB := Lib.hid (Blk.new w1347 30 #[.int .i64 f, .int .i64 t, .int .i64 mm, .int .i64 ib])
   have OX1 := Lib.hid (OwnsX.alloc (k1344.out) (.cells #[.int .i64 f, .int .i64 t, .int .i64 mm, .int .i64 ib] 30))
   have OX2 := Lib.hid (OwnsX.alloc (k1345.out) (.cells #[.int .i64 f, .int .i64 t, .int .i64 mm, .int .i64 ib] 30))
   have BOA := Lib.hid (Blk.alloc (k1346.out) (.cells #[.int .i64 f, .int .i64 t, .int .i64 mm, .int .i64 ib] 30))
   have BZA := Lib.hid (Blk.alloc (k1343.out) (.cells #[.int .i64 f, .int .i64 t, .int .i64 mm, .int .i64 ib] 30))
   have XBA := Lib.hid (Blk.alloc (k1342.out) (.cells #[.int .i64 f, .int .i64 t, .int .i64 mm, .int .i64 ib] 30))
   have BLA := Lib.hid (Below.alloc (k1340.out) ((k1340.out).size) (.cells #[.int .i64 f, .int .i64 t, .int .i64 mm, .int .i64 ib] 30))
   have hsz_ := Nat.succ_le_of_lt (Blk.lt BZA.out); have hbo_ := Blk.lt BOA.out
   have z4_ : (w1347.alloc (.cells #[.int .i64 f, .int .i64 t, .int .i64 mm, .int .i64 ib] 30)).cell? ⟨g1325, 0, none⟩ = some (.int .i64 c) := Blk.cell BOA.out 0
   have hn4_ : n ≤ 400 := HN4.out; have hm4_ : m ≤ 400 := HM4.out
   go_wp2_with (at_builtin; refine wpList_append_X _ rfl (.tmp 28) (.tmp 30) 22 rfl (w.heap.size + 1 + 1 + 1) 30 i0 _ 4 32 Tryz.underlying22 HI.out HZ0.out HZ1.out HZ2.out rfl (by omega) Bc m dc _ rfl OX2.out ⟨w1347.heap.size, 0, none⟩ 1 1 (bcells [⟨f, t, mm, ib⟩]) rfl rfl (cells_add (cs := bcells [⟨f, t, mm, ib⟩]) (show Blk _ _ _ (bcells [⟨f, t, mm, ib⟩]).toArray from NB.out)) (bcells_one _) (by omega) (by unfold maxLen; omega) (by omega) hsz_ ?_; intro g5 c5 w5 hown5 hb5 hg5 hkp5; have HO5 := Lib.hid hown5; have HB5 := Lib.hid hb5; have bo5 := (hkp5 _ hbo_ HB2.out).trans BOA.out; have BO5 := Lib.hid (show Blk w5 g1325 24 #[.int .i64 c, .slice Ac n cc, .slice Bc m dc] from bo5); have RO5 := Lib.hid (rdB_far (rdB_of OX1.out) hkp5 HD21.out hb5.size); clear hown5 hb5 hkp5 bo5; have q0_ : w5.cell? ⟨g1325, 0, none⟩ = some (.int .i64 c) := Blk.cell BO5.out 0; have q1_ : w5.cell? ⟨g1325, 1, none⟩ = some (.slice Ac n cc) := Blk.cell BO5.out 1; have q2_ : w5.cell? ⟨g1325, 2, none⟩ = some (.slice Bc m dc) := Blk.cell BO5.out 2; have q3_ : w5.frozen? ⟨g1325, 2, none⟩ = false := Blk.frozen BO5.out 2)
   have hbz_ : w.heap.size + 1 + 1 ≠ g1325 := ne1332.out; have hlb_ : w.heap.size ≤ g1325 := lb1329.out
   have rdn_ := (OwnB.rd (show OwnB w5 (w.heap.size + 1 + 1 + 1) (some ⟨g5, 0, none⟩) (m + 1) c5 (ts ++ [⟨f, t, mm, ib⟩]) from by have h := HO5.out; rw [← bcells_append] at h; exact h)).1
   have RN := Lib.hid (rdB_setN rdn_ ⟨g1325, 2, none⟩ (.slice (some ⟨g5, 0, none⟩) (m + 1) c5) BO5.out (by intro j x; rcases j with _ | _ | j <;> simp)); have RO := Lib.hid (rdB_setN RO5.out ⟨g1325, 2, none⟩ (.slice (some ⟨g5, 0, none⟩) (m + 1) c5) BO5.out (by intro j x; rcases j with _ | _ | j <;> simp)); clear rdn_
   have BO6 := Lib.hid (Blk.set_ BO5.out 2 (.slice (some ⟨g5, 0, none⟩) (m + 1) c5)); have BZ6 := Lib.hid (Blk.far (Blk.below BZA.out HB5.out (by omega)) (p := ⟨g1325, 2, none⟩) hbz_ (.slice (some ⟨g5, 0, none⟩) (m + 1) c5)); have BL6 := Lib.hid (Below.setCell (Below.trans BLA.out (Below.mono HB5.out (by omega))) (p := ⟨g1325, 2, none⟩) hlb_ (.slice (some ⟨g5, 0, none⟩) (m + 1) c5))
   clear q0_ q1_ q2_ q3_ z4_ hsz_ hbo_ k1343 k1342
   obtain ⟨w6, hw6⟩ : ∃ w', w' = w5.setCell ⟨g1325, 2, none⟩ (.slice (some ⟨g5, 0, none⟩) (m + 1) c5) := ⟨_, rfl⟩
   rw [← hw6] at RN RO BO6 BZ6 BL6 ⊢
   clear hw6
   have hc := CheckOutline_any c Ac (some ⟨g5, 0, none⟩) n cc (m + 1) c5 ws (ts ++ [⟨f, t, mm, ib⟩]) w6 RO.out RN.out (by unfold maxLen; omega) (by unfold maxLen; omega)
   rw [E2.out] at hc
   have HC := Lib.hid hc; clear hc
   refine HC.out.mono ?_
   rintro e w9 ⟨rfl, hb⟩
   clear HC
   have RN9 := Lib.hid (RdB.below RN.out hb); have RO9 := Lib.hid (RdB.below RO.out hb)
   have BO9 := Lib.hid (show Blk w9 g1325 24 #[.int .i64 c, .slice Ac n cc, .slice (some ⟨g5, 0, none⟩) (m + 1) c5] from Blk.keep BO6.out hb); have BZ9 := Lib.hid (show Blk w9 (w.heap.size + 1 + 1) 24 #[.int .i64 0, .slice none 0 0, .slice none 0 0] from Blk.keep BZ6.out hb); have BL9 := Lib.hid (Below.trans BL6.out (Below.mono hb BL6.out.size)); clear RN RO BO6 BZ6 BL6 hb
   have q0_ : w9.cell? ⟨g1325, 0, none⟩ = some (.int .i64 c) := Blk.cell BO9.out 0
   have q1_ : w9.cell? ⟨g1325, 1, none⟩ = some (.slice Ac n cc) := Blk.cell BO9.out 1
   have q2_ : w9.cell? ⟨g1325, 2, none⟩ = some (.slice (some ⟨g5, 0, none⟩) (m + 1) c5) := Blk.cell BO9.out 2
   have y0_ : w9.cell? ⟨w.heap.size + 1 + 1, 0, none⟩ = some (.int .i64 0) := Blk.cell BZ9.out 0
   have f0_ : w9.frozen? ⟨w.heap.size + 1 + 1, 0, none⟩ = false := Blk.frozen BZ9.out 0
   have y1_ : w9.cell? ⟨w.heap.size + 1 + 1, 1, none⟩ = some (.slice none 0 0) := Blk.cell BZ9.out 1
   have f1_ : w9.frozen? ⟨w.heap.size + 1 + 1, 1, none⟩ = false := Blk.frozen BZ9.out 1
   have y2_ : w9.cell? ⟨w.heap.size + 1 + 1, 2, none⟩ = some (.slice none 0 0) := Blk.cell BZ9.out 2
   have f2_ : w9.frozen? ⟨w.heap.size + 1 + 1, 2, none⟩ = false := Blk.frozen BZ9.out 2
   have hlz_ := Blk.lt BZ9.out; have hlo_ := Blk.lt BO9.out
   by_cases hq : q = 0
   · subst hq
     go_wp2
     have bel_ := BL9.out
     refine bodyPost_ret (v := .tuple #[.agg #[.int .i64 c, .slice Ac n cc, .slice (some ⟨g5, 0, none⟩) (m + 1) c5], .int .i64 0]) (by simp [results, Tryz.results18, go_sem, y0_, y1_, y2_, f0_, f1_, f2_]) rfl ?_
     exact ⟨Ac, n, cc, (some ⟨g5, 0, none⟩), (m + 1), c5, rfl, rdB_setN (rdB_setN (rdB_setN (RO9.out) ⟨w.heap.size + 1 + 1, 0, none⟩ (.int .i64 c) (BZ9.out) (by intro j x; rcases j with _ | _ | j <;> simp)) ⟨w.heap.size + 1 + 1, 1, none⟩ (.slice Ac n cc) (Blk.set_ (BZ9.out) 0 (.int .i64 c)) (by intro j x; rcases j with _ | _ | j <;> simp)) ⟨w.heap.size + 1 + 1, 2, none⟩ (.slice (some ⟨g5, 0, none⟩) (m + 1) c5) (Blk.set_ (Blk.set_ (BZ9.out) 0 (.int .i64 c)) 1 (.slice Ac n cc)) (by intro j x; rcases j with _ | _ | j <;> simp), rdB_setN (rdB_setN (rdB_setN (RN9.out) ⟨w.heap.size + 1 + 1, 0, none⟩ (.int .i64 c) (BZ9.out) (by intro j x; rcases j with _ | _ | j <;> simp)) ⟨w.heap.size + 1 + 1, 1, none⟩ (.slice Ac n cc) (Blk.set_ (BZ9.out) 0 (.int .i64 c)) (by intro j x; rcases j with _ | _ | j <;> simp)) ⟨w.heap.size + 1 + 1, 2, none⟩ (.slice (some ⟨g5, 0, none⟩) (m + 1) c5) (Blk.set_ (Blk.set_ (BZ9.out) 0 (.int .i64 c)) 1 (.slice Ac n cc)) (by intro j x; rcases j with _ | _ | j <;> simp), by unfold maxLen; omega, by unfold maxLen; omega, (by have hsz_ := Below.size bel_; repeat' (first | with_reducible exact bel_ | with_reducible exact Below.refl _ _ | with_reducible refine Below.alloc ?_ ?_ _ | with_reducible refine Below.setCell ?_ ?_ _ | with_reducible refine Below.drew ?_ | with_reducible refine below_setRow ?_ ?_ _ | omega | (simp; done) | (simp; omega)))⟩
   · have hne : (q != 0) = true := by simpa using hq
     have HQ := Lib.hid hq; clear hq
     go_wp2
     have bel_ := BL9.out
     refine bodyPost_ret (v := .tuple #[.agg #[.int .i64 0, .slice none 0 0, .slice none 0 0], .int .i64 q]) (by simp [results, Tryz.results18, go_sem, y0_, y1_, y2_, f0_, f1_, f2_]) rfl ?_
     exact ⟨none, 0, 0, none, 0, 0, by rw [if_neg HQ.out], by rw [if_neg HQ.out]; exact RdB.nil_ _, by rw [if_neg HQ.out]; exact RdB.nil_ _, by unfold maxLen; omega, by unfold maxLen; omega, (by have hsz_ := Below.size bel_; repeat' (first | with_reducible exact bel_ | with_reducible exact Below.refl _ _ | with_reducible refine Below.alloc ?_ ?_ _ | with_reducible refine Below.setCell ?_ ?_ _ | with_reducible refine Below.drew ?_ | with_reducible refine below_setRow ?_ ?_ _ | omega | (simp; done) | (simp; omega)))⟩
  refine rdH rfl (fun K hK => ?_) ?_
  · -- 9: alloc
   replace bel_4 := bH bel_4 hb1319
   replace ra_5 := rH ra_5 hb1319
   replace rb_6 := rH rb_6 hb1319
   replace xb_2 := kH xb_2 hb1319
   replace bz_3 := kH bz_3 hb1319
   go_simp
   have hne1_ := OwnsX.ne (x1_1320.out) (Nat.le_refl _)
   have lb1353 := Lib.hid (bel_4.out.size)
   have ne1354 := Lib.hid (Nat.ne_of_lt (Blk.lt ba_1.out))
   have ne1355 := Lib.hid (Nat.ne_of_lt (Blk.lt xb_2.out))
   have ne1356 := Lib.hid (Nat.ne_of_lt (Blk.lt bz_3.out))
   obtain ⟨o_, ho_⟩ : ∃ o, o = (.cells #[.int .i64 0, .slice none 0 0, .slice none 0 0] 24 : Obj) := ⟨_, rfl⟩
   replace bel_4 := bA bel_4 o_
   replace ra_5 := rA ra_5 o_
   replace rb_6 := rA rb_6 o_
   replace ba_1 := kA ba_1 o_
   replace xb_2 := kA xb_2 o_
   replace bz_3 := kA bz_3 o_
   replace x1_1320 := Lib.hid (OwnsX.alloc (x1_1320.out) (o_))
   subst ho_
   have bo_1357 := Lib.hid (Blk.new (w1318) 24 #[.int .i64 0, .slice none 0 0, .slice none 0 0])
   obtain ⟨g1349, hg1350⟩ : ∃ g, g = (w1318).heap.size := ⟨_, rfl⟩
   obtain ⟨w1351, hw1352⟩ : ∃ w', w' = (w1318).alloc (.cells #[.int .i64 0, .slice none 0 0, .slice none 0 0] 24) := ⟨_, rfl⟩
   rw [← hw1352] at bel_4 ra_5 rb_6 ba_1 xb_2 bz_3 x1_1320 bo_1357
   rw [← hg1350] at lb1353 ne1354 ne1355 ne1356 bo_1357 hne1_
   rw [← hg1350, ← hw1352]
   clear hg1350 hw1352
   have HB1 := Lib.hid hne1_; clear hne1_
   refine hK.out _ _ ba_1.out (fun _ => ?_); clear hK K
   try simp only [Act.put, qsA, qsZ, qsS]
   refine oneH 7 rfl fun K hK => ?_
   have hm4_ : m ≤ 400 := by have h := HL2.out; have h2 := (rb_6.out).len; omega
   go_simp
   go_at_call 61
   refine (ecopied_any B m j ts _ rb_6.out hm4_).mono ?_
   rintro e w1358 ⟨Bc, dc, rfl, hox2, hb1359⟩
   dsimp only
   have HB2 := Lib.hid (fun (h0 : dc ≠ 0) => OwnsX.gt hox2 (Blk.lt (bo_1357.out)) h0)
   have HD12 := Lib.hid (OwnsX.apart (x1_1320.out) hox2); have HD21 := Lib.hid (OwnsX.apart' (x1_1320.out) hox2)
   have hox2 := OwnsX.base hox2 (show w.heap.size + 1 + 1 + 1 ≤ _ from Nat.succ_le_of_lt (Blk.lt (bz_3.out)))
   replace hb1359 := Lib.hid hb1359
   have x2_1360 := Lib.hid (hox2)
   clear hox2
   replace ba_1 := kH ba_1 hb1359
   refine hK.out _ _ ba_1.out (fun _ => ?_); clear hK K
   try simp only [Act.put, qsA, qsZ, qsS]
   refine' twH 8 ba_1.out ?_
   try simp only [Act.put, qsA, qsZ, qsS]
   refine oneH 10 rfl fun K hK => ?_
   replace bo_1357 := kH bo_1357 hb1359
   replace bel_4 := bH bel_4 hb1359
   replace ra_5 := rH ra_5 hb1359
   replace rb_6 := rH rb_6 hb1359
   replace xb_2 := kH xb_2 hb1359
   replace bz_3 := kH bz_3 hb1359
   replace x1_1320 := Lib.hid (OwnsX.below (x1_1320.out) hb1359.out)
   have v1362 : (w1358).cell? ⟨g1349, 0, none⟩ = some (.int .i64 0) := Blk.cell (bo_1357.out) 0
   have f1363 : (w1358).frozen? ⟨g1349, 0, none⟩ = false := Blk.frozen (bo_1357.out) 0
   have v1364 : (w1358).cell? ⟨g1349, 1, none⟩ = some (.slice none 0 0) := Blk.cell (bo_1357.out) 1
   have f1365 : (w1358).frozen? ⟨g1349, 1, none⟩ = false := Blk.frozen (bo_1357.out) 1
   have v1366 : (w1358).cell? ⟨g1349, 2, none⟩ = some (.slice none 0 0) := Blk.cell (bo_1357.out) 2
   have f1367 : (w1358).frozen? ⟨g1349, 2, none⟩ = false := Blk.frozen (bo_1357.out) 2
   have hlt_ := Blk.lt (bo_1357.out)
   go_simp
   have k1368 := Lib.hid (Below.setCell (Below.setCell (Below.setCell (bel_4.out) (p := ⟨g1349, 0, none⟩) (lb1353.out) (.int .i64 c)) (p := ⟨g1349, 1, none⟩) (lb1353.out) (.slice Ac n cc)) (p := ⟨g1349, 2, none⟩) (lb1353.out) (.slice Bc m dc))
   have k1369 := Lib.hid (Blk.far (Blk.far (Blk.far (ba_1.out) (p := ⟨g1349, 0, none⟩) (ne1354.out) (.int .i64 c)) (p := ⟨g1349, 1, none⟩) (ne1354.out) (.slice Ac n cc)) (p := ⟨g1349, 2, none⟩) (ne1354.out) (.slice Bc m dc))
   have k1370 := Lib.hid (Blk.far (Blk.far (Blk.far (xb_2.out) (p := ⟨g1349, 0, none⟩) (ne1355.out) (.int .i64 c)) (p := ⟨g1349, 1, none⟩) (ne1355.out) (.slice Ac n cc)) (p := ⟨g1349, 2, none⟩) (ne1355.out) (.slice Bc m dc))
   have k1371 := Lib.hid (Blk.far (Blk.far (Blk.far (bz_3.out) (p := ⟨g1349, 0, none⟩) (ne1356.out) (.int .i64 c)) (p := ⟨g1349, 1, none⟩) (ne1356.out) (.slice Ac n cc)) (p := ⟨g1349, 2, none⟩) (ne1356.out) (.slice Bc m dc))
   have k1372 := Lib.hid (OwnsX.far (OwnsX.far (OwnsX.far (x1_1320.out) (a := ⟨g1349, 0, none⟩) (HB1.out) (.int .i64 c)) (a := ⟨g1349, 1, none⟩) (HB1.out) (.slice Ac n cc)) (a := ⟨g1349, 2, none⟩) (HB1.out) (.slice Bc m dc))
   have k1373 := Lib.hid (Blk.set_ (Blk.set_ (Blk.set_ (bo_1357.out) 0 (.int .i64 c)) 1 (.slice Ac n cc)) 2 (.slice Bc m dc))
   have k1374 := Lib.hid (OwnsX.far (OwnsX.far (OwnsX.far (x2_1360.out) (a := ⟨g1349, 0, none⟩) (HB2.out) (.int .i64 c)) (a := ⟨g1349, 1, none⟩) (HB2.out) (.slice Ac n cc)) (a := ⟨g1349, 2, none⟩) (HB2.out) (.slice Bc m dc))
   obtain ⟨w1375, hw1376⟩ : ∃ w', w' = ((((w1358).setCell ⟨g1349, 0, none⟩ (.int .i64 c)).setCell ⟨g1349, 1, none⟩ (.slice Ac n cc)).setCell ⟨g1349, 2, none⟩ (.slice Bc m dc)) := ⟨_, rfl⟩
   rw [← hw1376] at k1368 k1369 k1370 k1371 k1372 k1373 k1374
   rw [← hw1376]
   clear hw1376 v1362 f1363 v1364 f1365 v1366 f1367 hlt_
   refine hK.out _ _ k1369.out (fun _ => ?_); clear hK K
   try simp only [Act.put, qsA, qsZ, qsS]
   refine wpAnyH_done (by kernel_rfl) ?_ _
   obtain ⟨z_1029, z_1030, z_1031⟩ := at3 k1369
   obtain ⟨z_1032, z_1033, z_1034, z_1035⟩ := at4 k1370
   obtain ⟨z_1036, z_1037, z_1038⟩ := at3 k1371
   obtain ⟨z_1039, z_1040, z_1041⟩ := at3 k1373
   have NB := Lib.hid (Blk.new w1375 30 #[.int .i64 f, .int .i64 t, .int .i64 mm, .int .i64 ib])
   have OX1 := Lib.hid (OwnsX.alloc (k1372.out) (.cells #[.int .i64 f, .int .i64 t, .int .i64 mm, .int .i64 ib] 30))
   have OX2 := Lib.hid (OwnsX.alloc (k1374.out) (.cells #[.int .i64 f, .int .i64 t, .int .i64 mm, .int .i64 ib] 30))
   have BOA := Lib.hid (Blk.alloc (k1373.out) (.cells #[.int .i64 f, .int .i64 t, .int .i64 mm, .int .i64 ib] 30))
   have BZA := Lib.hid (Blk.alloc (k1371.out) (.cells #[.int .i64 f, .int .i64 t, .int .i64 mm, .int .i64 ib] 30))
   have XBA := Lib.hid (Blk.alloc (k1370.out) (.cells #[.int .i64 f, .int .i64 t, .int .i64 mm, .int .i64 ib] 30))
   have BLA := Lib.hid (Below.alloc (k1368.out) ((k1368.out).size) (.cells #[.int .i64 f, .int .i64 t, .int .i64 mm, .int .i64 ib] 30))
   have hsz_ := Nat.succ_le_of_lt (Blk.lt BZA.out); have hbo_ := Blk.lt BOA.out
   have z4_ : (w1375.alloc (.cells #[.int .i64 f, .int .i64 t, .int .i64 mm, .int .i64 ib] 30)).cell? ⟨g1349, 0, none⟩ = some (.int .i64 c) := Blk.cell BOA.out 0
   have hn4_ : n ≤ 400 := HN4.out; have hm4_ : m ≤ 400 := HM4.out
   go_wp2_with (at_builtin; refine wpList_append_X _ rfl (.tmp 28) (.tmp 30) 22 rfl (w.heap.size + 1 + 1 + 1) 30 i0 _ 4 32 Tryz.underlying22 HI.out HZ0.out HZ1.out HZ2.out rfl (by omega) Bc m dc _ rfl OX2.out ⟨w1375.heap.size, 0, none⟩ 1 1 (bcells [⟨f, t, mm, ib⟩]) rfl rfl (cells_add (cs := bcells [⟨f, t, mm, ib⟩]) (show Blk _ _ _ (bcells [⟨f, t, mm, ib⟩]).toArray from NB.out)) (bcells_one _) (by omega) (by unfold maxLen; omega) (by omega) hsz_ ?_; intro g5 c5 w5 hown5 hb5 hg5 hkp5; have HO5 := Lib.hid hown5; have HB5 := Lib.hid hb5; have bo5 := (hkp5 _ hbo_ HB2.out).trans BOA.out; have BO5 := Lib.hid (show Blk w5 g1349 24 #[.int .i64 c, .slice Ac n cc, .slice Bc m dc] from bo5); have RO5 := Lib.hid (rdB_far (rdB_of OX1.out) hkp5 HD21.out hb5.size); clear hown5 hb5 hkp5 bo5; have q0_ : w5.cell? ⟨g1349, 0, none⟩ = some (.int .i64 c) := Blk.cell BO5.out 0; have q1_ : w5.cell? ⟨g1349, 1, none⟩ = some (.slice Ac n cc) := Blk.cell BO5.out 1; have q2_ : w5.cell? ⟨g1349, 2, none⟩ = some (.slice Bc m dc) := Blk.cell BO5.out 2; have q3_ : w5.frozen? ⟨g1349, 2, none⟩ = false := Blk.frozen BO5.out 2)
   have hbz_ : w.heap.size + 1 + 1 ≠ g1349 := ne1356.out; have hlb_ : w.heap.size ≤ g1349 := lb1353.out
   have rdn_ := (OwnB.rd (show OwnB w5 (w.heap.size + 1 + 1 + 1) (some ⟨g5, 0, none⟩) (m + 1) c5 (ts ++ [⟨f, t, mm, ib⟩]) from by have h := HO5.out; rw [← bcells_append] at h; exact h)).1
   have RN := Lib.hid (rdB_setN rdn_ ⟨g1349, 2, none⟩ (.slice (some ⟨g5, 0, none⟩) (m + 1) c5) BO5.out (by intro j x; rcases j with _ | _ | j <;> simp)); have RO := Lib.hid (rdB_setN RO5.out ⟨g1349, 2, none⟩ (.slice (some ⟨g5, 0, none⟩) (m + 1) c5) BO5.out (by intro j x; rcases j with _ | _ | j <;> simp)); clear rdn_
   have BO6 := Lib.hid (Blk.set_ BO5.out 2 (.slice (some ⟨g5, 0, none⟩) (m + 1) c5)); have BZ6 := Lib.hid (Blk.far (Blk.below BZA.out HB5.out (by omega)) (p := ⟨g1349, 2, none⟩) hbz_ (.slice (some ⟨g5, 0, none⟩) (m + 1) c5)); have BL6 := Lib.hid (Below.setCell (Below.trans BLA.out (Below.mono HB5.out (by omega))) (p := ⟨g1349, 2, none⟩) hlb_ (.slice (some ⟨g5, 0, none⟩) (m + 1) c5))
   clear q0_ q1_ q2_ q3_ z4_ hsz_ hbo_ k1371 k1370
   obtain ⟨w6, hw6⟩ : ∃ w', w' = w5.setCell ⟨g1349, 2, none⟩ (.slice (some ⟨g5, 0, none⟩) (m + 1) c5) := ⟨_, rfl⟩
   rw [← hw6] at RN RO BO6 BZ6 BL6 ⊢
   clear hw6
   have hc := CheckOutline_any c Ac (some ⟨g5, 0, none⟩) n cc (m + 1) c5 ws (ts ++ [⟨f, t, mm, ib⟩]) w6 RO.out RN.out (by unfold maxLen; omega) (by unfold maxLen; omega)
   rw [E2.out] at hc
   have HC := Lib.hid hc; clear hc
   refine HC.out.mono ?_
   rintro e w9 ⟨rfl, hb⟩
   clear HC
   have RN9 := Lib.hid (RdB.below RN.out hb); have RO9 := Lib.hid (RdB.below RO.out hb)
   have BO9 := Lib.hid (show Blk w9 g1349 24 #[.int .i64 c, .slice Ac n cc, .slice (some ⟨g5, 0, none⟩) (m + 1) c5] from Blk.keep BO6.out hb); have BZ9 := Lib.hid (show Blk w9 (w.heap.size + 1 + 1) 24 #[.int .i64 0, .slice none 0 0, .slice none 0 0] from Blk.keep BZ6.out hb); have BL9 := Lib.hid (Below.trans BL6.out (Below.mono hb BL6.out.size)); clear RN RO BO6 BZ6 BL6 hb
   have q0_ : w9.cell? ⟨g1349, 0, none⟩ = some (.int .i64 c) := Blk.cell BO9.out 0
   have q1_ : w9.cell? ⟨g1349, 1, none⟩ = some (.slice Ac n cc) := Blk.cell BO9.out 1
   have q2_ : w9.cell? ⟨g1349, 2, none⟩ = some (.slice (some ⟨g5, 0, none⟩) (m + 1) c5) := Blk.cell BO9.out 2
   have y0_ : w9.cell? ⟨w.heap.size + 1 + 1, 0, none⟩ = some (.int .i64 0) := Blk.cell BZ9.out 0
   have f0_ : w9.frozen? ⟨w.heap.size + 1 + 1, 0, none⟩ = false := Blk.frozen BZ9.out 0
   have y1_ : w9.cell? ⟨w.heap.size + 1 + 1, 1, none⟩ = some (.slice none 0 0) := Blk.cell BZ9.out 1
   have f1_ : w9.frozen? ⟨w.heap.size + 1 + 1, 1, none⟩ = false := Blk.frozen BZ9.out 1
   have y2_ : w9.cell? ⟨w.heap.size + 1 + 1, 2, none⟩ = some (.slice none 0 0) := Blk.cell BZ9.out 2
   have f2_ : w9.frozen? ⟨w.heap.size + 1 + 1, 2, none⟩ = false := Blk.frozen BZ9.out 2
   have hlz_ := Blk.lt BZ9.out; have hlo_ := Blk.lt BO9.out
   by_cases hq : q = 0
   · subst hq
     go_wp2
     have bel_ := BL9.out
     refine bodyPost_ret (v := .tuple #[.agg #[.int .i64 c, .slice Ac n cc, .slice (some ⟨g5, 0, none⟩) (m + 1) c5], .int .i64 0]) (by simp [results, Tryz.results18, go_sem, y0_, y1_, y2_, f0_, f1_, f2_]) rfl ?_
     exact ⟨Ac, n, cc, (some ⟨g5, 0, none⟩), (m + 1), c5, rfl, rdB_setN (rdB_setN (rdB_setN (RO9.out) ⟨w.heap.size + 1 + 1, 0, none⟩ (.int .i64 c) (BZ9.out) (by intro j x; rcases j with _ | _ | j <;> simp)) ⟨w.heap.size + 1 + 1, 1, none⟩ (.slice Ac n cc) (Blk.set_ (BZ9.out) 0 (.int .i64 c)) (by intro j x; rcases j with _ | _ | j <;> simp)) ⟨w.heap.size + 1 + 1, 2, none⟩ (.slice (some ⟨g5, 0, none⟩) (m + 1) c5) (Blk.set_ (Blk.set_ (BZ9.out) 0 (.int .i64 c)) 1 (.slice Ac n cc)) (by intro j x; rcases j with _ | _ | j <;> simp), rdB_setN (rdB_setN (rdB_setN (RN9.out) ⟨w.heap.size + 1 + 1, 0, none⟩ (.int .i64 c) (BZ9.out) (by intro j x; rcases j with _ | _ | j <;> simp)) ⟨w.heap.size + 1 + 1, 1, none⟩ (.slice Ac n cc) (Blk.set_ (BZ9.out) 0 (.int .i64 c)) (by intro j x; rcases j with _ | _ | j <;> simp)) ⟨w.heap.size + 1 + 1, 2, none⟩ (.slice (some ⟨g5, 0, none⟩) (m + 1) c5) (Blk.set_ (Blk.set_ (BZ9.out) 0 (.int .i64 c)) 1 (.slice Ac n cc)) (by intro j x; rcases j with _ | _ | j <;> simp), by unfold maxLen; omega, by unfold maxLen; omega, (by have hsz_ := Below.size bel_; repeat' (first | with_reducible exact bel_ | with_reducible exact Below.refl _ _ | with_reducible refine Below.alloc ?_ ?_ _ | with_reducible refine Below.setCell ?_ ?_ _ | with_reducible refine Below.drew ?_ | with_reducible refine below_setRow ?_ ?_ _ | omega | (simp; done) | (simp; omega)))⟩
   · have hne : (q != 0) = true := by simpa using hq
     have HQ := Lib.hid hq; clear hq
     go_wp2
     have bel_ := BL9.out
     refine bodyPost_ret (v := .tuple #[.agg #[.int .i64 0, .slice none 0 0, .slice none 0 0], .int .i64 q]) (by simp [results, Tryz.results18, go_sem, y0_, y1_, y2_, f0_, f1_, f2_]) rfl ?_
     exact ⟨none, 0, 0, none, 0, 0, by rw [if_neg HQ.out], by rw [if_neg HQ.out]; exact RdB.nil_ _, by rw [if_neg HQ.out]; exact RdB.nil_ _, by unfold maxLen; omega, by unfold maxLen; omega, (by have hsz_ := Below.size bel_; repeat' (first | with_reducible exact bel_ | with_reducible exact Below.refl _ _ | with_reducible refine Below.alloc ?_ ?_ _ | with_reducible refine Below.setCell ?_ ?_ _ | with_reducible refine Below.drew ?_ | with_reducible refine below_setRow ?_ ?_ _ | omega | (simp; done) | (simp; omega)))⟩
  exact AllReadyH.nil
 refine rdH rfl (fun K hK => ?_) ?_
 · -- 9: alloc
  go_simp
  have lb1381 := Lib.hid (bel_4.out.size)
  have ne1382 := Lib.hid (Nat.ne_of_lt (Blk.lt ba_1.out))
  have ne1383 := Lib.hid (Nat.ne_of_lt (Blk.lt xb_2.out))
  have ne1384 := Lib.hid (Nat.ne_of_lt (Blk.lt bz_3.out))
  obtain ⟨o_, ho_⟩ : ∃ o, o = (.cells #[.int .i64 0, .slice none 0 0, .slice none 0 0] 24 : Obj) := ⟨_, rfl⟩
  replace bel_4 := bA bel_4 o_
  replace ra_5 := rA ra_5 o_
  replace rb_6 := rA rb_6 o_
  replace ba_1 := kA ba_1 o_
  replace xb_2 := kA xb_2 o_
  replace bz_3 := kA bz_3 o_
  subst ho_
  have bo_1385 := Lib.hid (Blk.new (w1310) 24 #[.int .i64 0, .slice none 0 0, .slice none 0 0])
  obtain ⟨g1377, hg1378⟩ : ∃ g, g = (w1310).heap.size := ⟨_, rfl⟩
  obtain ⟨w1379, hw1380⟩ : ∃ w', w' = (w1310).alloc (.cells #[.int .i64 0, .slice none 0 0, .slice none 0 0] 24) := ⟨_, rfl⟩
  rw [← hw1380] at bel_4 ra_5 rb_6 ba_1 xb_2 bz_3 bo_1385
  rw [← hg1378] at lb1381 ne1382 ne1383 ne1384 bo_1385
  rw [← hg1378, ← hw1380]
  clear hg1378 hw1380
  refine hK.out _ _ ba_1.out (fun _ => ?_); clear hK K
  try simp only [Act.put, qsA, qsZ, qsS]
  refine oneH 4 rfl fun K hK => ?_
  have hn4_ : n ≤ 400 := by have h := HL1.out; have h2 := (ra_5.out).len; omega
  go_simp
  go_at_call 61
  refine (ecopied_any A n k ws _ ra_5.out hn4_).mono ?_
  rintro e w1386 ⟨Ac, cc, rfl, hox1, hb1387⟩
  dsimp only
  have HB1 := Lib.hid (fun (h0 : cc ≠ 0) => OwnsX.gt hox1 (Blk.lt (bo_1385.out)) h0)
  have hox1 := OwnsX.base hox1 (show w.heap.size + 1 + 1 + 1 ≤ _ from Nat.succ_le_of_lt (Blk.lt (bz_3.out)))
  replace hb1387 := Lib.hid hb1387
  have x1_1388 := Lib.hid (hox1)
  clear hox1
  replace ba_1 := kH ba_1 hb1387
  refine hK.out _ _ ba_1.out (fun _ => ?_); clear hK K
  try simp only [Act.put, qsA, qsZ, qsS]
  refine oneH 7 rfl fun K hK => ?_
  replace rb_6 := rH rb_6 hb1387
  replace bo_1385 := kH bo_1385 hb1387
  replace bz_3 := kH bz_3 hb1387
  have hm4_ : m ≤ 400 := by have h := HL2.out; have h2 := (rb_6.out).len; omega
  go_simp
  go_at_call 61
  refine (ecopied_any B m j ts _ rb_6.out hm4_).mono ?_
  rintro e w1389 ⟨Bc, dc, rfl, hox2, hb1390⟩
  dsimp only
  have HB2 := Lib.hid (fun (h0 : dc ≠ 0) => OwnsX.gt hox2 (Blk.lt (bo_1385.out)) h0)
  have HD12 := Lib.hid (OwnsX.apart (x1_1388.out) hox2); have HD21 := Lib.hid (OwnsX.apart' (x1_1388.out) hox2)
  have hox2 := OwnsX.base hox2 (show w.heap.size + 1 + 1 + 1 ≤ _ from Nat.succ_le_of_lt (Blk.lt (bz_3.out)))
  replace hb1390 := Lib.hid hb1390
  have x2_1391 := Lib.hid (hox2)
  clear hox2
  replace ba_1 := kH ba_1 hb1390
  refine hK.out _ _ ba_1.out (fun _ => ?_); clear hK K
  try simp only [Act.put, qsA, qsZ, qsS]
  refine' twH 8 ba_1.out ?_
  try simp only [Act.put, qsA, qsZ, qsS]
  refine oneH 10 rfl fun K hK => ?_
  replace bo_1385 := kH bo_1385 hb1390
  replace bel_4 := bH (bH bel_4 hb1387) hb1390
  replace ra_5 := rH (rH ra_5 hb1387) hb1390
  replace rb_6 := rH rb_6 hb1390
  replace xb_2 := kH (kH xb_2 hb1387) hb1390
  replace bz_3 := kH bz_3 hb1390
  replace x1_1388 := Lib.hid (OwnsX.below (x1_1388.out) hb1390.out)
  have v1393 : (w1389).cell? ⟨g1377, 0, none⟩ = some (.int .i64 0) := Blk.cell (bo_1385.out) 0
  have f1394 : (w1389).frozen? ⟨g1377, 0, none⟩ = false := Blk.frozen (bo_1385.out) 0
  have v1395 : (w1389).cell? ⟨g1377, 1, none⟩ = some (.slice none 0 0) := Blk.cell (bo_1385.out) 1
  have f1396 : (w1389).frozen? ⟨g1377, 1, none⟩ = false := Blk.frozen (bo_1385.out) 1
  have v1397 : (w1389).cell? ⟨g1377, 2, none⟩ = some (.slice none 0 0) := Blk.cell (bo_1385.out) 2
  have f1398 : (w1389).frozen? ⟨g1377, 2, none⟩ = false := Blk.frozen (bo_1385.out) 2
  have hlt_ := Blk.lt (bo_1385.out)
  go_simp
  have k1399 := Lib.hid (Below.setCell (Below.setCell (Below.setCell (bel_4.out) (p := ⟨g1377, 0, none⟩) (lb1381.out) (.int .i64 c)) (p := ⟨g1377, 1, none⟩) (lb1381.out) (.slice Ac n cc)) (p := ⟨g1377, 2, none⟩) (lb1381.out) (.slice Bc m dc))
  have k1400 := Lib.hid (Blk.far (Blk.far (Blk.far (ba_1.out) (p := ⟨g1377, 0, none⟩) (ne1382.out) (.int .i64 c)) (p := ⟨g1377, 1, none⟩) (ne1382.out) (.slice Ac n cc)) (p := ⟨g1377, 2, none⟩) (ne1382.out) (.slice Bc m dc))
  have k1401 := Lib.hid (Blk.far (Blk.far (Blk.far (xb_2.out) (p := ⟨g1377, 0, none⟩) (ne1383.out) (.int .i64 c)) (p := ⟨g1377, 1, none⟩) (ne1383.out) (.slice Ac n cc)) (p := ⟨g1377, 2, none⟩) (ne1383.out) (.slice Bc m dc))
  have k1402 := Lib.hid (Blk.far (Blk.far (Blk.far (bz_3.out) (p := ⟨g1377, 0, none⟩) (ne1384.out) (.int .i64 c)) (p := ⟨g1377, 1, none⟩) (ne1384.out) (.slice Ac n cc)) (p := ⟨g1377, 2, none⟩) (ne1384.out) (.slice Bc m dc))
  have k1403 := Lib.hid (Blk.set_ (Blk.set_ (Blk.set_ (bo_1385.out) 0 (.int .i64 c)) 1 (.slice Ac n cc)) 2 (.slice Bc m dc))
  have k1404 := Lib.hid (OwnsX.far (OwnsX.far (OwnsX.far (x1_1388.out) (a := ⟨g1377, 0, none⟩) (HB1.out) (.int .i64 c)) (a := ⟨g1377, 1, none⟩) (HB1.out) (.slice Ac n cc)) (a := ⟨g1377, 2, none⟩) (HB1.out) (.slice Bc m dc))
  have k1405 := Lib.hid (OwnsX.far (OwnsX.far (OwnsX.far (x2_1391.out) (a := ⟨g1377, 0, none⟩) (HB2.out) (.int .i64 c)) (a := ⟨g1377, 1, none⟩) (HB2.out) (.slice Ac n cc)) (a := ⟨g1377, 2, none⟩) (HB2.out) (.slice Bc m dc))
  obtain ⟨w1406, hw1407⟩ : ∃ w', w' = ((((w1389).setCell ⟨g1377, 0, none⟩ (.int .i64 c)).setCell ⟨g1377, 1, none⟩ (.slice Ac n cc)).setCell ⟨g1377, 2, none⟩ (.slice Bc m dc)) := ⟨_, rfl⟩
  rw [← hw1407] at k1399 k1400 k1401 k1402 k1403 k1404 k1405
  rw [← hw1407]
  clear hw1407 v1393 f1394 v1395 f1396 v1397 f1398 hlt_
  refine hK.out _ _ k1400.out (fun _ => ?_); clear hK K
  try simp only [Act.put, qsA, qsZ, qsS]
  refine wpAnyH_done (by kernel_rfl) ?_ _
  obtain ⟨z_1029, z_1030, z_1031⟩ := at3 k1400
  obtain ⟨z_1032, z_1033, z_1034, z_1035⟩ := at4 k1401
  obtain ⟨z_1036, z_1037, z_1038⟩ := at3 k1402
  obtain ⟨z_1039, z_1040, z_1041⟩ := at3 k1403
  have NB := Lib.hid (Blk.new w1406 30 #[.int .i64 f, .int .i64 t, .int .i64 mm, .int .i64 ib])
  have OX1 := Lib.hid (OwnsX.alloc (k1404.out) (.cells #[.int .i64 f, .int .i64 t, .int .i64 mm, .int .i64 ib] 30))
  have OX2 := Lib.hid (OwnsX.alloc (k1405.out) (.cells #[.int .i64 f, .int .i64 t, .int .i64 mm, .int .i64 ib] 30))
  have BOA := Lib.hid (Blk.alloc (k1403.out) (.cells #[.int .i64 f, .int .i64 t, .int .i64 mm, .int .i64 ib] 30))
  have BZA := Lib.hid (Blk.alloc (k1402.out) (.cells #[.int .i64 f, .int .i64 t, .int .i64 mm, .int .i64 ib] 30))
  have XBA := Lib.hid (Blk.alloc (k1401.out) (.cells #[.int .i64 f, .int .i64 t, .int .i64 mm, .int .i64 ib] 30))
  have BLA := Lib.hid (Below.alloc (k1399.out) ((k1399.out).size) (.cells #[.int .i64 f, .int .i64 t, .int .i64 mm, .int .i64 ib] 30))
  have hsz_ := Nat.succ_le_of_lt (Blk.lt BZA.out); have hbo_ := Blk.lt BOA.out
  have z4_ : (w1406.alloc (.cells #[.int .i64 f, .int .i64 t, .int .i64 mm, .int .i64 ib] 30)).cell? ⟨g1377, 0, none⟩ = some (.int .i64 c) := Blk.cell BOA.out 0
  have hn4_ : n ≤ 400 := HN4.out; have hm4_ : m ≤ 400 := HM4.out
  go_wp2_with (at_builtin; refine wpList_append_X _ rfl (.tmp 28) (.tmp 30) 22 rfl (w.heap.size + 1 + 1 + 1) 30 i0 _ 4 32 Tryz.underlying22 HI.out HZ0.out HZ1.out HZ2.out rfl (by omega) Bc m dc _ rfl OX2.out ⟨w1406.heap.size, 0, none⟩ 1 1 (bcells [⟨f, t, mm, ib⟩]) rfl rfl (cells_add (cs := bcells [⟨f, t, mm, ib⟩]) (show Blk _ _ _ (bcells [⟨f, t, mm, ib⟩]).toArray from NB.out)) (bcells_one _) (by omega) (by unfold maxLen; omega) (by omega) hsz_ ?_; intro g5 c5 w5 hown5 hb5 hg5 hkp5; have HO5 := Lib.hid hown5; have HB5 := Lib.hid hb5; have bo5 := (hkp5 _ hbo_ HB2.out).trans BOA.out; have BO5 := Lib.hid (show Blk w5 g1377 24 #[.int .i64 c, .slice Ac n cc, .slice Bc m dc] from bo5); have RO5 := Lib.hid (rdB_far (rdB_of OX1.out) hkp5 HD21.out hb5.size); clear hown5 hb5 hkp5 bo5; have q0_ : w5.cell? ⟨g1377, 0, none⟩ = some (.int .i64 c) := Blk.cell BO5.out 0; have q1_ : w5.cell? ⟨g1377, 1, none⟩ = some (.slice Ac n cc) := Blk.cell BO5.out 1; have q2_ : w5.cell? ⟨g1377, 2, none⟩ = some (.slice Bc m dc) := Blk.cell BO5.out 2; have q3_ : w5.frozen? ⟨g1377, 2, none⟩ = false := Blk.frozen BO5.out 2)
  have hbz_ : w.heap.size + 1 + 1 ≠ g1377 := ne1384.out; have hlb_ : w.heap.size ≤ g1377 := lb1381.out
  have rdn_ := (OwnB.rd (show OwnB w5 (w.heap.size + 1 + 1 + 1) (some ⟨g5, 0, none⟩) (m + 1) c5 (ts ++ [⟨f, t, mm, ib⟩]) from by have h := HO5.out; rw [← bcells_append] at h; exact h)).1
  have RN := Lib.hid (rdB_setN rdn_ ⟨g1377, 2, none⟩ (.slice (some ⟨g5, 0, none⟩) (m + 1) c5) BO5.out (by intro j x; rcases j with _ | _ | j <;> simp)); have RO := Lib.hid (rdB_setN RO5.out ⟨g1377, 2, none⟩ (.slice (some ⟨g5, 0, none⟩) (m + 1) c5) BO5.out (by intro j x; rcases j with _ | _ | j <;> simp)); clear rdn_
  have BO6 := Lib.hid (Blk.set_ BO5.out 2 (.slice (some ⟨g5, 0, none⟩) (m + 1) c5)); have BZ6 := Lib.hid (Blk.far (Blk.below BZA.out HB5.out (by omega)) (p := ⟨g1377, 2, none⟩) hbz_ (.slice (some ⟨g5, 0, none⟩) (m + 1) c5)); have BL6 := Lib.hid (Below.setCell (Below.trans BLA.out (Below.mono HB5.out (by omega))) (p := ⟨g1377, 2, none⟩) hlb_ (.slice (some ⟨g5, 0, none⟩) (m + 1) c5))
  clear q0_ q1_ q2_ q3_ z4_ hsz_ hbo_ k1402 k1401
  obtain ⟨w6, hw6⟩ : ∃ w', w' = w5.setCell ⟨g1377, 2, none⟩ (.slice (some ⟨g5, 0, none⟩) (m + 1) c5) := ⟨_, rfl⟩
  rw [← hw6] at RN RO BO6 BZ6 BL6 ⊢
  clear hw6
  have hc := CheckOutline_any c Ac (some ⟨g5, 0, none⟩) n cc (m + 1) c5 ws (ts ++ [⟨f, t, mm, ib⟩]) w6 RO.out RN.out (by unfold maxLen; omega) (by unfold maxLen; omega)
  rw [E2.out] at hc
  have HC := Lib.hid hc; clear hc
  refine HC.out.mono ?_
  rintro e w9 ⟨rfl, hb⟩
  clear HC
  have RN9 := Lib.hid (RdB.below RN.out hb); have RO9 := Lib.hid (RdB.below RO.out hb)
  have BO9 := Lib.hid (show Blk w9 g1377 24 #[.int .i64 c, .slice Ac n cc, .slice (some ⟨g5, 0, none⟩) (m + 1) c5] from Blk.keep BO6.out hb); have BZ9 := Lib.hid (show Blk w9 (w.heap.size + 1 + 1) 24 #[.int .i64 0, .slice none 0 0, .slice none 0 0] from Blk.keep BZ6.out hb); have BL9 := Lib.hid (Below.trans BL6.out (Below.mono hb BL6.out.size)); clear RN RO BO6 BZ6 BL6 hb
  have q0_ : w9.cell? ⟨g1377, 0, none⟩ = some (.int .i64 c) := Blk.cell BO9.out 0
  have q1_ : w9.cell? ⟨g1377, 1, none⟩ = some (.slice Ac n cc) := Blk.cell BO9.out 1
  have q2_ : w9.cell? ⟨g1377, 2, none⟩ = some (.slice (some ⟨g5, 0, none⟩) (m + 1) c5) := Blk.cell BO9.out 2
  have y0_ : w9.cell? ⟨w.heap.size + 1 + 1, 0, none⟩ = some (.int .i64 0) := Blk.cell BZ9.out 0
  have f0_ : w9.frozen? ⟨w.heap.size + 1 + 1, 0, none⟩ = false := Blk.frozen BZ9.out 0
  have y1_ : w9.cell? ⟨w.heap.size + 1 + 1, 1, none⟩ = some (.slice none 0 0) := Blk.cell BZ9.out 1
  have f1_ : w9.frozen? ⟨w.heap.size + 1 + 1, 1, none⟩ = false := Blk.frozen BZ9.out 1
  have y2_ : w9.cell? ⟨w.heap.size + 1 + 1, 2, none⟩ = some (.slice none 0 0) := Blk.cell BZ9.out 2
  have f2_ : w9.frozen? ⟨w.heap.size + 1 + 1, 2, none⟩ = false := Blk.frozen BZ9.out 2
  have hlz_ := Blk.lt BZ9.out; have hlo_ := Blk.lt BO9.out
  by_cases hq : q = 0
  · subst hq
    go_wp2
    have bel_ := BL9.out
    refine bodyPost_ret (v := .tuple #[.agg #[.int .i64 c, .slice Ac n cc, .slice (some ⟨g5, 0, none⟩) (m + 1) c5], .int .i64 0]) (by simp [results, Tryz.results18, go_sem, y0_, y1_, y2_, f0_, f1_, f2_]) rfl ?_
    exact ⟨Ac, n, cc, (some ⟨g5, 0, none⟩), (m + 1), c5, rfl, rdB_setN (rdB_setN (rdB_setN (RO9.out) ⟨w.heap.size + 1 + 1, 0, none⟩ (.int .i64 c) (BZ9.out) (by intro j x; rcases j with _ | _ | j <;> simp)) ⟨w.heap.size + 1 + 1, 1, none⟩ (.slice Ac n cc) (Blk.set_ (BZ9.out) 0 (.int .i64 c)) (by intro j x; rcases j with _ | _ | j <;> simp)) ⟨w.heap.size + 1 + 1, 2, none⟩ (.slice (some ⟨g5, 0, none⟩) (m + 1) c5) (Blk.set_ (Blk.set_ (BZ9.out) 0 (.int .i64 c)) 1 (.slice Ac n cc)) (by intro j x; rcases j with _ | _ | j <;> simp), rdB_setN (rdB_setN (rdB_setN (RN9.out) ⟨w.heap.size + 1 + 1, 0, none⟩ (.int .i64 c) (BZ9.out) (by intro j x; rcases j with _ | _ | j <;> simp)) ⟨w.heap.size + 1 + 1, 1, none⟩ (.slice Ac n cc) (Blk.set_ (BZ9.out) 0 (.int .i64 c)) (by intro j x; rcases j with _ | _ | j <;> simp)) ⟨w.heap.size + 1 + 1, 2, none⟩ (.slice (some ⟨g5, 0, none⟩) (m + 1) c5) (Blk.set_ (Blk.set_ (BZ9.out) 0 (.int .i64 c)) 1 (.slice Ac n cc)) (by intro j x; rcases j with _ | _ | j <;> simp), by unfold maxLen; omega, by unfold maxLen; omega, (by have hsz_ := Below.size bel_; repeat' (first | with_reducible exact bel_ | with_reducible exact Below.refl _ _ | with_reducible refine Below.alloc ?_ ?_ _ | with_reducible refine Below.setCell ?_ ?_ _ | with_reducible refine Below.drew ?_ | with_reducible refine below_setRow ?_ ?_ _ | omega | (simp; done) | (simp; omega)))⟩
  · have hne : (q != 0) = true := by simpa using hq
    have HQ := Lib.hid hq; clear hq
    go_wp2
    have bel_ := BL9.out
    refine bodyPost_ret (v := .tuple #[.agg #[.int .i64 0, .slice none 0 0, .slice none 0 0], .int .i64 q]) (by simp [results, Tryz.results18, go_sem, y0_, y1_, y2_, f0_, f1_, f2_]) rfl ?_
    exact ⟨none, 0, 0, none, 0, 0, by rw [if_neg HQ.out], by rw [if_neg HQ.out]; exact RdB.nil_ _, by rw [if_neg HQ.out]; exact RdB.nil_ _, by unfold maxLen; omega, by unfold maxLen; omega, (by have hsz_ := Below.size bel_; repeat' (first | with_reducible exact bel_ | with_reducible exact Below.refl _ _ | with_reducible refine Below.alloc ?_ ?_ _ | with_reducible refine Below.setCell ?_ ?_ _ | with_reducible refine Below.drew ?_ | with_reducible refine below_setRow ?_ ?_ _ | omega | (simp; done) | (simp; omega)))⟩
 exact AllReadyH.nil
set_option maxRecDepth 100000 in
theorem With_ok0 (c : Int) (A B : Option Addr) (n k m j : Nat) (ws ts : List Bnd) (w : World) (h1 : RdB w A n k ws) (h2 : RdB w B m j ts) (hn : n ≤ maxLen) (hm : m ≤ maxLen) (f t mm ib : Int) (E1 : Hid (chkO ⟨c, ws, ts⟩ = 0)) (q : Int) (E2 : Hid (chkO ⟨c, ws ++ [⟨f, t, mm, ib⟩], ts⟩ = q)) :
 Calls Tryz.prog 18 #[.agg #[.int .i64 c, .slice A n k, .slice B m j], .bool false, .agg #[.int .i64 f, .int .i64 t, .int .i64 mm, .int .i64 ib]] w (RetO q (withO false ⟨c, ws, ts⟩ ⟨f, t, mm, ib⟩) w) := by
 obtain ⟨i0, hi0, hz0, hz1, hz2⟩ := info_parts infoB
 have HI := Lib.hid hi0; have HZ0 := Lib.hid hz0; have HZ1 := Lib.hid hz1; have HZ2 := Lib.hid hz2; clear hi0 hz0 hz1 hz2
 obtain ⟨-, -, g3, g4⟩ := chkO_ok E1.out
 have HL1 := Lib.hid (chk_ok g3).2.2.1; have HL2 := Lib.hid (chk_ok g4).2.2.1; clear g3 g4
 have HN4 := Lib.hid (rdB_len h1 HL1.out); have HM4 := Lib.hid (rdB_len h2 HL2.out)
 go_enter Tryz.func18, Tryz.ntmps18
 obtain ⟨ba_1, xb_2, bz_3, bel_4⟩ := ent3 w #[.int .i64 c, .slice A n k, .slice B m j] 24 #[.int .i64 f, .int .i64 t, .int .i64 mm, .int .i64 ib] 30 #[.int .i64 0, .slice none 0 0, .slice none 0 0] 24
 have ra_5 := rI h1 bel_4
 have rb_6 := rI h2 bel_4
 clear h1 h2
 obtain ⟨z_7, z_8, z_9⟩ := at3 ba_1
 obtain ⟨z_10, z_11, z_12, z_13⟩ := at4 xb_2
 obtain ⟨z_14, z_15, z_16⟩ := at3 bz_3
 have hc := CheckOutline_any c A B n k m j ws ts _ ra_5.out rb_6.out hn hm
 rw [E1.out] at hc
 try dsimp only at hc
 have HC := Lib.hid hc; clear hc
 go_wp2_with fail
 refine HC.out.mono ?_
 rintro e w_17 ⟨rfl, hb⟩
 clear HC
 clear z_7 z_8 z_9 z_10 z_11 z_12 z_13 z_14 z_15 z_16
 have hb_18 := Lib.hid hb
 clear hb
 replace ba_1 := kH ba_1 hb_18
 obtain ⟨z_19, z_20, z_21⟩ := at3 ba_1
 replace xb_2 := kH xb_2 hb_18
 obtain ⟨z_22, z_23, z_24, z_25⟩ := at4 xb_2
 replace bz_3 := kH bz_3 hb_18
 obtain ⟨z_26, z_27, z_28⟩ := at3 bz_3
 go_wp2_with fail
 clear z_19 z_20 z_21 z_22 z_23 z_24 z_25 z_26 z_27 z_28
 replace bel_4 := bD (bH bel_4 hb_18)
 replace ra_5 := rD (rH ra_5 hb_18)
 replace rb_6 := rD (rH rb_6 hb_18)
 replace ba_1 := kD ba_1
 replace xb_2 := kD xb_2
 replace bz_3 := kD bz_3
 refine wp_region_held_drew (S := (fun W' => Blk W' (w.heap.size) 24 #[.int .i64 c, .slice A n k, .slice B m j])) (by kernel_rfl) ba_1.out (fun _ => ?_)
 obtain ⟨w1408, hw1409⟩ : ∃ w', w' = (w_17.drew) := ⟨_, rfl⟩
 rw [← hw1409] at bel_4 ra_5 rb_6 ba_1 xb_2 bz_3
 rw [← hw1409]
 clear hw1409
 refine' twH 0 ba_1.out ?_
 refine' tkH 1 ba_1.out ?hyR1411 ?_
 case hyR1411 => (rintro W' hS0; have hc0 := Blk.nth hS0 0; clear hS0; go_simp; try with_reducible rfl)
 refine' twH 2 ba_1.out ?_
 refine' tkH 3 ba_1.out ?hyR1413 ?_
 case hyR1413 => (rintro W' hS0; have hc0 := Blk.nth hS0 1; clear hS0; go_simp; try with_reducible rfl)
 try simp only [Act.put, qsA, qsZ, qsS]
 refine' twH 5 ba_1.out ?_
 refine' tkH 6 ba_1.out ?hyR1415 ?_
 case hyR1415 => (rintro W' hS0; have hc0 := Blk.nth hS0 2; clear hS0; go_simp; try with_reducible rfl)
 try simp only [Act.put, qsA, qsZ, qsS]
 refine wpAnyH_ready (rs := [4, 9]) (by kernel_rfl) (by simp) ?_
 refine rdH rfl (fun K hK => ?_) ?_
 · -- 4: call
  have hn4_ : n ≤ 400 := by have h := HL1.out; have h2 := (ra_5.out).len; omega
  go_simp
  go_at_call 61
  refine (ecopied_any A n k ws _ ra_5.out hn4_).mono ?_
  rintro e w1416 ⟨Ac, cc, rfl, hox1, hb1417⟩
  dsimp only
  have hox1 := OwnsX.base hox1 (show w.heap.size + 1 + 1 + 1 ≤ _ from Nat.succ_le_of_lt (Blk.lt (bz_3.out)))
  replace hb1417 := Lib.hid hb1417
  have x1_1418 := Lib.hid (hox1)
  clear hox1
  replace ba_1 := kH ba_1 hb1417
  refine hK.out _ _ ba_1.out (fun _ => ?_); clear hK K
  try simp only [Act.put, qsA, qsZ, qsS]
  refine wpAnyH_ready (rs := [7, 9]) (by kernel_rfl) (by simp) ?_
  refine rdH rfl (fun K hK => ?_) ?_
  · -- 7: call
   replace rb_6 := rH rb_6 hb1417
   replace bz_3 := kH bz_3 hb1417
   have hm4_ : m ≤ 400 := by have h := HL2.out; have h2 := (rb_6.out).len; omega
   go_simp
   go_at_call 61
   refine (ecopied_any B m j ts _ rb_6.out hm4_).mono ?_
   rintro e w1419 ⟨Bc, dc, rfl, hox2, hb1420⟩
   dsimp only
   have HD12 := Lib.hid (OwnsX.apart (x1_1418.out) hox2); have HD21 := Lib.hid (OwnsX.apart' (x1_1418.out) hox2)
   have hox2 := OwnsX.base hox2 (show w.heap.size + 1 + 1 + 1 ≤ _ from Nat.succ_le_of_lt (Blk.lt (bz_3.out)))
   replace hb1420 := Lib.hid hb1420
   have x2_1421 := Lib.hid (hox2)
   clear hox2
   replace ba_1 := kH ba_1 hb1420
   refine hK.out _ _ ba_1.out (fun _ => ?_); clear hK K
   try simp only [Act.put, qsA, qsZ, qsS]
   refine' twH 8 ba_1.out ?_
   try simp only [Act.put, qsA, qsZ, qsS]
   refine oneH 9 rfl fun K hK => ?_
   replace x1_1418 := Lib.hid (OwnsX.below (x1_1418.out) hb1420.out)
   replace bel_4 := bH (bH bel_4 hb1417) hb1420
   replace ra_5 := rH (rH ra_5 hb1417) hb1420
   replace rb_6 := rH rb_6 hb1420
   replace xb_2 := kH (kH xb_2 hb1417) hb1420
   replace bz_3 := kH bz_3 hb1420
   go_simp
   have hne1_ := OwnsX.ne (x1_1418.out) (Nat.le_refl _)
   have hne2_ := OwnsX.ne (x2_1421.out) (Nat.le_refl _)
   have lb1427 := Lib.hid (bel_4.out.size)
   have ne1428 := Lib.hid (Nat.ne_of_lt (Blk.lt ba_1.out))
   have ne1429 := Lib.hid (Nat.ne_of_lt (Blk.lt xb_2.out))
   have ne1430 := Lib.hid (Nat.ne_of_lt (Blk.lt bz_3.out))
   obtain ⟨o_, ho_⟩ : ∃ o, o = (.cells #[.int .i64 0, .slice none 0 0, .slice none 0 0] 24 : Obj) := ⟨_, rfl⟩
   replace bel_4 := bA bel_4 o_
   replace ra_5 := rA ra_5 o_
   replace rb_6 := rA rb_6 o_
   replace ba_1 := kA ba_1 o_
   replace xb_2 := kA xb_2 o_
   replace bz_3 := kA bz_3 o_
   replace x1_1418 := Lib.hid (OwnsX.alloc (x1_1418.out) (o_))
   replace x2_1421 := Lib.hid (OwnsX.alloc (x2_1421.out) (o_))
   subst ho_
   have bo_1431 := Lib.hid (Blk.new (w1419) 24 #[.int .i64 0, .slice none 0 0, .slice none 0 0])
   obtain ⟨g1423, hg1424⟩ : ∃ g, g = (w1419).heap.size := ⟨_, rfl⟩
   obtain ⟨w1425, hw1426⟩ : ∃ w', w' = (w1419).alloc (.cells #[.int .i64 0, .slice none 0 0, .slice none 0 0] 24) := ⟨_, rfl⟩
   rw [← hw1426] at bel_4 ra_5 rb_6 ba_1 xb_2 bz_3 x1_1418 x2_1421 bo_1431
   rw [← hg1424] at lb1427 ne1428 ne1429 ne1430 bo_1431 hne1_ hne2_
   rw [← hg1424, ← hw1426]
   clear hg1424 hw1426
   have HB1 := Lib.hid hne1_; clear hne1_
   have HB2 := Lib.hid hne2_; clear hne2_
   refine hK.out _ _ ba_1.out (fun _ => ?_); clear hK K
   try simp only [Act.put, qsA, qsZ, qsS]
   refine oneH 10 rfl fun K hK => ?_
   have v1432 : (w1425).cell? ⟨g1423, 0, none⟩ = some (.int .i64 0) := Blk.cell (bo_1431.out) 0
   have f1433 : (w1425).frozen? ⟨g1423, 0, none⟩ = false := Blk.frozen (bo_1431.out) 0
   have v1434 : (w1425).cell? ⟨g1423, 1, none⟩ = some (.slice none 0 0) := Blk.cell (bo_1431.out) 1
   have f1435 : (w1425).frozen? ⟨g1423, 1, none⟩ = false := Blk.frozen (bo_1431.out) 1
   have v1436 : (w1425).cell? ⟨g1423, 2, none⟩ = some (.slice none 0 0) := Blk.cell (bo_1431.out) 2
   have f1437 : (w1425).frozen? ⟨g1423, 2, none⟩ = false := Blk.frozen (bo_1431.out) 2
   have hlt_ := Blk.lt (bo_1431.out)
   go_simp
   have k1438 := Lib.hid (Below.setCell (Below.setCell (Below.setCell (bel_4.out) (p := ⟨g1423, 0, none⟩) (lb1427.out) (.int .i64 c)) (p := ⟨g1423, 1, none⟩) (lb1427.out) (.slice Ac n cc)) (p := ⟨g1423, 2, none⟩) (lb1427.out) (.slice Bc m dc))
   have k1439 := Lib.hid (Blk.far (Blk.far (Blk.far (ba_1.out) (p := ⟨g1423, 0, none⟩) (ne1428.out) (.int .i64 c)) (p := ⟨g1423, 1, none⟩) (ne1428.out) (.slice Ac n cc)) (p := ⟨g1423, 2, none⟩) (ne1428.out) (.slice Bc m dc))
   have k1440 := Lib.hid (Blk.far (Blk.far (Blk.far (xb_2.out) (p := ⟨g1423, 0, none⟩) (ne1429.out) (.int .i64 c)) (p := ⟨g1423, 1, none⟩) (ne1429.out) (.slice Ac n cc)) (p := ⟨g1423, 2, none⟩) (ne1429.out) (.slice Bc m dc))
   have k1441 := Lib.hid (Blk.far (Blk.far (Blk.far (bz_3.out) (p := ⟨g1423, 0, none⟩) (ne1430.out) (.int .i64 c)) (p := ⟨g1423, 1, none⟩) (ne1430.out) (.slice Ac n cc)) (p := ⟨g1423, 2, none⟩) (ne1430.out) (.slice Bc m dc))
   have k1442 := Lib.hid (OwnsX.far (OwnsX.far (OwnsX.far (x1_1418.out) (a := ⟨g1423, 0, none⟩) (HB1.out) (.int .i64 c)) (a := ⟨g1423, 1, none⟩) (HB1.out) (.slice Ac n cc)) (a := ⟨g1423, 2, none⟩) (HB1.out) (.slice Bc m dc))
   have k1443 := Lib.hid (OwnsX.far (OwnsX.far (OwnsX.far (x2_1421.out) (a := ⟨g1423, 0, none⟩) (HB2.out) (.int .i64 c)) (a := ⟨g1423, 1, none⟩) (HB2.out) (.slice Ac n cc)) (a := ⟨g1423, 2, none⟩) (HB2.out) (.slice Bc m dc))
   have k1444 := Lib.hid (Blk.set_ (Blk.set_ (Blk.set_ (bo_1431.out) 0 (.int .i64 c)) 1 (.slice Ac n cc)) 2 (.slice Bc m dc))
   obtain ⟨w1445, hw1446⟩ : ∃ w', w' = ((((w1425).setCell ⟨g1423, 0, none⟩ (.int .i64 c)).setCell ⟨g1423, 1, none⟩ (.slice Ac n cc)).setCell ⟨g1423, 2, none⟩ (.slice Bc m dc)) := ⟨_, rfl⟩
   rw [← hw1446] at k1438 k1439 k1440 k1441 k1442 k1443 k1444
   rw [← hw1446]
   clear hw1446 v1432 f1433 v1434 f1435 v1436 f1437 hlt_
   refine hK.out _ _ k1439.out (fun _ => ?_); clear hK K
   try simp only [Act.put, qsA, qsZ, qsS]
   refine wpAnyH_done (by kernel_rfl) ?_ _
   obtain ⟨z_1029, z_1030, z_1031⟩ := at3 k1439
   obtain ⟨z_1032, z_1033, z_1034, z_1035⟩ := at4 k1440
   obtain ⟨z_1036, z_1037, z_1038⟩ := at3 k1441
   obtain ⟨z_1039, z_1040, z_1041⟩ := at3 k1444
   have NB := Lib.hid (Blk.new w1445 30 #[.int .i64 f, .int .i64 t, .int .i64 mm, .int .i64 ib])
   have OX1 := Lib.hid (OwnsX.alloc (k1442.out) (.cells #[.int .i64 f, .int .i64 t, .int .i64 mm, .int .i64 ib] 30))
   have OX2 := Lib.hid (OwnsX.alloc (k1443.out) (.cells #[.int .i64 f, .int .i64 t, .int .i64 mm, .int .i64 ib] 30))
   have BOA := Lib.hid (Blk.alloc (k1444.out) (.cells #[.int .i64 f, .int .i64 t, .int .i64 mm, .int .i64 ib] 30))
   have BZA := Lib.hid (Blk.alloc (k1441.out) (.cells #[.int .i64 f, .int .i64 t, .int .i64 mm, .int .i64 ib] 30))
   have XBA := Lib.hid (Blk.alloc (k1440.out) (.cells #[.int .i64 f, .int .i64 t, .int .i64 mm, .int .i64 ib] 30))
   have BLA := Lib.hid (Below.alloc (k1438.out) ((k1438.out).size) (.cells #[.int .i64 f, .int .i64 t, .int .i64 mm, .int .i64 ib] 30))
   have hsz_ := Nat.succ_le_of_lt (Blk.lt BZA.out); have hbo_ := Blk.lt BOA.out
   have z4_ : (w1445.alloc (.cells #[.int .i64 f, .int .i64 t, .int .i64 mm, .int .i64 ib] 30)).cell? ⟨g1423, 0, none⟩ = some (.int .i64 c) := Blk.cell BOA.out 0
   have hn4_ : n ≤ 400 := HN4.out; have hm4_ : m ≤ 400 := HM4.out
   go_wp2_with (at_builtin; refine wpList_append_X _ rfl (.tmp 34) (.tmp 36) 22 rfl (w.heap.size + 1 + 1 + 1) 30 i0 _ 4 32 Tryz.underlying22 HI.out HZ0.out HZ1.out HZ2.out rfl (by omega) Ac n cc _ rfl OX1.out ⟨w1445.heap.size, 0, none⟩ 1 1 (bcells [⟨f, t, mm, ib⟩]) rfl rfl (cells_add (cs := bcells [⟨f, t, mm, ib⟩]) (show Blk _ _ _ (bcells [⟨f, t, mm, ib⟩]).toArray from NB.out)) (bcells_one _) (by omega) (by unfold maxLen; omega) (by omega) hsz_ ?_; intro g5 c5 w5 hown5 hb5 hg5 hkp5; have HO5 := Lib.hid hown5; have HB5 := Lib.hid hb5; have bo5 := (hkp5 _ hbo_ HB1.out).trans BOA.out; have BO5 := Lib.hid (show Blk w5 g1423 24 #[.int .i64 c, .slice Ac n cc, .slice Bc m dc] from bo5); have RO5 := Lib.hid (rdB_far (rdB_of OX2.out) hkp5 HD12.out hb5.size); clear hown5 hb5 hkp5 bo5; have q0_ : w5.cell? ⟨g1423, 0, none⟩ = some (.int .i64 c) := Blk.cell BO5.out 0; have q1_ : w5.cell? ⟨g1423, 1, none⟩ = some (.slice Ac n cc) := Blk.cell BO5.out 1; have q2_ : w5.cell? ⟨g1423, 2, none⟩ = some (.slice Bc m dc) := Blk.cell BO5.out 2; have q3_ : w5.frozen? ⟨g1423, 1, none⟩ = false := Blk.frozen BO5.out 1)
   have hbz_ : w.heap.size + 1 + 1 ≠ g1423 := ne1430.out; have hlb_ : w.heap.size ≤ g1423 := lb1427.out
   have rdn_ := (OwnB.rd (show OwnB w5 (w.heap.size + 1 + 1 + 1) (some ⟨g5, 0, none⟩) (n + 1) c5 (ws ++ [⟨f, t, mm, ib⟩]) from by have h := HO5.out; rw [← bcells_append] at h; exact h)).1
   have RN := Lib.hid (rdB_setN rdn_ ⟨g1423, 1, none⟩ (.slice (some ⟨g5, 0, none⟩) (n + 1) c5) BO5.out (by intro j x; rcases j with _ | _ | j <;> simp)); have RO := Lib.hid (rdB_setN RO5.out ⟨g1423, 1, none⟩ (.slice (some ⟨g5, 0, none⟩) (n + 1) c5) BO5.out (by intro j x; rcases j with _ | _ | j <;> simp)); clear rdn_
   have BO6 := Lib.hid (Blk.set_ BO5.out 1 (.slice (some ⟨g5, 0, none⟩) (n + 1) c5)); have BZ6 := Lib.hid (Blk.far (Blk.below BZA.out HB5.out (by omega)) (p := ⟨g1423, 1, none⟩) hbz_ (.slice (some ⟨g5, 0, none⟩) (n + 1) c5)); have BL6 := Lib.hid (Below.setCell (Below.trans BLA.out (Below.mono HB5.out (by omega))) (p := ⟨g1423, 1, none⟩) hlb_ (.slice (some ⟨g5, 0, none⟩) (n + 1) c5))
   clear q0_ q1_ q2_ q3_ z4_ hsz_ hbo_ k1441 k1440
   obtain ⟨w6, hw6⟩ : ∃ w', w' = w5.setCell ⟨g1423, 1, none⟩ (.slice (some ⟨g5, 0, none⟩) (n + 1) c5) := ⟨_, rfl⟩
   rw [← hw6] at RN RO BO6 BZ6 BL6 ⊢
   clear hw6
   have hc := CheckOutline_any c (some ⟨g5, 0, none⟩) Bc (n + 1) c5 m dc (ws ++ [⟨f, t, mm, ib⟩]) ts w6 RN.out RO.out (by unfold maxLen; omega) (by unfold maxLen; omega)
   rw [E2.out] at hc
   have HC := Lib.hid hc; clear hc
   refine HC.out.mono ?_
   rintro e w9 ⟨rfl, hb⟩
   clear HC
   have RN9 := Lib.hid (RdB.below RN.out hb); have RO9 := Lib.hid (RdB.below RO.out hb)
   have BO9 := Lib.hid (show Blk w9 g1423 24 #[.int .i64 c, .slice (some ⟨g5, 0, none⟩) (n + 1) c5, .slice Bc m dc] from Blk.keep BO6.out hb); have BZ9 := Lib.hid (show Blk w9 (w.heap.size + 1 + 1) 24 #[.int .i64 0, .slice none 0 0, .slice none 0 0] from Blk.keep BZ6.out hb); have BL9 := Lib.hid (Below.trans BL6.out (Below.mono hb BL6.out.size)); clear RN RO BO6 BZ6 BL6 hb
   have q0_ : w9.cell? ⟨g1423, 0, none⟩ = some (.int .i64 c) := Blk.cell BO9.out 0
   have q1_ : w9.cell? ⟨g1423, 1, none⟩ = some (.slice (some ⟨g5, 0, none⟩) (n + 1) c5) := Blk.cell BO9.out 1
   have q2_ : w9.cell? ⟨g1423, 2, none⟩ = some (.slice Bc m dc) := Blk.cell BO9.out 2
   have y0_ : w9.cell? ⟨w.heap.size + 1 + 1, 0, none⟩ = some (.int .i64 0) := Blk.cell BZ9.out 0
   have f0_ : w9.frozen? ⟨w.heap.size + 1 + 1, 0, none⟩ = false := Blk.frozen BZ9.out 0
   have y1_ : w9.cell? ⟨w.heap.size + 1 + 1, 1, none⟩ = some (.slice none 0 0) := Blk.cell BZ9.out 1
   have f1_ : w9.frozen? ⟨w.heap.size + 1 + 1, 1, none⟩ = false := Blk.frozen BZ9.out 1
   have y2_ : w9.cell? ⟨w.heap.size + 1 + 1, 2, none⟩ = some (.slice none 0 0) := Blk.cell BZ9.out 2
   have f2_ : w9.frozen? ⟨w.heap.size + 1 + 1, 2, none⟩ = false := Blk.frozen BZ9.out 2
   have hlz_ := Blk.lt BZ9.out; have hlo_ := Blk.lt BO9.out
   by_cases hq : q = 0
   · subst hq
     go_wp2
     have bel_ := BL9.out
     refine bodyPost_ret (v := .tuple #[.agg #[.int .i64 c, .slice (some ⟨g5, 0, none⟩) (n + 1) c5, .slice Bc m dc], .int .i64 0]) (by simp [results, Tryz.results18, go_sem, y0_, y1_, y2_, f0_, f1_, f2_]) rfl ?_
     exact ⟨(some ⟨g5, 0, none⟩), (n + 1), c5, Bc, m, dc, rfl, rdB_setN (rdB_setN (rdB_setN (RN9.out) ⟨w.heap.size + 1 + 1, 0, none⟩ (.int .i64 c) (BZ9.out) (by intro j x; rcases j with _ | _ | j <;> simp)) ⟨w.heap.size + 1 + 1, 1, none⟩ (.slice (some ⟨g5, 0, none⟩) (n + 1) c5) (Blk.set_ (BZ9.out) 0 (.int .i64 c)) (by intro j x; rcases j with _ | _ | j <;> simp)) ⟨w.heap.size + 1 + 1, 2, none⟩ (.slice Bc m dc) (Blk.set_ (Blk.set_ (BZ9.out) 0 (.int .i64 c)) 1 (.slice (some ⟨g5, 0, none⟩) (n + 1) c5)) (by intro j x; rcases j with _ | _ | j <;> simp), rdB_setN (rdB_setN (rdB_setN (RO9.out) ⟨w.heap.size + 1 + 1, 0, none⟩ (.int .i64 c) (BZ9.out) (by intro j x; rcases j with _ | _ | j <;> simp)) ⟨w.heap.size + 1 + 1, 1, none⟩ (.slice (some ⟨g5, 0, none⟩) (n + 1) c5) (Blk.set_ (BZ9.out) 0 (.int .i64 c)) (by intro j x; rcases j with _ | _ | j <;> simp)) ⟨w.heap.size + 1 + 1, 2, none⟩ (.slice Bc m dc) (Blk.set_ (Blk.set_ (BZ9.out) 0 (.int .i64 c)) 1 (.slice (some ⟨g5, 0, none⟩) (n + 1) c5)) (by intro j x; rcases j with _ | _ | j <;> simp), by unfold maxLen; omega, by unfold maxLen; omega, (by have hsz_ := Below.size bel_; repeat' (first | with_reducible exact bel_ | with_reducible exact Below.refl _ _ | with_reducible refine Below.alloc ?_ ?_ _ | with_reducible refine Below.setCell ?_ ?_ _ | with_reducible refine Below.drew ?_ | with_reducible refine below_setRow ?_ ?_ _ | omega | (simp; done) | (simp; omega)))⟩
   · have hne : (q != 0) = true := by simpa using hq
     have HQ := Lib.hid hq; clear hq
     go_wp2
     have bel_ := BL9.out
     refine bodyPost_ret (v := .tuple #[.agg #[.int .i64 0, .slice none 0 0, .slice none 0 0], .int .i64 q]) (by simp [results, Tryz.results18, go_sem, y0_, y1_, y2_, f0_, f1_, f2_]) rfl ?_
     exact ⟨none, 0, 0, none, 0, 0, by rw [if_neg HQ.out], by rw [if_neg HQ.out]; exact RdB.nil_ _, by rw [if_neg HQ.out]; exact RdB.nil_ _, by unfold maxLen; omega, by unfold maxLen; omega, (by have hsz_ := Below.size bel_; repeat' (first | with_reducible exact bel_ | with_reducible exact Below.refl _ _ | with_reducible refine Below.alloc ?_ ?_ _ | with_reducible refine Below.setCell ?_ ?_ _ | with_reducible refine Below.drew ?_ | with_reducible refine below_setRow ?_ ?_ _ | omega | (simp; done) | (simp; omega)))⟩
  refine rdH rfl (fun K hK => ?_) ?_
  · -- 9: alloc
   replace bel_4 := bH bel_4 hb1417
   replace ra_5 := rH ra_5 hb1417
   replace rb_6 := rH rb_6 hb1417
   replace xb_2 := kH xb_2 hb1417
   replace bz_3 := kH bz_3 hb1417
   go_simp
   have hne1_ := OwnsX.ne (x1_1418.out) (Nat.le_refl _)
   have lb1451 := Lib.hid (bel_4.out.size)
   have ne1452 := Lib.hid (Nat.ne_of_lt (Blk.lt ba_1.out))
   have ne1453 := Lib.hid (Nat.ne_of_lt (Blk.lt xb_2.out))
   have ne1454 := Lib.hid (Nat.ne_of_lt (Blk.lt bz_3.out))
   obtain ⟨o_, ho_⟩ : ∃ o, o = (.cells #[.int .i64 0, .slice none 0 0, .slice none 0 0] 24 : Obj) := ⟨_, rfl⟩
   replace bel_4 := bA bel_4 o_
   replace ra_5 := rA ra_5 o_
   replace rb_6 := rA rb_6 o_
   replace ba_1 := kA ba_1 o_
   replace xb_2 := kA xb_2 o_
   replace bz_3 := kA bz_3 o_
   replace x1_1418 := Lib.hid (OwnsX.alloc (x1_1418.out) (o_))
   subst ho_
   have bo_1455 := Lib.hid (Blk.new (w1416) 24 #[.int .i64 0, .slice none 0 0, .slice none 0 0])
   obtain ⟨g1447, hg1448⟩ : ∃ g, g = (w1416).heap.size := ⟨_, rfl⟩
   obtain ⟨w1449, hw1450⟩ : ∃ w', w' = (w1416).alloc (.cells #[.int .i64 0, .slice none 0 0, .slice none 0 0] 24) := ⟨_, rfl⟩
   rw [← hw1450] at bel_4 ra_5 rb_6 ba_1 xb_2 bz_3 x1_1418 bo_1455
   rw [← hg1448] at lb1451 ne1452 ne1453 ne1454 bo_1455 hne1_
   rw [← hg1448, ← hw1450]
   clear hg1448 hw1450
   have HB1 := Lib.hid hne1_; clear hne1_
   refine hK.out _ _ ba_1.out (fun _ => ?_); clear hK K
   try simp only [Act.put, qsA, qsZ, qsS]
   refine oneH 7 rfl fun K hK => ?_
   have hm4_ : m ≤ 400 := by have h := HL2.out; have h2 := (rb_6.out).len; omega
   go_simp
   go_at_call 61
   refine (ecopied_any B m j ts _ rb_6.out hm4_).mono ?_
   rintro e w1456 ⟨Bc, dc, rfl, hox2, hb1457⟩
   dsimp only
   have HB2 := Lib.hid (fun (h0 : dc ≠ 0) => OwnsX.gt hox2 (Blk.lt (bo_1455.out)) h0)
   have HD12 := Lib.hid (OwnsX.apart (x1_1418.out) hox2); have HD21 := Lib.hid (OwnsX.apart' (x1_1418.out) hox2)
   have hox2 := OwnsX.base hox2 (show w.heap.size + 1 + 1 + 1 ≤ _ from Nat.succ_le_of_lt (Blk.lt (bz_3.out)))
   replace hb1457 := Lib.hid hb1457
   have x2_1458 := Lib.hid (hox2)
   clear hox2
   replace ba_1 := kH ba_1 hb1457
   refine hK.out _ _ ba_1.out (fun _ => ?_); clear hK K
   try simp only [Act.put, qsA, qsZ, qsS]
   refine' twH 8 ba_1.out ?_
   try simp only [Act.put, qsA, qsZ, qsS]
   refine oneH 10 rfl fun K hK => ?_
   replace bo_1455 := kH bo_1455 hb1457
   replace bel_4 := bH bel_4 hb1457
   replace ra_5 := rH ra_5 hb1457
   replace rb_6 := rH rb_6 hb1457
   replace xb_2 := kH xb_2 hb1457
   replace bz_3 := kH bz_3 hb1457
   replace x1_1418 := Lib.hid (OwnsX.below (x1_1418.out) hb1457.out)
   have v1460 : (w1456).cell? ⟨g1447, 0, none⟩ = some (.int .i64 0) := Blk.cell (bo_1455.out) 0
   have f1461 : (w1456).frozen? ⟨g1447, 0, none⟩ = false := Blk.frozen (bo_1455.out) 0
   have v1462 : (w1456).cell? ⟨g1447, 1, none⟩ = some (.slice none 0 0) := Blk.cell (bo_1455.out) 1
   have f1463 : (w1456).frozen? ⟨g1447, 1, none⟩ = false := Blk.frozen (bo_1455.out) 1
   have v1464 : (w1456).cell? ⟨g1447, 2, none⟩ = some (.slice none 0 0) := Blk.cell (bo_1455.out) 2
   have f1465 : (w1456).frozen? ⟨g1447, 2, none⟩ = false := Blk.frozen (bo_1455.out) 2
   have hlt_ := Blk.lt (bo_1455.out)
   go_simp
   have k1466 := Lib.hid (Below.setCell (Below.setCell (Below.setCell (bel_4.out) (p := ⟨g1447, 0, none⟩) (lb1451.out) (.int .i64 c)) (p := ⟨g1447, 1, none⟩) (lb1451.out) (.slice Ac n cc)) (p := ⟨g1447, 2, none⟩) (lb1451.out) (.slice Bc m dc))
   have k1467 := Lib.hid (Blk.far (Blk.far (Blk.far (ba_1.out) (p := ⟨g1447, 0, none⟩) (ne1452.out) (.int .i64 c)) (p := ⟨g1447, 1, none⟩) (ne1452.out) (.slice Ac n cc)) (p := ⟨g1447, 2, none⟩) (ne1452.out) (.slice Bc m dc))
   have k1468 := Lib.hid (Blk.far (Blk.far (Blk.far (xb_2.out) (p := ⟨g1447, 0, none⟩) (ne1453.out) (.int .i64 c)) (p := ⟨g1447, 1, none⟩) (ne1453.out) (.slice Ac n cc)) (p := ⟨g1447, 2, none⟩) (ne1453.out) (.slice Bc m dc))
   have k1469 := Lib.hid (Blk.far (Blk.far (Blk.far (bz_3.out) (p := ⟨g1447, 0, none⟩) (ne1454.out) (.int .i64 c)) (p := ⟨g1447, 1, none⟩) (ne1454.out) (.slice Ac n cc)) (p := ⟨g1447, 2, none⟩) (ne1454.out) (.slice Bc m dc))
   have k1470 := Lib.hid (OwnsX.far (OwnsX.far (OwnsX.far (x1_1418.out) (a := ⟨g1447, 0, none⟩) (HB1.out) (.int .i64 c)) (a := ⟨g1447, 1, none⟩) (HB1.out) (.slice Ac n cc)) (a := ⟨g1447, 2, none⟩) (HB1.out) (.slice Bc m dc))
   have k1471 := Lib.hid (Blk.set_ (Blk.set_ (Blk.set_ (bo_1455.out) 0 (.int .i64 c)) 1 (.slice Ac n cc)) 2 (.slice Bc m dc))
   have k1472 := Lib.hid (OwnsX.far (OwnsX.far (OwnsX.far (x2_1458.out) (a := ⟨g1447, 0, none⟩) (HB2.out) (.int .i64 c)) (a := ⟨g1447, 1, none⟩) (HB2.out) (.slice Ac n cc)) (a := ⟨g1447, 2, none⟩) (HB2.out) (.slice Bc m dc))
   obtain ⟨w1473, hw1474⟩ : ∃ w', w' = ((((w1456).setCell ⟨g1447, 0, none⟩ (.int .i64 c)).setCell ⟨g1447, 1, none⟩ (.slice Ac n cc)).setCell ⟨g1447, 2, none⟩ (.slice Bc m dc)) := ⟨_, rfl⟩
   rw [← hw1474] at k1466 k1467 k1468 k1469 k1470 k1471 k1472
   rw [← hw1474]
   clear hw1474 v1460 f1461 v1462 f1463 v1464 f1465 hlt_
   refine hK.out _ _ k1467.out (fun _ => ?_); clear hK K
   try simp only [Act.put, qsA, qsZ, qsS]
   refine wpAnyH_done (by kernel_rfl) ?_ _
   obtain ⟨z_1029, z_1030, z_1031⟩ := at3 k1467
   obtain ⟨z_1032, z_1033, z_1034, z_1035⟩ := at4 k1468
   obtain ⟨z_1036, z_1037, z_1038⟩ := at3 k1469
   obtain ⟨z_1039, z_1040, z_1041⟩ := at3 k1471
   have NB := Lib.hid (Blk.new w1473 30 #[.int .i64 f, .int .i64 t, .int .i64 mm, .int .i64 ib])
   have OX1 := Lib.hid (OwnsX.alloc (k1470.out) (.cells #[.int .i64 f, .int .i64 t, .int .i64 mm, .int .i64 ib] 30))
   have OX2 := Lib.hid (OwnsX.alloc (k1472.out) (.cells #[.int .i64 f, .int .i64 t, .int .i64 mm, .int .i64 ib] 30))
   have BOA := Lib.hid (Blk.alloc (k1471.out) (.cells #[.int .i64 f, .int .i64 t, .int .i64 mm, .int .i64 ib] 30))
   have BZA := Lib.hid (Blk.alloc (k1469.out) (.cells #[.int .i64 f, .int .i64 t, .int .i64 mm, .int .i64 ib] 30))
   have XBA := Lib.hid (Blk.alloc (k1468.out) (.cells #[.int .i64 f, .int .i64 t, .int .i64 mm, .int .i64 ib] 30))
   have BLA := Lib.hid (Below.alloc (k1466.out) ((k1466.out).size) (.cells #[.int .i64 f, .int .i64 t, .int .i64 mm, .int .i64 ib] 30))
   have hsz_ := Nat.succ_le_of_lt (Blk.lt BZA.out); have hbo_ := Blk.lt BOA.out
   have z4_ : (w1473.alloc (.cells #[.int .i64 f, .int .i64 t, .int .i64 mm, .int .i64 ib] 30)).cell? ⟨g1447, 0, none⟩ = some (.int .i64 c) := Blk.cell BOA.out 0
   have hn4_ : n ≤ 400 := HN4.out; have hm4_ : m ≤ 400 := HM4.out
   go_wp2_with (at_builtin; refine wpList_append_X _ rfl (.tmp 34) (.tmp 36) 22 rfl (w.heap.size + 1 + 1 + 1) 30 i0 _ 4 32 Tryz.underlying22 HI.out HZ0.out HZ1.out HZ2.out rfl (by omega) Ac n cc _ rfl OX1.out ⟨w1473.heap.size, 0, none⟩ 1 1 (bcells [⟨f, t, mm, ib⟩]) rfl rfl (cells_add (cs := bcells [⟨f, t, mm, ib⟩]) (show Blk _ _ _ (bcells [⟨f, t, mm, ib⟩]).toArray from NB.out)) (bcells_one _) (by omega) (by unfold maxLen; omega) (by omega) hsz_ ?_; intro g5 c5 w5 hown5 hb5 hg5 hkp5; have HO5 := Lib.hid hown5; have HB5 := Lib.hid hb5; have bo5 := (hkp5 _ hbo_ HB1.out).trans BOA.out; have BO5 := Lib.hid (show Blk w5 g1447 24 #[.int .i64 c, .slice Ac n cc, .slice Bc m dc] from bo5); have RO5 := Lib.hid (rdB_far (rdB_of OX2.out) hkp5 HD12.out hb5.size); clear hown5 hb5 hkp5 bo5; have q0_ : w5.cell? ⟨g1447, 0, none⟩ = some (.int .i64 c) := Blk.cell BO5.out 0; have q1_ : w5.cell? ⟨g1447, 1, none⟩ = some (.slice Ac n cc) := Blk.cell BO5.out 1; have q2_ : w5.cell? ⟨g1447, 2, none⟩ = some (.slice Bc m dc) := Blk.cell BO5.out 2; have q3_ : w5.frozen? ⟨g1447, 1, none⟩ = false := Blk.frozen BO5.out 1)
   have hbz_ : w.heap.size + 1 + 1 ≠ g1447 := ne1454.out; have hlb_ : w.heap.size ≤ g1447 := lb1451.out
   have rdn_ := (OwnB.rd (show OwnB w5 (w.heap.size + 1 + 1 + 1) (some ⟨g5, 0, none⟩) (n + 1) c5 (ws ++ [⟨f, t, mm, ib⟩]) from by have h := HO5.out; rw [← bcells_append] at h; exact h)).1
   have RN := Lib.hid (rdB_setN rdn_ ⟨g1447, 1, none⟩ (.slice (some ⟨g5, 0, none⟩) (n + 1) c5) BO5.out (by intro j x; rcases j with _ | _ | j <;> simp)); have RO := Lib.hid (rdB_setN RO5.out ⟨g1447, 1, none⟩ (.slice (some ⟨g5, 0, none⟩) (n + 1) c5) BO5.out (by intro j x; rcases j with _ | _ | j <;> simp)); clear rdn_
   have BO6 := Lib.hid (Blk.set_ BO5.out 1 (.slice (some ⟨g5, 0, none⟩) (n + 1) c5)); have BZ6 := Lib.hid (Blk.far (Blk.below BZA.out HB5.out (by omega)) (p := ⟨g1447, 1, none⟩) hbz_ (.slice (some ⟨g5, 0, none⟩) (n + 1) c5)); have BL6 := Lib.hid (Below.setCell (Below.trans BLA.out (Below.mono HB5.out (by omega))) (p := ⟨g1447, 1, none⟩) hlb_ (.slice (some ⟨g5, 0, none⟩) (n + 1) c5))
   clear q0_ q1_ q2_ q3_ z4_ hsz_ hbo_ k1469 k1468
   obtain ⟨w6, hw6⟩ : ∃ w', w' = w5.setCell ⟨g1447, 1, none⟩ (.slice (some ⟨g5, 0, none⟩) (n + 1) c5) := ⟨_, rfl⟩
   rw [← hw6] at RN RO BO6 BZ6 BL6 ⊢
   clear hw6
   have hc := CheckOutline_any c (some ⟨g5, 0, none⟩) Bc (n + 1) c5 m dc (ws ++ [⟨f, t, mm, ib⟩]) ts w6 RN.out RO.out (by unfold maxLen; omega) (by unfold maxLen; omega)
   rw [E2.out] at hc
   have HC := Lib.hid hc; clear hc
   refine HC.out.mono ?_
   rintro e w9 ⟨rfl, hb⟩
   clear HC
   have RN9 := Lib.hid (RdB.below RN.out hb); have RO9 := Lib.hid (RdB.below RO.out hb)
   have BO9 := Lib.hid (show Blk w9 g1447 24 #[.int .i64 c, .slice (some ⟨g5, 0, none⟩) (n + 1) c5, .slice Bc m dc] from Blk.keep BO6.out hb); have BZ9 := Lib.hid (show Blk w9 (w.heap.size + 1 + 1) 24 #[.int .i64 0, .slice none 0 0, .slice none 0 0] from Blk.keep BZ6.out hb); have BL9 := Lib.hid (Below.trans BL6.out (Below.mono hb BL6.out.size)); clear RN RO BO6 BZ6 BL6 hb
   have q0_ : w9.cell? ⟨g1447, 0, none⟩ = some (.int .i64 c) := Blk.cell BO9.out 0
   have q1_ : w9.cell? ⟨g1447, 1, none⟩ = some (.slice (some ⟨g5, 0, none⟩) (n + 1) c5) := Blk.cell BO9.out 1
   have q2_ : w9.cell? ⟨g1447, 2, none⟩ = some (.slice Bc m dc) := Blk.cell BO9.out 2
   have y0_ : w9.cell? ⟨w.heap.size + 1 + 1, 0, none⟩ = some (.int .i64 0) := Blk.cell BZ9.out 0
   have f0_ : w9.frozen? ⟨w.heap.size + 1 + 1, 0, none⟩ = false := Blk.frozen BZ9.out 0
   have y1_ : w9.cell? ⟨w.heap.size + 1 + 1, 1, none⟩ = some (.slice none 0 0) := Blk.cell BZ9.out 1
   have f1_ : w9.frozen? ⟨w.heap.size + 1 + 1, 1, none⟩ = false := Blk.frozen BZ9.out 1
   have y2_ : w9.cell? ⟨w.heap.size + 1 + 1, 2, none⟩ = some (.slice none 0 0) := Blk.cell BZ9.out 2
   have f2_ : w9.frozen? ⟨w.heap.size + 1 + 1, 2, none⟩ = false := Blk.frozen BZ9.out 2
   have hlz_ := Blk.lt BZ9.out; have hlo_ := Blk.lt BO9.out
   by_cases hq : q = 0
   · subst hq
     go_wp2
     have bel_ := BL9.out
     refine bodyPost_ret (v := .tuple #[.agg #[.int .i64 c, .slice (some ⟨g5, 0, none⟩) (n + 1) c5, .slice Bc m dc], .int .i64 0]) (by simp [results, Tryz.results18, go_sem, y0_, y1_, y2_, f0_, f1_, f2_]) rfl ?_
     exact ⟨(some ⟨g5, 0, none⟩), (n + 1), c5, Bc, m, dc, rfl, rdB_setN (rdB_setN (rdB_setN (RN9.out) ⟨w.heap.size + 1 + 1, 0, none⟩ (.int .i64 c) (BZ9.out) (by intro j x; rcases j with _ | _ | j <;> simp)) ⟨w.heap.size + 1 + 1, 1, none⟩ (.slice (some ⟨g5, 0, none⟩) (n + 1) c5) (Blk.set_ (BZ9.out) 0 (.int .i64 c)) (by intro j x; rcases j with _ | _ | j <;> simp)) ⟨w.heap.size + 1 + 1, 2, none⟩ (.slice Bc m dc) (Blk.set_ (Blk.set_ (BZ9.out) 0 (.int .i64 c)) 1 (.slice (some ⟨g5, 0, none⟩) (n + 1) c5)) (by intro j x; rcases j with _ | _ | j <;> simp), rdB_setN (rdB_setN (rdB_setN (RO9.out) ⟨w.heap.size + 1 + 1, 0, none⟩ (.int .i64 c) (BZ9.out) (by intro j x; rcases j with _ | _ | j <;> simp)) ⟨w.heap.size + 1 + 1, 1, none⟩ (.slice (some ⟨g5, 0, none⟩) (n + 1) c5) (Blk.set_ (BZ9.out) 0 (.int .i64 c)) (by intro j x; rcases j with _ | _ | j <;> simp)) ⟨w.heap.size + 1 + 1, 2, none⟩ (.slice Bc m dc) (Blk.set_ (Blk.set_ (BZ9.out) 0 (.int .i64 c)) 1 (.slice (some ⟨g5, 0, none⟩) (n + 1) c5)) (by intro j x; rcases j with _ | _ | j <;> simp), by unfold maxLen; omega, by unfold maxLen; omega, (by have hsz_ := Below.size bel_; repeat' (first | with_reducible exact bel_ | with_reducible exact Below.refl _ _ | with_reducible refine Below.alloc ?_ ?_ _ | with_reducible refine Below.setCell ?_ ?_ _ | with_reducible refine Below.drew ?_ | with_reducible refine below_setRow ?_ ?_ _ | omega | (simp; done) | (simp; omega)))⟩
   · have hne : (q != 0) = true := by simpa using hq
     have HQ := Lib.hid hq; clear hq
     go_wp2
     have bel_ := BL9.out
     refine bodyPost_ret (v := .tuple #[.agg #[.int .i64 0, .slice none 0 0, .slice none 0 0], .int .i64 q]) (by simp [results, Tryz.results18, go_sem, y0_, y1_, y2_, f0_, f1_, f2_]) rfl ?_
     exact ⟨none, 0, 0, none, 0, 0, by rw [if_neg HQ.out], by rw [if_neg HQ.out]; exact RdB.nil_ _, by rw [if_neg HQ.out]; exact RdB.nil_ _, by unfold maxLen; omega, by unfold maxLen; omega, (by have hsz_ := Below.size bel_; repeat' (first | with_reducible exact bel_ | with_reducible exact Below.refl _ _ | with_reducible refine Below.alloc ?_ ?_ _ | with_reducible refine Below.setCell ?_ ?_ _ | with_reducible refine Below.drew ?_ | with_reducible refine below_setRow ?_ ?_ _ | omega | (simp; done) | (simp; omega)))⟩
  exact AllReadyH.nil
 refine rdH rfl (fun K hK => ?_) ?_
 · -- 9: alloc
  go_simp
  have lb1479 := Lib.hid (bel_4.out.size)
  have ne1480 := Lib.hid (Nat.ne_of_lt (Blk.lt ba_1.out))
  have ne1481 := Lib.hid (Nat.ne_of_lt (Blk.lt xb_2.out))
  have ne1482 := Lib.hid (Nat.ne_of_lt (Blk.lt bz_3.out))
  obtain ⟨o_, ho_⟩ : ∃ o, o = (.cells #[.int .i64 0, .slice none 0 0, .slice none 0 0] 24 : Obj) := ⟨_, rfl⟩
  replace bel_4 := bA bel_4 o_
  replace ra_5 := rA ra_5 o_
  replace rb_6 := rA rb_6 o_
  replace ba_1 := kA ba_1 o_
  replace xb_2 := kA xb_2 o_
  replace bz_3 := kA bz_3 o_
  subst ho_
  have bo_1483 := Lib.hid (Blk.new (w1408) 24 #[.int .i64 0, .slice none 0 0, .slice none 0 0])
  obtain ⟨g1475, hg1476⟩ : ∃ g, g = (w1408).heap.size := ⟨_, rfl⟩
  obtain ⟨w1477, hw1478⟩ : ∃ w', w' = (w1408).alloc (.cells #[.int .i64 0, .slice none 0 0, .slice none 0 0] 24) := ⟨_, rfl⟩
  rw [← hw1478] at bel_4 ra_5 rb_6 ba_1 xb_2 bz_3 bo_1483
  rw [← hg1476] at lb1479 ne1480 ne1481 ne1482 bo_1483
  rw [← hg1476, ← hw1478]
  clear hg1476 hw1478
  refine hK.out _ _ ba_1.out (fun _ => ?_); clear hK K
  try simp only [Act.put, qsA, qsZ, qsS]
  refine oneH 4 rfl fun K hK => ?_
  have hn4_ : n ≤ 400 := by have h := HL1.out; have h2 := (ra_5.out).len; omega
  go_simp
  go_at_call 61
  refine (ecopied_any A n k ws _ ra_5.out hn4_).mono ?_
  rintro e w1484 ⟨Ac, cc, rfl, hox1, hb1485⟩
  dsimp only
  have HB1 := Lib.hid (fun (h0 : cc ≠ 0) => OwnsX.gt hox1 (Blk.lt (bo_1483.out)) h0)
  have hox1 := OwnsX.base hox1 (show w.heap.size + 1 + 1 + 1 ≤ _ from Nat.succ_le_of_lt (Blk.lt (bz_3.out)))
  replace hb1485 := Lib.hid hb1485
  have x1_1486 := Lib.hid (hox1)
  clear hox1
  replace ba_1 := kH ba_1 hb1485
  refine hK.out _ _ ba_1.out (fun _ => ?_); clear hK K
  try simp only [Act.put, qsA, qsZ, qsS]
  refine oneH 7 rfl fun K hK => ?_
  replace rb_6 := rH rb_6 hb1485
  replace bo_1483 := kH bo_1483 hb1485
  replace bz_3 := kH bz_3 hb1485
  have hm4_ : m ≤ 400 := by have h := HL2.out; have h2 := (rb_6.out).len; omega
  go_simp
  go_at_call 61
  refine (ecopied_any B m j ts _ rb_6.out hm4_).mono ?_
  rintro e w1487 ⟨Bc, dc, rfl, hox2, hb1488⟩
  dsimp only
  have HB2 := Lib.hid (fun (h0 : dc ≠ 0) => OwnsX.gt hox2 (Blk.lt (bo_1483.out)) h0)
  have HD12 := Lib.hid (OwnsX.apart (x1_1486.out) hox2); have HD21 := Lib.hid (OwnsX.apart' (x1_1486.out) hox2)
  have hox2 := OwnsX.base hox2 (show w.heap.size + 1 + 1 + 1 ≤ _ from Nat.succ_le_of_lt (Blk.lt (bz_3.out)))
  replace hb1488 := Lib.hid hb1488
  have x2_1489 := Lib.hid (hox2)
  clear hox2
  replace ba_1 := kH ba_1 hb1488
  refine hK.out _ _ ba_1.out (fun _ => ?_); clear hK K
  try simp only [Act.put, qsA, qsZ, qsS]
  refine' twH 8 ba_1.out ?_
  try simp only [Act.put, qsA, qsZ, qsS]
  refine oneH 10 rfl fun K hK => ?_
  replace bo_1483 := kH bo_1483 hb1488
  replace bel_4 := bH (bH bel_4 hb1485) hb1488
  replace ra_5 := rH (rH ra_5 hb1485) hb1488
  replace rb_6 := rH rb_6 hb1488
  replace xb_2 := kH (kH xb_2 hb1485) hb1488
  replace bz_3 := kH bz_3 hb1488
  replace x1_1486 := Lib.hid (OwnsX.below (x1_1486.out) hb1488.out)
  have v1491 : (w1487).cell? ⟨g1475, 0, none⟩ = some (.int .i64 0) := Blk.cell (bo_1483.out) 0
  have f1492 : (w1487).frozen? ⟨g1475, 0, none⟩ = false := Blk.frozen (bo_1483.out) 0
  have v1493 : (w1487).cell? ⟨g1475, 1, none⟩ = some (.slice none 0 0) := Blk.cell (bo_1483.out) 1
  have f1494 : (w1487).frozen? ⟨g1475, 1, none⟩ = false := Blk.frozen (bo_1483.out) 1
  have v1495 : (w1487).cell? ⟨g1475, 2, none⟩ = some (.slice none 0 0) := Blk.cell (bo_1483.out) 2
  have f1496 : (w1487).frozen? ⟨g1475, 2, none⟩ = false := Blk.frozen (bo_1483.out) 2
  have hlt_ := Blk.lt (bo_1483.out)
  go_simp
  have k1497 := Lib.hid (Below.setCell (Below.setCell (Below.setCell (bel_4.out) (p := ⟨g1475, 0, none⟩) (lb1479.out) (.int .i64 c)) (p := ⟨g1475, 1, none⟩) (lb1479.out) (.slice Ac n cc)) (p := ⟨g1475, 2, none⟩) (lb1479.out) (.slice Bc m dc))
  have k1498 := Lib.hid (Blk.far (Blk.far (Blk.far (ba_1.out) (p := ⟨g1475, 0, none⟩) (ne1480.out) (.int .i64 c)) (p := ⟨g1475, 1, none⟩) (ne1480.out) (.slice Ac n cc)) (p := ⟨g1475, 2, none⟩) (ne1480.out) (.slice Bc m dc))
  have k1499 := Lib.hid (Blk.far (Blk.far (Blk.far (xb_2.out) (p := ⟨g1475, 0, none⟩) (ne1481.out) (.int .i64 c)) (p := ⟨g1475, 1, none⟩) (ne1481.out) (.slice Ac n cc)) (p := ⟨g1475, 2, none⟩) (ne1481.out) (.slice Bc m dc))
  have k1500 := Lib.hid (Blk.far (Blk.far (Blk.far (bz_3.out) (p := ⟨g1475, 0, none⟩) (ne1482.out) (.int .i64 c)) (p := ⟨g1475, 1, none⟩) (ne1482.out) (.slice Ac n cc)) (p := ⟨g1475, 2, none⟩) (ne1482.out) (.slice Bc m dc))
  have k1501 := Lib.hid (Blk.set_ (Blk.set_ (Blk.set_ (bo_1483.out) 0 (.int .i64 c)) 1 (.slice Ac n cc)) 2 (.slice Bc m dc))
  have k1502 := Lib.hid (OwnsX.far (OwnsX.far (OwnsX.far (x1_1486.out) (a := ⟨g1475, 0, none⟩) (HB1.out) (.int .i64 c)) (a := ⟨g1475, 1, none⟩) (HB1.out) (.slice Ac n cc)) (a := ⟨g1475, 2, none⟩) (HB1.out) (.slice Bc m dc))
  have k1503 := Lib.hid (OwnsX.far (OwnsX.far (OwnsX.far (x2_1489.out) (a := ⟨g1475, 0, none⟩) (HB2.out) (.int .i64 c)) (a := ⟨g1475, 1, none⟩) (HB2.out) (.slice Ac n cc)) (a := ⟨g1475, 2, none⟩) (HB2.out) (.slice Bc m dc))
  obtain ⟨w1504, hw1505⟩ : ∃ w', w' = ((((w1487).setCell ⟨g1475, 0, none⟩ (.int .i64 c)).setCell ⟨g1475, 1, none⟩ (.slice Ac n cc)).setCell ⟨g1475, 2, none⟩ (.slice Bc m dc)) := ⟨_, rfl⟩
  rw [← hw1505] at k1497 k1498 k1499 k1500 k1501 k1502 k1503
  rw [← hw1505]
  clear hw1505 v1491 f1492 v1493 f1494 v1495 f1496 hlt_
  refine hK.out _ _ k1498.out (fun _ => ?_); clear hK K
  try simp only [Act.put, qsA, qsZ, qsS]
  refine wpAnyH_done (by kernel_rfl) ?_ _
  obtain ⟨z_1029, z_1030, z_1031⟩ := at3 k1498
  obtain ⟨z_1032, z_1033, z_1034, z_1035⟩ := at4 k1499
  obtain ⟨z_1036, z_1037, z_1038⟩ := at3 k1500
  obtain ⟨z_1039, z_1040, z_1041⟩ := at3 k1501
  have NB := Lib.hid (Blk.new w1504 30 #[.int .i64 f, .int .i64 t, .int .i64 mm, .int .i64 ib])
  have OX1 := Lib.hid (OwnsX.alloc (k1502.out) (.cells #[.int .i64 f, .int .i64 t, .int .i64 mm, .int .i64 ib] 30))
  have OX2 := Lib.hid (OwnsX.alloc (k1503.out) (.cells #[.int .i64 f, .int .i64 t, .int .i64 mm, .int .i64 ib] 30))
  have BOA := Lib.hid (Blk.alloc (k1501.out) (.cells #[.int .i64 f, .int .i64 t, .int .i64 mm, .int .i64 ib] 30))
  have BZA := Lib.hid (Blk.alloc (k1500.out) (.cells #[.int .i64 f, .int .i64 t, .int .i64 mm, .int .i64 ib] 30))
  have XBA := Lib.hid (Blk.alloc (k1499.out) (.cells #[.int .i64 f, .int .i64 t, .int .i64 mm, .int .i64 ib] 30))
  have BLA := Lib.hid (Below.alloc (k1497.out) ((k1497.out).size) (.cells #[.int .i64 f, .int .i64 t, .int .i64 mm, .int .i64 ib] 30))
  have hsz_ := Nat.succ_le_of_lt (Blk.lt BZA.out); have hbo_ := Blk.lt BOA.out
  have z4_ : (w1504.alloc (.cells #[.int .i64 f, .int .i64 t, .int .i64 mm, .int .i64 ib] 30)).cell? ⟨g1475, 0, none⟩ = some (.int .i64 c) := Blk.cell BOA.out 0
  have hn4_ : n ≤ 400 := HN4.out; have hm4_ : m ≤ 400 := HM4.out
  go_wp2_with (at_builtin; refine wpList_append_X _ rfl (.tmp 34) (.tmp 36) 22 rfl (w.heap.size + 1 + 1 + 1) 30 i0 _ 4 32 Tryz.underlying22 HI.out HZ0.out HZ1.out HZ2.out rfl (by omega) Ac n cc _ rfl OX1.out ⟨w1504.heap.size, 0, none⟩ 1 1 (bcells [⟨f, t, mm, ib⟩]) rfl rfl (cells_add (cs := bcells [⟨f, t, mm, ib⟩]) (show Blk _ _ _ (bcells [⟨f, t, mm, ib⟩]).toArray from NB.out)) (bcells_one _) (by omega) (by unfold maxLen; omega) (by omega) hsz_ ?_; intro g5 c5 w5 hown5 hb5 hg5 hkp5; have HO5 := Lib.hid hown5; have HB5 := Lib.hid hb5; have bo5 := (hkp5 _ hbo_ HB1.out).trans BOA.out; have BO5 := Lib.hid (show Blk w5 g1475 24 #[.int .i64 c, .slice Ac n cc, .slice Bc m dc] from bo5); have RO5 := Lib.hid (rdB_far (rdB_of OX2.out) hkp5 HD12.out hb5.size); clear hown5 hb5 hkp5 bo5; have q0_ : w5.cell? ⟨g1475, 0, none⟩ = some (.int .i64 c) := Blk.cell BO5.out 0; have q1_ : w5.cell? ⟨g1475, 1, none⟩ = some (.slice Ac n cc) := Blk.cell BO5.out 1; have q2_ : w5.cell? ⟨g1475, 2, none⟩ = some (.slice Bc m dc) := Blk.cell BO5.out 2; have q3_ : w5.frozen? ⟨g1475, 1, none⟩ = false := Blk.frozen BO5.out 1)
  have hbz_ : w.heap.size + 1 + 1 ≠ g1475 := ne1482.out; have hlb_ : w.heap.size ≤ g1475 := lb1479.out
  have rdn_ := (OwnB.rd (show OwnB w5 (w.heap.size + 1 + 1 + 1) (some ⟨g5, 0, none⟩) (n + 1) c5 (ws ++ [⟨f, t, mm, ib⟩]) from by have h := HO5.out; rw [← bcells_append] at h; exact h)).1
  have RN := Lib.hid (rdB_setN rdn_ ⟨g1475, 1, none⟩ (.slice (some ⟨g5, 0, none⟩) (n + 1) c5) BO5.out (by intro j x; rcases j with _ | _ | j <;> simp)); have RO := Lib.hid (rdB_setN RO5.out ⟨g1475, 1, none⟩ (.slice (some ⟨g5, 0, none⟩) (n + 1) c5) BO5.out (by intro j x; rcases j with _ | _ | j <;> simp)); clear rdn_
  have BO6 := Lib.hid (Blk.set_ BO5.out 1 (.slice (some ⟨g5, 0, none⟩) (n + 1) c5)); have BZ6 := Lib.hid (Blk.far (Blk.below BZA.out HB5.out (by omega)) (p := ⟨g1475, 1, none⟩) hbz_ (.slice (some ⟨g5, 0, none⟩) (n + 1) c5)); have BL6 := Lib.hid (Below.setCell (Below.trans BLA.out (Below.mono HB5.out (by omega))) (p := ⟨g1475, 1, none⟩) hlb_ (.slice (some ⟨g5, 0, none⟩) (n + 1) c5))
  clear q0_ q1_ q2_ q3_ z4_ hsz_ hbo_ k1500 k1499
  obtain ⟨w6, hw6⟩ : ∃ w', w' = w5.setCell ⟨g1475, 1, none⟩ (.slice (some ⟨g5, 0, none⟩) (n + 1) c5) := ⟨_, rfl⟩
  rw [← hw6] at RN RO BO6 BZ6 BL6 ⊢
  clear hw6
  have hc := CheckOutline_any c (some ⟨g5, 0, none⟩) Bc (n + 1) c5 m dc (ws ++ [⟨f, t, mm, ib⟩]) ts w6 RN.out RO.out (by unfold maxLen; omega) (by unfold maxLen; omega)
  rw [E2.out] at hc
  have HC := Lib.hid hc; clear hc
  refine HC.out.mono ?_
  rintro e w9 ⟨rfl, hb⟩
  clear HC
  have RN9 := Lib.hid (RdB.below RN.out hb); have RO9 := Lib.hid (RdB.below RO.out hb)
  have BO9 := Lib.hid (show Blk w9 g1475 24 #[.int .i64 c, .slice (some ⟨g5, 0, none⟩) (n + 1) c5, .slice Bc m dc] from Blk.keep BO6.out hb); have BZ9 := Lib.hid (show Blk w9 (w.heap.size + 1 + 1) 24 #[.int .i64 0, .slice none 0 0, .slice none 0 0] from Blk.keep BZ6.out hb); have BL9 := Lib.hid (Below.trans BL6.out (Below.mono hb BL6.out.size)); clear RN RO BO6 BZ6 BL6 hb
  have q0_ : w9.cell? ⟨g1475, 0, none⟩ = some (.int .i64 c) := Blk.cell BO9.out 0
  have q1_ : w9.cell? ⟨g1475, 1, none⟩ = some (.slice (some ⟨g5, 0, none⟩) (n + 1) c5) := Blk.cell BO9.out 1
  have q2_ : w9.cell? ⟨g1475, 2, none⟩ = some (.slice Bc m dc) := Blk.cell BO9.out 2
  have y0_ : w9.cell? ⟨w.heap.size + 1 + 1, 0, none⟩ = some (.int .i64 0) := Blk.cell BZ9.out 0
  have f0_ : w9.frozen? ⟨w.heap.size + 1 + 1, 0, none⟩ = false := Blk.frozen BZ9.out 0
  have y1_ : w9.cell? ⟨w.heap.size + 1 + 1, 1, none⟩ = some (.slice none 0 0) := Blk.cell BZ9.out 1
  have f1_ : w9.frozen? ⟨w.heap.size + 1 + 1, 1, none⟩ = false := Blk.frozen BZ9.out 1
  have y2_ : w9.cell? ⟨w.heap.size + 1 + 1, 2, none⟩ = some (.slice none 0 0) := Blk.cell BZ9.out 2
  have f2_ : w9.frozen? ⟨w.heap.size + 1 + 1, 2, none⟩ = false := Blk.frozen BZ9.out 2
  have hlz_ := Blk.lt BZ9.out; have hlo_ := Blk.lt BO9.out
  by_cases hq : q = 0
  · subst hq
    go_wp2
    have bel_ := BL9.out
    refine bodyPost_ret (v := .tuple #[.agg #[.int .i64 c, .slice (some ⟨g5, 0, none⟩) (n + 1) c5, .slice Bc m dc], .int .i64 0]) (by simp [results, Tryz.results18, go_sem, y0_, y1_, y2_, f0_, f1_, f2_]) rfl ?_
    exact ⟨(some ⟨g5, 0, none⟩), (n + 1), c5, Bc, m, dc, rfl, rdB_setN (rdB_setN (rdB_setN (RN9.out) ⟨w.heap.size + 1 + 1, 0, none⟩ (.int .i64 c) (BZ9.out) (by intro j x; rcases j with _ | _ | j <;> simp)) ⟨w.heap.size + 1 + 1, 1, none⟩ (.slice (some ⟨g5, 0, none⟩) (n + 1) c5) (Blk.set_ (BZ9.out) 0 (.int .i64 c)) (by intro j x; rcases j with _ | _ | j <;> simp)) ⟨w.heap.size + 1 + 1, 2, none⟩ (.slice Bc m dc) (Blk.set_ (Blk.set_ (BZ9.out) 0 (.int .i64 c)) 1 (.slice (some ⟨g5, 0, none⟩) (n + 1) c5)) (by intro j x; rcases j with _ | _ | j <;> simp), rdB_setN (rdB_setN (rdB_setN (RO9.out) ⟨w.heap.size + 1 + 1, 0, none⟩ (.int .i64 c) (BZ9.out) (by intro j x; rcases j with _ | _ | j <;> simp)) ⟨w.heap.size + 1 + 1, 1, none⟩ (.slice (some ⟨g5, 0, none⟩) (n + 1) c5) (Blk.set_ (BZ9.out) 0 (.int .i64 c)) (by intro j x; rcases j with _ | _ | j <;> simp)) ⟨w.heap.size + 1 + 1, 2, none⟩ (.slice Bc m dc) (Blk.set_ (Blk.set_ (BZ9.out) 0 (.int .i64 c)) 1 (.slice (some ⟨g5, 0, none⟩) (n + 1) c5)) (by intro j x; rcases j with _ | _ | j <;> simp), by unfold maxLen; omega, by unfold maxLen; omega, (by have hsz_ := Below.size bel_; repeat' (first | with_reducible exact bel_ | with_reducible exact Below.refl _ _ | with_reducible refine Below.alloc ?_ ?_ _ | with_reducible refine Below.setCell ?_ ?_ _ | with_reducible refine Below.drew ?_ | with_reducible refine below_setRow ?_ ?_ _ | omega | (simp; done) | (simp; omega)))⟩
  · have hne : (q != 0) = true := by simpa using hq
    have HQ := Lib.hid hq; clear hq
    go_wp2
    have bel_ := BL9.out
    refine bodyPost_ret (v := .tuple #[.agg #[.int .i64 0, .slice none 0 0, .slice none 0 0], .int .i64 q]) (by simp [results, Tryz.results18, go_sem, y0_, y1_, y2_, f0_, f1_, f2_]) rfl ?_
    exact ⟨none, 0, 0, none, 0, 0, by rw [if_neg HQ.out], by rw [if_neg HQ.out]; exact RdB.nil_ _, by rw [if_neg HQ.out]; exact RdB.nil_ _, by unfold maxLen; omega, by unfold maxLen; omega, (by have hsz_ := Below.size bel_; repeat' (first | with_reducible exact bel_ | with_reducible exact Below.refl _ _ | with_reducible refine Below.alloc ?_ ?_ _ | with_reducible refine Below.setCell ?_ ?_ _ | with_reducible refine Below.drew ?_ | with_reducible refine below_setRow ?_ ?_ _ | omega | (simp; done) | (simp; omega)))⟩
 exact AllReadyH.nil
set_option maxRecDepth 100000 in
theorem With_err (c : Int) (A B : Option Addr) (n k m j : Nat) (ws ts : List Bnd) (w : World) (h1 : RdB w A n k ws) (h2 : RdB w B m j ts) (hn : n ≤ maxLen) (hm : m ≤ maxLen) (u : Bool) (f t mm ib : Int) (q : Int) (HQ : Hid (q ≠ 0)) (hne : (q != 0) = true) (E1 : Hid (chkO ⟨c, ws, ts⟩ = q)) :
 Calls Tryz.prog 18 #[.agg #[.int .i64 c, .slice A n k, .slice B m j], .bool u, .agg #[.int .i64 f, .int .i64 t, .int .i64 mm, .int .i64 ib]] w (RetO q (withO u ⟨c, ws, ts⟩ ⟨f, t, mm, ib⟩) w) := by
  go_enter Tryz.func18, Tryz.ntmps18
  obtain ⟨ba_1, xb_2, bz_3, bel_4⟩ := ent3 w #[.int .i64 c, .slice A n k, .slice B m j] 24 #[.int .i64 f, .int .i64 t, .int .i64 mm, .int .i64 ib] 30 #[.int .i64 0, .slice none 0 0, .slice none 0 0] 24
  have ra_5 := rI h1 bel_4
  have rb_6 := rI h2 bel_4
  clear h1 h2
  obtain ⟨z_7, z_8, z_9⟩ := at3 ba_1
  obtain ⟨z_10, z_11, z_12, z_13⟩ := at4 xb_2
  obtain ⟨z_14, z_15, z_16⟩ := at3 bz_3
  have hc := CheckOutline_any c A B n k m j ws ts _ ra_5.out rb_6.out hn hm
  rw [E1.out] at hc
  try dsimp only at hc
  have HC := Lib.hid hc; clear hc
  go_wp2_with fail
  refine HC.out.mono ?_
  rintro e w_17 ⟨rfl, hb⟩
  clear HC
  clear z_7 z_8 z_9 z_10 z_11 z_12 z_13 z_14 z_15 z_16
  have hb_18 := Lib.hid hb
  clear hb
  replace ba_1 := kH ba_1 hb_18
  obtain ⟨z_19, z_20, z_21⟩ := at3 ba_1
  replace xb_2 := kH xb_2 hb_18
  obtain ⟨z_22, z_23, z_24, z_25⟩ := at4 xb_2
  replace bz_3 := kH bz_3 hb_18
  obtain ⟨z_26, z_27, z_28⟩ := at3 bz_3
  have fz_29 : (w_17).frozen? ⟨w.heap.size + 1 + 1, 0, none⟩ = false := Blk.frozen bz_3.out 0
  have fz_30 : (w_17).frozen? ⟨w.heap.size + 1 + 1, 1, none⟩ = false := Blk.frozen bz_3.out 1
  have fz_31 : (w_17).frozen? ⟨w.heap.size + 1 + 1, 2, none⟩ = false := Blk.frozen bz_3.out 2
  have hlb_ := Blk.lt bz_3.out
  replace bel_4 := bH bel_4 hb_18
  have HK := Lib.hid (bel_4.out)
  go_wp2
  have bel_ := HK.out
  refine bodyPost_ret (v := .tuple #[.agg #[.int .i64 0, .slice none 0 0, .slice none 0 0], .int .i64 q]) (by simp [results, Tryz.results18, go_sem, z_19, z_20, z_21, z_22, z_23, z_24, z_25, z_26, z_27, z_28, fz_29, fz_30, fz_31]) rfl ?_
  exact ⟨none, 0, 0, none, 0, 0, by rw [if_neg HQ.out], by rw [if_neg HQ.out]; exact RdB.nil_ _, by rw [if_neg HQ.out]; exact RdB.nil_ _, by unfold maxLen; omega, by unfold maxLen; omega, (by have hsz_ := Below.size bel_; repeat' (first | with_reducible exact bel_ | with_reducible exact Below.refl _ _ | with_reducible refine Below.alloc ?_ ?_ _ | with_reducible refine Below.setCell ?_ ?_ _ | with_reducible refine Below.drew ?_ | with_reducible refine below_setRow ?_ ?_ _ | omega | (simp; done) | (simp; omega)))⟩
set_option maxRecDepth 100000 in
theorem With_any (c : Int) (A B : Option Addr) (n k m j : Nat) (ws ts : List Bnd) (w : World) (h1 : RdB w A n k ws) (h2 : RdB w B m j ts) (hn : n ≤ maxLen) (hm : m ≤ maxLen) (u : Bool) (f t mm ib : Int) :
 Calls Tryz.prog 18 #[.agg #[.int .i64 c, .slice A n k, .slice B m j], .bool u, .agg #[.int .i64 f, .int .i64 t, .int .i64 mm, .int .i64 ib]] w (RetO (withE u ⟨c, ws, ts⟩ ⟨f, t, mm, ib⟩) (withO u ⟨c, ws, ts⟩ ⟨f, t, mm, ib⟩) w) := by
 unfold withE
 obtain ⟨q, hq⟩ : ∃ q, chkO ⟨c, ws, ts⟩ = q := ⟨_, rfl⟩
 rw [hq]
 by_cases h0 : q = 0
 · subst h0
   rw [if_neg (by simp)]
   cases u
   · exact With_ok0 c A B n k m j ws ts w h1 h2 hn hm f t mm ib (Lib.hid hq) _ (Lib.hid rfl)
   · exact With_ok1 c A B n k m j ws ts w h1 h2 hn hm f t mm ib (Lib.hid hq) _ (Lib.hid rfl)
 · rw [if_pos h0]
   exact With_err c A B n k m j ws ts w h1 h2 hn hm u f t mm ib q (Lib.hid h0) (by simpa using h0) (Lib.hid hq)
end Go.Proofs.YtaoanagmgheicaaGreat
