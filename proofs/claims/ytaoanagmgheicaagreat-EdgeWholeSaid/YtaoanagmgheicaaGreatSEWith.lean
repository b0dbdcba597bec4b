import Derived.Test.YtaoanagmgheicaaGreatSEWays
import Derived.Test.YtaoanagmgheicaaGreatSChn
import Derived.Test.YtaoanagmgheicaaGreatSEPlaces
set_option linter.unusedSimpArgs false
set_option linter.unusedVariables false
namespace Go.Proofs.YtaoanagmgheicaaGreat
open Go.RowKit
theorem own_far {w : World} {base : Nat} {e : TypeId} {size : Nat} {v : Value} {n : Nat} {xs : List Value} (h : w.ownsRow base e size v n xs) {a : Addr} (ha : v.ownBlock = some a.block → False) (u : Value) : (w.setCell a u).ownsRow base e size v n xs := by
 refine ⟨h.1, ?_⟩
 rcases h.2 with h0 | ⟨g, cap, cur, hv, hb, hg, r⟩
 · exact .inl h0
 · refine .inr ⟨g, cap, cur, hv, hb, ?_, r⟩
   rw [heap_setCell_other _ _ _ _ (fun e => ha (by rw [hv, ← e]; rfl))]
   exact hg
end Go.Proofs.YtaoanagmgheicaaGreat
set_option linter.unusedSimpArgs false
set_option linter.unusedVariables false
namespace Go.Proofs.YtaoanagmgheicaaGreat
open Go.RowKit
def checkPlaceV (a b : Otl) (p : Prg) (xa xb ya yb : List Int) : Bool × Int := if asked a b p = 0 then (plB a b p xa xb ya yb, 0) else (false, asked a b p)
set_option maxRecDepth 100000 in
set_option maxHeartbeats 4000000 in
theorem isPlacement_is (c : Int) (A B : Option Addr) (n k m j : Nat) (ws ts : List Bnd) (d : Int) (C D : Option Addr) (n2 k2 m2 j2 : Nat) (ws2 ts2 : List Bnd) (p1 p2 p3 p4 : Int) (X1 : Option Addr) (x1 k1 : Nat) (xa : List Int) (X2 : Option Addr) (x2 k2x : Nat) (xb : List Int) (X3 : Option Addr) (x3 k3 : Nat) (ya : List Int) (X4 : Option Addr) (x4 k4 : Nat) (yb : List Int) (w : World) (h1 : RdB w A n k ws) (h2 : RdB w B m j ts) (hn : n ≤ maxLen) (hm : m ≤ maxLen) (h3 : RdB w C n2 k2 ws2) (h4 : RdB w D m2 j2 ts2) (hn2 : n2 ≤ maxLen) (hm2 : m2 ≤ maxLen) (hx0 : RdI w X1 x1 k1 xa) (hl0 : x1 ≤ maxLen) (hx1 : RdI w X2 x2 k2x xb) (hl1 : x2 ≤ maxLen) (hx2 : RdI w X3 x3 k3 ya) (hl2 : x3 ≤ maxLen) (hx3 : RdI w X4 x4 k4 yb) (hl3 : x4 ≤ maxLen) (hq : chkP ⟨c, ws, ts⟩ ⟨d, ws2, ts2⟩ ⟨p1, p2, p3, p4⟩ = 0) :
 Calls Tryz.prog 89 #[.agg #[.int .i64 c, .slice A n k, .slice B m j, .int .i64 d, .slice C n2 k2, .slice D m2 j2, .int .i64 p1, .int .i64 p2, .int .i64 p3, .int .i64 p4], .agg #[.slice X1 x1 k1, .slice X2 x2 k2x, .slice X3 x3 k3, .slice X4 x4 k4]] w fun e w' => e = .returned (.bool (plB ⟨c, ws, ts⟩ ⟨d, ws2, ts2⟩ ⟨p1, p2, p3, p4⟩ xa xb ya yb)) ∧ Below w.heap.size w w' := by
 obtain ⟨oa, ob, sa, sb, hk⟩ := chkP_ok hq
 dsimp only at sa sb hk
 obtain ⟨q1, rfl⟩ := Int.eq_ofNat_of_zero_le sa.1
 obtain ⟨q2, rfl⟩ := Int.eq_ofNat_of_zero_le (show 0 ≤ p2 by omega)
 obtain ⟨q3, rfl⟩ := Int.eq_ofNat_of_zero_le sb.1
 obtain ⟨q4, rfl⟩ := Int.eq_ofNat_of_zero_le (show 0 ≤ p4 by omega)
 exact isPlacement_any c A B n k m j ws ts d C D n2 k2 m2 j2 ws2 ts2 q1 q2 q3 q4 X1 x1 k1 xa X2 x2 k2x xb X3 x3 k3 ya X4 x4 k4 yb w h1 h2 hn hm h3 h4 hn2 hm2 hx0 hl0 hx1 hl1 hx2 hl2 hx3 hl3 hq
set_option maxRecDepth 100000 in
set_option maxHeartbeats 4000000 in
theorem CheckPlace_any (c : Int) (A B : Option Addr) (n k m j : Nat) (ws ts : List Bnd) (d : Int) (C D : Option Addr) (n2 k2 m2 j2 : Nat) (ws2 ts2 : List Bnd) (p1 p2 p3 p4 : Int) (w : World) (h1 : RdB w A n k ws) (h2 : RdB w B m j ts) (hn : n ≤ maxLen) (hm : m ≤ maxLen) (h3 : RdB w C n2 k2 ws2) (h4 : RdB w D m2 j2 ts2) (hn2 : n2 ≤ maxLen) (hm2 : m2 ≤ maxLen) (X1 : Option Addr) (x1 k1 : Nat) (xa : List Int) (X2 : Option Addr) (x2 k2x : Nat) (xb : List Int) (X3 : Option Addr) (x3 k3 : Nat) (ya : List Int) (X4 : Option Addr) (x4 k4 : Nat) (yb : List Int) (hx0 : RdI w X1 x1 k1 xa) (hl0 : x1 ≤ maxLen) (hx1 : RdI w X2 x2 k2x xb) (hl1 : x2 ≤ maxLen) (hx2 : RdI w X3 x3 k3 ya) (hl2 : x3 ≤ maxLen) (hx3 : RdI w X4 x4 k4 yb) (hl3 : x4 ≤ maxLen) : Calls Tryz.prog 38 #[.agg #[.int .i64 c, .slice A n k, .slice B m j], .agg #[.int .i64 d, .slice C n2 k2, .slice D m2 j2], .agg #[.int .i64 p1, .int .i64 p2, .int .i64 p3, .int .i64 p4], .agg #[.slice X1 x1 k1, .slice X2 x2 k2x, .slice X3 x3 k3, .slice X4 x4 k4]] w fun e w' => e = .returned (.tuple #[.bool (checkPlaceV ⟨c, ws, ts⟩ ⟨d, ws2, ts2⟩ ⟨p1, p2, p3, p4⟩ xa xb ya yb).1, .int .i64 (checkPlaceV ⟨c, ws, ts⟩ ⟨d, ws2, ts2⟩ ⟨p1, p2, p3, p4⟩ xa xb ya yb).2]) ∧ Below w.heap.size w w' := by
 unfold checkPlaceV
 by_cases hq : asked ⟨c, ws, ts⟩ ⟨d, ws2, ts2⟩ ⟨p1, p2, p3, p4⟩ = 0
 · rw [if_pos hq]
   have HQ1 := Lib.hid (asked_ok hq).1
   go_enter Tryz.func38, Tryz.ntmps38
   have bel_1 := Lib.hid (show Below w.heap.size w w from Below.refl _ w)
   have ra_2 := Lib.hid (h1)
   clear h1
   have rb_3 := Lib.hid (h2)
   clear h2
   have rc_4 := Lib.hid (h3)
   clear h3
   have rd_5 := Lib.hid (h4)
   clear h4
   have l0_6 := Lib.hid (hx0)
   clear hx0
   have l1_7 := Lib.hid (hx1)
   clear hx1
   have l2_8 := Lib.hid (hx2)
   clear hx2
   have l3_9 := Lib.hid (hx3)
   clear hx3
   obtain ⟨o_, ho_⟩ : ∃ o, o = ((.cells #[.int .i64 c, .slice A n k, .slice B m j] 24) : Obj) := ⟨_, rfl⟩
   replace bel_1 := bA bel_1 o_
   replace ra_2 := rA ra_2 o_
   replace rb_3 := rA rb_3 o_
   replace rc_4 := rA rc_4 o_
   replace rd_5 := rA rd_5 o_
   replace l0_6 := iA l0_6 o_
   replace l1_7 := iA l1_7 o_
   replace l2_8 := iA l2_8 o_
   replace l3_9 := iA l3_9 o_
   subst ho_
   have ba_10 := Lib.hid (Blk.new w 24 #[.int .i64 c, .slice A n k, .slice B m j])
   obtain ⟨o_, ho_⟩ : ∃ o, o = ((.cells #[.int .i64 d, .slice C n2 k2, .slice D m2 j2] 24) : Obj) := ⟨_, rfl⟩
   replace bel_1 := bA bel_1 o_
   replace ra_2 := rA ra_2 o_
   replace rb_3 := rA rb_3 o_
   replace rc_4 := rA rc_4 o_
   replace rd_5 := rA rd_5 o_
   replace l0_6 := iA l0_6 o_
   replace l1_7 := iA l1_7 o_
   replace l2_8 := iA l2_8 o_
   replace l3_9 := iA l3_9 o_
   replace ba_10 := kA ba_10 o_
   subst ho_
   have nb_ := Blk.new (w.alloc (.cells #[.int .i64 c, .slice A n k, .slice B m j] 24)) 24 #[.int .i64 d, .slice C n2 k2, .slice D m2 j2]
   simp only [World.size_alloc] at nb_
   have bb_11 := Lib.hid nb_; clear nb_
   obtain ⟨o_, ho_⟩ : ∃ o, o = ((.cells #[.int .i64 p1, .int .i64 p2, .int .i64 p3, .int .i64 p4] 28) : Obj) := ⟨_, rfl⟩
   replace bel_1 := bA bel_1 o_
   replace ra_2 := rA ra_2 o_
   replace rb_3 := rA rb_3 o_
   replace rc_4 := rA rc_4 o_
   replace rd_5 := rA rd_5 o_
   replace l0_6 := iA l0_6 o_
   replace l1_7 := iA l1_7 o_
   replace l2_8 := iA l2_8 o_
   replace l3_9 := iA l3_9 o_
   replace ba_10 := kA ba_10 o_
   replace bb_11 := kA bb_11 o_
   subst ho_
   have nb_ := Blk.new ((w.alloc (.cells #[.int .i64 c, .slice A n k, .slice B m j] 24)).alloc (.cells #[.int .i64 d, .slice C n2 k2, .slice D m2 j2] 24)) 28 #[.int .i64 p1, .int .i64 p2, .int .i64 p3, .int .i64 p4]
   simp only [World.size_alloc] at nb_
   have bp_12 := Lib.hid nb_; clear nb_
   obtain ⟨o_, ho_⟩ : ∃ o, o = ((.cells #[.slice X1 x1 k1, .slice X2 x2 k2x, .slice X3 x3 k3, .slice X4 x4 k4] 54) : Obj) := ⟨_, rfl⟩
   replace bel_1 := bA bel_1 o_
   replace ra_2 := rA ra_2 o_
   replace rb_3 := rA rb_3 o_
   replace rc_4 := rA rc_4 o_
   replace rd_5 := rA rd_5 o_
   replace l0_6 := iA l0_6 o_
   replace l1_7 := iA l1_7 o_
   replace l2_8 := iA l2_8 o_
   replace l3_9 := iA l3_9 o_
   replace ba_10 := kA ba_10 o_
   replace bb_11 := kA bb_11 o_
   replace bp_12 := kA bp_12 o_
   subst ho_
   have nb_ := Blk.new (((w.alloc (.cells #[.int .i64 c, .slice A n k, .slice B m j] 24)).alloc (.cells #[.int .i64 d, .slice C n2 k2, .slice D m2 j2] 24)).alloc (.cells #[.int .i64 p1, .int .i64 p2, .int .i64 p3, .int .i64 p4] 28)) 54 #[.slice X1 x1 k1, .slice X2 x2 k2x, .slice X3 x3 k3, .slice X4 x4 k4]
   simp only [World.size_alloc] at nb_
   have by_13 := Lib.hid nb_; clear nb_
   obtain ⟨z_14, z_15, z_16⟩ := at3 ba_10
   obtain ⟨z_17, z_18, z_19⟩ := at3 bb_11
   obtain ⟨z_20, z_21, z_22, z_23⟩ := at4 bp_12
   obtain ⟨z_24, z_25, z_26, z_27⟩ := at4 by_13
   have hc := pairOf_yes c A B n k m j ws ts d C D n2 k2 m2 j2 ws2 ts2 p1 p2 p3 p4 _ ra_2.out rb_3.out hn hm rc_4.out rd_5.out hn2 hm2 hq
   have HC := Lib.hid hc; clear hc
   go_wp2_with fail
   refine HC.out.mono ?_
   rintro e w_28 ⟨rfl, hb⟩
   clear HC
   clear z_14 z_15 z_16 z_17 z_18 z_19 z_20 z_21 z_22 z_23 z_24 z_25 z_26 z_27
   replace bel_1 := bB bel_1 hb
   replace ra_2 := rB ra_2 hb
   replace rb_3 := rB rb_3 hb
   replace rc_4 := rB rc_4 hb
   replace rd_5 := rB rd_5 hb
   replace l0_6 := iB l0_6 hb
   replace l1_7 := iB l1_7 hb
   replace l2_8 := iB l2_8 hb
   replace l3_9 := iB l3_9 hb
   replace ba_10 := kB ba_10 hb
   replace bb_11 := kB bb_11 hb
   replace bp_12 := kB bp_12 hb
   replace by_13 := kB by_13 hb
   clear hb
   obtain ⟨z_29, z_30, z_31⟩ := at3 ba_10
   obtain ⟨z_32, z_33, z_34⟩ := at3 bb_11
   obtain ⟨z_35, z_36, z_37, z_38⟩ := at4 bp_12
   obtain ⟨z_39, z_40, z_41, z_42⟩ := at4 by_13
   clear z_29 z_30 z_31 z_32 z_33 z_34 z_35 z_36 z_37 z_38 z_39 z_40 z_41 z_42
   obtain ⟨o_, ho_⟩ : ∃ o, o = ((.cells #[.int .i64 c, .slice A n k, .slice B m j, .int .i64 d, .slice C n2 k2, .slice D m2 j2, .int .i64 p1, .int .i64 p2, .int .i64 p3, .int .i64 p4] 101) : Obj) := ⟨_, rfl⟩
   replace bel_1 := bA bel_1 o_
   replace ra_2 := rA ra_2 o_
   replace rb_3 := rA rb_3 o_
   replace rc_4 := rA rc_4 o_
   replace rd_5 := rA rd_5 o_
   replace l0_6 := iA l0_6 o_
   replace l1_7 := iA l1_7 o_
   replace l2_8 := iA l2_8 o_
   replace l3_9 := iA l3_9 o_
   replace ba_10 := kA ba_10 o_
   replace bb_11 := kA bb_11 o_
   replace bp_12 := kA bp_12 o_
   replace by_13 := kA by_13 o_
   subst ho_
   have bq_43 := Lib.hid (Blk.new w_28 101 #[.int .i64 c, .slice A n k, .slice B m j, .int .i64 d, .slice C n2 k2, .slice D m2 j2, .int .i64 p1, .int .i64 p2, .int .i64 p3, .int .i64 p4])
   obtain ⟨z_44, z_45, z_46⟩ := at3 ba_10
   obtain ⟨z_47, z_48, z_49⟩ := at3 bb_11
   obtain ⟨z_50, z_51, z_52, z_53⟩ := at4 bp_12
   obtain ⟨z_54, z_55, z_56, z_57⟩ := at4 by_13
   obtain ⟨z_58, z_59, z_60, z_61, z_62, z_63, z_64, z_65, z_66, z_67⟩ := at10 bq_43
   have hc := isPlacement_is c A B n k m j ws ts d C D n2 k2 m2 j2 ws2 ts2 p1 p2 p3 p4 X1 x1 k1 xa X2 x2 k2x xb X3 x3 k3 ya X4 x4 k4 yb _ ra_2.out rb_3.out hn hm rc_4.out rd_5.out hn2 hm2 l0_6.out hl0 l1_7.out hl1 l2_8.out hl2 l3_9.out hl3 HQ1.out
   have HC := Lib.hid hc; clear hc
   go_wp2_with fail
   refine HC.out.mono ?_
   rintro e w_68 ⟨rfl, hb⟩
   clear HC
   clear z_44 z_45 z_46 z_47 z_48 z_49 z_50 z_51 z_52 z_53 z_54 z_55 z_56 z_57 z_58 z_59 z_60 z_61 z_62 z_63 z_64 z_65 z_66 z_67
   replace bel_1 := bB bel_1 hb
   replace ra_2 := rB ra_2 hb
   replace rb_3 := rB rb_3 hb
   replace rc_4 := rB rc_4 hb
   replace rd_5 := rB rd_5 hb
   replace l0_6 := iB l0_6 hb
   replace l1_7 := iB l1_7 hb
   replace l2_8 := iB l2_8 hb
   replace l3_9 := iB l3_9 hb
   replace ba_10 := kB ba_10 hb
   replace bb_11 := kB bb_11 hb
   replace bp_12 := kB bp_12 hb
   replace by_13 := kB by_13 hb
   replace bq_43 := kB bq_43 hb
   clear hb
   go_wp2
   go_ret2
   exact ⟨rfl, bel_1.out⟩
 · rw [if_neg hq]
   obtain ⟨q, hq2⟩ : ∃ q, asked ⟨c, ws, ts⟩ ⟨d, ws2, ts2⟩ ⟨p1, p2, p3, p4⟩ = q := ⟨_, rfl⟩
   rw [hq2] at hq
   rw [hq2]
   have hne := hq
   have hqe : (q == 0) = false := by simpa using hq
   clear hq
   have hq := hq2; clear hq2
   dsimp only
   go_enter Tryz.func38, Tryz.ntmps38
   have bel_1 := Lib.hid (show Below w.heap.size w w from Below.refl _ w)
   have ra_2 := Lib.hid (h1)
   clear h1
   have rb_3 := Lib.hid (h2)
   clear h2
   have rc_4 := Lib.hid (h3)
   clear h3
   have rd_5 := Lib.hid (h4)
   clear h4
   have l0_6 := Lib.hid (hx0)
   clear hx0
   have l1_7 := Lib.hid (hx1)
   clear hx1
   have l2_8 := Lib.hid (hx2)
   clear hx2
   have l3_9 := Lib.hid (hx3)
   clear hx3
   obtain ⟨o_, ho_⟩ : ∃ o, o = ((.cells #[.int .i64 c, .slice A n k, .slice B m j] 24) : Obj) := ⟨_, rfl⟩
   replace bel_1 := bA bel_1 o_
   replace ra_2 := rA ra_2 o_
   replace rb_3 := rA rb_3 o_
   replace rc_4 := rA rc_4 o_
   replace rd_5 := rA rd_5 o_
   replace l0_6 := iA l0_6 o_
   replace l1_7 := iA l1_7 o_
   replace l2_8 := iA l2_8 o_
   replace l3_9 := iA l3_9 o_
   subst ho_
   have ba_10 := Lib.hid (Blk.new w 24 #[.int .i64 c, .slice A n k, .slice B m j])
   obtain ⟨o_, ho_⟩ : ∃ o, o = ((.cells #[.int .i64 d, .slice C n2 k2, .slice D m2 j2] 24) : Obj) := ⟨_, rfl⟩
   replace bel_1 := bA bel_1 o_
   replace ra_2 := rA ra_2 o_
   replace rb_3 := rA rb_3 o_
   replace rc_4 := rA rc_4 o_
   replace rd_5 := rA rd_5 o_
   replace l0_6 := iA l0_6 o_
   replace l1_7 := iA l1_7 o_
   replace l2_8 := iA l2_8 o_
   replace l3_9 := iA l3_9 o_
   replace ba_10 := kA ba_10 o_
   subst ho_
   have nb_ := Blk.new (w.alloc (.cells #[.int .i64 c, .slice A n k, .slice B m j] 24)) 24 #[.int .i64 d, .slice C n2 k2, .slice D m2 j2]
   simp only [World.size_alloc] at nb_
   have bb_11 := Lib.hid nb_; clear nb_
   obtain ⟨o_, ho_⟩ : ∃ o, o = ((.cells #[.int .i64 p1, .int .i64 p2, .int .i64 p3, .int .i64 p4] 28) : Obj) := ⟨_, rfl⟩
   replace bel_1 := bA bel_1 o_
   replace ra_2 := rA ra_2 o_
   replace rb_3 := rA rb_3 o_
   replace rc_4 := rA rc_4 o_
   replace rd_5 := rA rd_5 o_
   replace l0_6 := iA l0_6 o_
   replace l1_7 := iA l1_7 o_
   replace l2_8 := iA l2_8 o_
   replace l3_9 := iA l3_9 o_
   replace ba_10 := kA ba_10 o_
   replace bb_11 := kA bb_11 o_
   subst ho_
   have nb_ := Blk.new ((w.alloc (.cells #[.int .i64 c, .slice A n k, .slice B m j] 24)).alloc (.cells #[.int .i64 d, .slice C n2 k2, .slice D m2 j2] 24)) 28 #[.int .i64 p1, .int .i64 p2, .int .i64 p3, .int .i64 p4]
   simp only [World.size_alloc] at nb_
   have bp_12 := Lib.hid nb_; clear nb_
   obtain ⟨o_, ho_⟩ : ∃ o, o = ((.cells #[.slice X1 x1 k1, .slice X2 x2 k2x, .slice X3 x3 k3, .slice X4 x4 k4] 54) : Obj) := ⟨_, rfl⟩
   replace bel_1 := bA bel_1 o_
   replace ra_2 := rA ra_2 o_
   replace rb_3 := rA rb_3 o_
   replace rc_4 := rA rc_4 o_
   replace rd_5 := rA rd_5 o_
   replace l0_6 := iA l0_6 o_
   replace l1_7 := iA l1_7 o_
   replace l2_8 := iA l2_8 o_
   replace l3_9 := iA l3_9 o_
   replace ba_10 := kA ba_10 o_
   replace bb_11 := kA bb_11 o_
   replace bp_12 := kA bp_12 o_
   subst ho_
   have nb_ := Blk.new (((w.alloc (.cells #[.int .i64 c, .slice A n k, .slice B m j] 24)).alloc (.cells #[.int .i64 d, .slice C n2 k2, .slice D m2 j2] 24)).alloc (.cells #[.int .i64 p1, .int .i64 p2, .int .i64 p3, .int .i64 p4] 28)) 54 #[.slice X1 x1 k1, .slice X2 x2 k2x, .slice X3 x3 k3, .slice X4 x4 k4]
   simp only [World.size_alloc] at nb_
   have by_13 := Lib.hid nb_; clear nb_
   obtain ⟨z_14, z_15, z_16⟩ := at3 ba_10
   obtain ⟨z_17, z_18, z_19⟩ := at3 bb_11
   obtain ⟨z_20, z_21, z_22, z_23⟩ := at4 bp_12
   obtain ⟨z_24, z_25, z_26, z_27⟩ := at4 by_13
   have hc := pairOf_no c A B n k m j ws ts d C D n2 k2 m2 j2 ws2 ts2 p1 p2 p3 p4 _ ra_2.out rb_3.out hn hm rc_4.out rd_5.out hn2 hm2 q hq hne
   have HC := Lib.hid hc; clear hc
   go_wp2_with fail
   refine HC.out.mono ?_
   rintro e w_28 ⟨rfl, hb⟩
   clear HC
   clear z_14 z_15 z_16 z_17 z_18 z_19 z_20 z_21 z_22 z_23 z_24 z_25 z_26 z_27
   replace bel_1 := bB bel_1 hb
   replace ra_2 := rB ra_2 hb
   replace rb_3 := rB rb_3 hb
   replace rc_4 := rB rc_4 hb
   replace rd_5 := rB rd_5 hb
   replace l0_6 := iB l0_6 hb
   replace l1_7 := iB l1_7 hb
   replace l2_8 := iB l2_8 hb
   replace l3_9 := iB l3_9 hb
   replace ba_10 := kB ba_10 hb
   replace bb_11 := kB bb_11 hb
   replace bp_12 := kB bp_12 hb
   replace by_13 := kB by_13 hb
   clear hb
   obtain ⟨z_29, z_30, z_31⟩ := at3 ba_10
   obtain ⟨z_32, z_33, z_34⟩ := at3 bb_11
   obtain ⟨z_35, z_36, z_37, z_38⟩ := at4 bp_12
   obtain ⟨z_39, z_40, z_41, z_42⟩ := at4 by_13
   clear z_29 z_30 z_31 z_32 z_33 z_34 z_35 z_36 z_37 z_38 z_39 z_40 z_41 z_42
   obtain ⟨o_, ho_⟩ : ∃ o, o = ((.cells #[.int .i64 0, .slice none 0 0, .slice none 0 0, .int .i64 0, .slice none 0 0, .slice none 0 0, .int .i64 0, .int .i64 0, .int .i64 0, .int .i64 0] 101) : Obj) := ⟨_, rfl⟩
   replace bel_1 := bA bel_1 o_
   replace ra_2 := rA ra_2 o_
   replace rb_3 := rA rb_3 o_
   replace rc_4 := rA rc_4 o_
   replace rd_5 := rA rd_5 o_
   replace l0_6 := iA l0_6 o_
   replace l1_7 := iA l1_7 o_
   replace l2_8 := iA l2_8 o_
   replace l3_9 := iA l3_9 o_
   replace ba_10 := kA ba_10 o_
   replace bb_11 := kA bb_11 o_
   replace bp_12 := kA bp_12 o_
   replace by_13 := kA by_13 o_
   subst ho_
   have bq_43 := Lib.hid (Blk.new w_28 101 #[.int .i64 0, .slice none 0 0, .slice none 0 0, .int .i64 0, .slice none 0 0, .slice none 0 0, .int .i64 0, .int .i64 0, .int .i64 0, .int .i64 0])
   obtain ⟨z_44, z_45, z_46⟩ := at3 ba_10
   obtain ⟨z_47, z_48, z_49⟩ := at3 bb_11
   obtain ⟨z_50, z_51, z_52, z_53⟩ := at4 bp_12
   obtain ⟨z_54, z_55, z_56, z_57⟩ := at4 by_13
   obtain ⟨z_58, z_59, z_60, z_61, z_62, z_63, z_64, z_65, z_66, z_67⟩ := at10 bq_43
   go_wp2
   go_ret2
   exact ⟨rfl, (by have hsz_ := Below.size bel_1.out; repeat' (first | with_reducible exact bel_1.out | with_reducible exact Below.refl _ _ | with_reducible refine Below.alloc ?_ ?_ _ | with_reducible refine Below.setCell ?_ ?_ _ | with_reducible refine Below.drew ?_ | with_reducible refine below_setRow ?_ ?_ _ | omega | (simp; done) | (simp; omega)))⟩
def withO (u : Bool) (a : Otl) (x : Bnd) : Otl := if u then ⟨a.c, a.ws, a.ts ++ [x]⟩ else ⟨a.c, a.ws ++ [x], a.ts⟩
def withE (u : Bool) (a : Otl) (x : Bnd) : Int := if chkO a ≠ 0 then chkO a else chkO (withO u a x)
def RetO (q : Int) (o : Otl) (w : World) (e : Ending) (w' : World) : Prop :=
 ∃ A n k B m j, e = .returned (.tuple #[.agg #[.int .i64 (if q = 0 then o.c else 0), .slice A n k, .slice B m j], .int .i64 q]) ∧ RdB w' A n k (if q = 0 then o.ws else []) ∧ RdB w' B m j (if q = 0 then o.ts else []) ∧ n ≤ maxLen ∧ m ≤ maxLen ∧ Below w.heap.size w w'
theorem OwnsX.gt {w : World} {base : Nat} {e : TypeId} {size : Nat} {A : Option Addr} {n c : Nat} {xs : List Value} (h : OwnsX w base e size (.slice A n c) n xs) {k : Nat} (hk : k < base) (hc : c ≠ 0) : (Value.slice A n c).ownBlock ≠ some k := by
 intro he
 rcases h.either with ⟨-, h⟩ | ⟨-, h, -⟩
 · have := (h.lt k he).1; omega
 · exact hc h
theorem OwnsX.far {w : World} {base : Nat} {e : TypeId} {size : Nat} {A : Option Addr} {n c : Nat} {xs : List Value} (h : OwnsX w base e size (.slice A n c) n xs) {a : Addr} (ha : c ≠ 0 → (Value.slice A n c).ownBlock ≠ some a.block) (u : Value) : OwnsX (w.setCell a u) base e size (.slice A n c) n xs := by
 rcases h.either with ⟨hc, h⟩ | ⟨h1, h2, h3⟩
 · exact .inl (own_far h (ha hc) u)
 · subst h1 h2 h3
   exact .inr ⟨A, rfl, rfl, rfl⟩
theorem OwnsX.apart {w w' : World} {b1 : Nat} {e : TypeId} {size : Nat} {A B : Option Addr} {n c m d : Nat} {xs ys : List Value} (h1 : OwnsX w b1 e size (.slice A n c) n xs) (h2 : OwnsX w' w.heap.size e size (.slice B m d) m ys) :
 ∀ b o, B = some ⟨b, o, none⟩ → m ≠ 0 → c ≠ 0 → (Value.slice A n c).ownBlock ≠ some b := by
 intro b o hB hm hc he
 rcases h1.either with ⟨-, h1⟩ | ⟨-, h1, -⟩
 · have i1 := (h1.lt b he).2
   rcases h2.either with ⟨-, h2⟩ | ⟨h2, -, -⟩
   · subst hB
     have := (h2.lt b rfl).1
     omega
   · exact hm h2
 · exact hc h1
theorem OwnsX.apart' {w w' : World} {b1 : Nat} {e : TypeId} {size : Nat} {A B : Option Addr} {n c m d : Nat} {xs ys : List Value} (h1 : OwnsX w b1 e size (.slice A n c) n xs) (h2 : OwnsX w' w.heap.size e size (.slice B m d) m ys) :
 ∀ b o, A = some ⟨b, o, none⟩ → n ≠ 0 → d ≠ 0 → (Value.slice B m d).ownBlock ≠ some b := by
 intro b o hA hn hd he
 rcases h2.either with ⟨-, h2⟩ | ⟨-, h2, -⟩
 · have i1 := (h2.lt b he).1
   rcases h1.either with ⟨-, h1⟩ | ⟨h1, -, -⟩
   · subst hA
     have := (h1.lt b rfl).2
     omega
   · exact hn h1
 · exact hd h2
theorem rdB_setN {w : World} {A : Option Addr} {n c : Nat} {l : List Bnd} (h : RdB w A n c l) (a : Addr) (u : Value) {t : TypeId} {cs : Array Value} (hb : Blk w a.block t cs) (hn : ∀ (j : Nat) (x : Int), cs[j + 1]? ≠ some (.int .i64 x)) : RdB (w.setCell a u) A n c l := by
 refine ⟨h.len, h.cap, h.nil, ?_⟩
 rcases h.cells with h0 | ⟨k, o, e, hlt, hj⟩
 · exact .inl h0
 · refine .inr ⟨k, o, e, by rw [show (w.setCell a u).heap.size = w.heap.size by simp]; exact hlt, fun j q hq => ?_⟩
   by_cases hbb : k = a.block
   · exfalso
     subst hbb
     cases l with
     | nil => simp [bcells] at hq
     | cons y l =>
      have h2 := hj 1 (.int .i64 y.t) (by simp [bcells, Bnd.cells])
      rw [hb.cell] at h2
      exact hn o y.t h2
   · rw [World.cell?_of_block (a := ⟨k, o + j, none⟩) (heap_setCell_other w a k u hbb)]
     exact hj j q hq
theorem rdB_far {w w' : World} {A S : Option Addr} {n c m d : Nat} {l : List Bnd} (h : RdB w A n c l) (hk : ∀ k, k < w.heap.size → (d ≠ 0 → (Value.slice S m d).ownBlock ≠ some k) → w'.heap[k]? = w.heap[k]?)
 (hf : ∀ b o, A = some ⟨b, o, none⟩ → n ≠ 0 → d ≠ 0 → (Value.slice S m d).ownBlock ≠ some b) (hs : w.heap.size ≤ w'.heap.size) : RdB w' A n c l := by
 refine ⟨h.len, h.cap, h.nil, ?_⟩
 rcases h.cells with h0 | ⟨b, o, e, hlt, hj⟩
 · exact .inl h0
 · by_cases hn : n = 0
   · left
     have := h.len
     rw [hn] at this
     rw [List.length_eq_zero_iff.1 this]
     rfl
   · refine .inr ⟨b, o, e, Nat.lt_of_lt_of_le hlt hs, fun j u hu => ?_⟩
     rw [World.cell?_of_block (a := ⟨b, o + j, none⟩) (hk b hlt (hf b o e hn))]
     exact hj j u hu
set_option maxRecDepth 100000 in
set_option maxHeartbeats 4000000 in
theorem With_ok1 (c : Int) (A B : Option Addr) (n k m j : Nat) (ws ts : List Bnd) (w : World) (h1 : RdB w A n k ws) (h2 : RdB w B m j ts) (hn : n ≤ maxLen) (hm : m ≤ maxLen) (f t mm ib : Int) (E1 : Hid (chkO ⟨c, ws, ts⟩ = 0)) (q : Int) (E2 : Hid (chkO ⟨c, ws, ts ++ [⟨f, t, mm, ib⟩]⟩ = q)) :
 Calls Tryz.prog 18 #[.agg #[.int .i64 c, .slice A n k, .slice B m j], .bool true, .agg #[.int .i64 f, .int .i64 t, .int .i64 mm, .int .i64 ib]] w (RetO q (withO true ⟨c, ws, ts⟩ ⟨f, t, mm, ib⟩) w) := by
 obtain ⟨i0, hi0, hz0, hz1, hz2⟩ := info_parts infoB
 have HI := Lib.hid hi0; have HZ0 := Lib.hid hz0; have HZ1 := Lib.hid hz1; have HZ2 := Lib.hid hz2; clear hi0 hz0 hz1 hz2
 obtain ⟨-, -, g3, g4⟩ := chkO_ok E1.out
 have HL1 := Lib.hid (chk_ok g3).2.2.1; have HL2 := Lib.hid (chk_ok g4).2.2.1; clear g3 g4
 have HN4 := Lib.hid (rdB_len h1 HL1.out); have HM4 := Lib.hid (rdB_len h2 HL2.out)
 go_enter Tryz.func18, Tryz.ntmps18
 have bel_1 := Lib.hid (show Below w.heap.size w w from Below.refl _ w)
 have ra_2 := Lib.hid (h1)
 clear h1
 have rb_3 := Lib.hid (h2)
 clear h2
 obtain ⟨o_, ho_⟩ : ∃ o, o = ((.cells #[.int .i64 c, .slice A n k, .slice B m j] 24) : Obj) := ⟨_, rfl⟩
 replace bel_1 := bA bel_1 o_
 replace ra_2 := rA ra_2 o_
 replace rb_3 := rA rb_3 o_
 subst ho_
 have ba_4 := Lib.hid (Blk.new w 24 #[.int .i64 c, .slice A n k, .slice B m j])
 obtain ⟨o_, ho_⟩ : ∃ o, o = ((.cells #[.int .i64 f, .int .i64 t, .int .i64 mm, .int .i64 ib] 30) : Obj) := ⟨_, rfl⟩
 replace bel_1 := bA bel_1 o_
 replace ra_2 := rA ra_2 o_
 replace rb_3 := rA rb_3 o_
 replace ba_4 := kA ba_4 o_
 subst ho_
 have nb_ := Blk.new (w.alloc (.cells #[.int .i64 c, .slice A n k, .slice B m j] 24)) 30 #[.int .i64 f, .int .i64 t, .int .i64 mm, .int .i64 ib]
 simp only [World.size_alloc] at nb_
 have xb_5 := Lib.hid nb_; clear nb_
 obtain ⟨o_, ho_⟩ : ∃ o, o = ((.cells #[.int .i64 0, .slice none 0 0, .slice none 0 0] 24) : Obj) := ⟨_, rfl⟩
 replace bel_1 := bA bel_1 o_
 replace ra_2 := rA ra_2 o_
 replace rb_3 := rA rb_3 o_
 replace ba_4 := kA ba_4 o_
 replace xb_5 := kA xb_5 o_
 subst ho_
 have nb_ := Blk.new ((w.alloc (.cells #[.int .i64 c, .slice A n k, .slice B m j] 24)).alloc (.cells #[.int .i64 f, .int .i64 t, .int .i64 mm, .int .i64 ib] 30)) 24 #[.int .i64 0, .slice none 0 0, .slice none 0 0]
 simp only [World.size_alloc] at nb_
 have bz_6 := Lib.hid nb_; clear nb_
 obtain ⟨z_7, z_8, z_9⟩ := at3 ba_4
 obtain ⟨z_10, z_11, z_12, z_13⟩ := at4 xb_5
 obtain ⟨z_14, z_15, z_16⟩ := at3 bz_6
 have hc := CheckOutline_any c A B n k m j ws ts _ ra_2.out rb_3.out hn hm
 rw [E1.out] at hc
 try dsimp only at hc
 have HC := Lib.hid hc; clear hc
 go_wp2_with fail
 refine HC.out.mono ?_
 rintro e w_17 ⟨rfl, hb⟩
 clear HC
 clear z_7 z_8 z_9 z_10 z_11 z_12 z_13 z_14 z_15 z_16
 replace bel_1 := bB bel_1 hb
 replace ra_2 := rB ra_2 hb
 replace rb_3 := rB rb_3 hb
 replace ba_4 := kB ba_4 hb
 replace xb_5 := kB xb_5 hb
 replace bz_6 := kB bz_6 hb
 clear hb
 obtain ⟨z_18, z_19, z_20⟩ := at3 ba_4
 obtain ⟨z_21, z_22, z_23, z_24⟩ := at4 xb_5
 obtain ⟨z_25, z_26, z_27⟩ := at3 bz_6
 go_wp2_with fail
 clear z_18 z_19 z_20 z_21 z_22 z_23 z_24 z_25 z_26 z_27
 replace bel_1 := bD bel_1
 replace ra_2 := rD ra_2
 replace rb_3 := rD rb_3
 replace ba_4 := kD ba_4
 replace xb_5 := kD xb_5
 replace bz_6 := kD bz_6
 refine wp_region_held_drew (S := (fun W' => Blk W' (w.heap.size) 24 #[.int .i64 c, .slice A n k, .slice B m j])) (by kernel_rfl) ba_4.out (fun _ => ?_)
 obtain ⟨w1268, hw1269⟩ : ∃ w', w' = (w_17.drew) := ⟨_, rfl⟩
 rw [← hw1269] at bel_1 ra_2 rb_3 ba_4 xb_5 bz_6
 rw [← hw1269]
 clear hw1269
 refine' tkH 0 ba_4.out ?hyR1270 ?_
 case hyR1270 => (rintro _ -; go_simp; try with_reducible rfl)
 refine' tkH 1 ba_4.out ?hyR1271 ?_
 case hyR1271 => (rintro W' hS0; have hc0 := Blk.nth hS0 0; clear hS0; go_simp; try with_reducible rfl)
 refine' tkH 2 ba_4.out ?hyR1272 ?_
 case hyR1272 => (rintro _ -; go_simp; try with_reducible rfl)
 refine' tkH 3 ba_4.out ?hyR1273 ?_
 case hyR1273 => (rintro W' hS0; have hc0 := Blk.nth hS0 1; clear hS0; go_simp; try with_reducible rfl)
 try simp only [Act.put, List.setIfInBounds_toArray, List.set_cons_zero, List.set_cons_succ]
 refine' tkH 5 ba_4.out ?hyR1274 ?_
 case hyR1274 => (rintro _ -; go_simp; try with_reducible rfl)
 refine' tkH 6 ba_4.out ?hyR1275 ?_
 case hyR1275 => (rintro W' hS0; have hc0 := Blk.nth hS0 2; clear hS0; go_simp; try with_reducible rfl)
 try simp only [Act.put, List.setIfInBounds_toArray, List.set_cons_zero, List.set_cons_succ]
 refine wpAnyH_ready (rs := [4, 9]) (by kernel_rfl) (by simp) ?_
 refine rdH rfl (fun K hK => ?_) ?_
 · -- 4: call
  have hn4_ : n ≤ 400 := by have h := HL1.out; have h2 := (ra_2.out).len; omega
  go_simp
  go_at_call 61
  refine (ecopied_any A n k ws _ ra_2.out hn4_).mono ?_
  rintro e w1276 ⟨Ac, cc, rfl, hox1, hb1277⟩
  dsimp only
  have hox1 := OwnsX.base hox1 (show w.heap.size + 1 + 1 + 1 ≤ _ from Nat.succ_le_of_lt (Blk.lt (bz_6.out)))
  replace bel_1 := bB bel_1 hb1277
  replace ra_2 := rB ra_2 hb1277
  replace rb_3 := rB rb_3 hb1277
  replace ba_4 := kB ba_4 hb1277
  replace xb_5 := kB xb_5 hb1277
  replace bz_6 := kB bz_6 hb1277
  have x1_1278 := Lib.hid (hox1)
  clear hox1
  refine hK.out _ _ ba_4.out (fun _ => ?_); clear hK K
  try simp only [Act.put, List.setIfInBounds_toArray, List.set_cons_zero, List.set_cons_succ]
  refine wpAnyH_ready (rs := [7, 9]) (by kernel_rfl) (by simp) ?_
  refine rdH rfl (fun K hK => ?_) ?_
  · -- 7: call
   have hm4_ : m ≤ 400 := by have h := HL2.out; have h2 := (rb_3.out).len; omega
   go_simp
   go_at_call 61
   refine (ecopied_any B m j ts _ rb_3.out hm4_).mono ?_
   rintro e w1279 ⟨Bc, dc, rfl, hox2, hb1280⟩
   dsimp only
   have HD12 := Lib.hid (OwnsX.apart (x1_1278.out) hox2); have HD21 := Lib.hid (OwnsX.apart' (x1_1278.out) hox2)
   have hox2 := OwnsX.base hox2 (show w.heap.size + 1 + 1 + 1 ≤ _ from Nat.succ_le_of_lt (Blk.lt (bz_6.out)))
   replace bel_1 := bB bel_1 hb1280
   replace ra_2 := rB ra_2 hb1280
   replace rb_3 := rB rb_3 hb1280
   replace ba_4 := kB ba_4 hb1280
   replace xb_5 := kB xb_5 hb1280
   replace bz_6 := kB bz_6 hb1280
   replace x1_1278 := Lib.hid (OwnsX.below (x1_1278.out) hb1280)
   have x2_1281 := Lib.hid (hox2)
   clear hox2
   refine hK.out _ _ ba_4.out (fun _ => ?_); clear hK K
   try simp only [Act.put, List.setIfInBounds_toArray, List.set_cons_zero, List.set_cons_succ]
   refine' tkH 8 ba_4.out ?hyR1282 ?_
   case hyR1282 => (rintro _ -; go_simp; try with_reducible rfl)
   try simp only [Act.put, List.setIfInBounds_toArray, List.set_cons_zero, List.set_cons_succ]
   refine wpAnyH_ready (rs := [9]) (by kernel_rfl) (by simp) ?_
   refine rdH rfl (fun K hK => ?_) ?_
   · -- 9: alloc
    go_simp
    have hne1_ := OwnsX.ne (x1_1278.out) (Nat.le_refl _)
    have hne2_ := OwnsX.ne (x2_1281.out) (Nat.le_refl _)
    have lb1287 := Lib.hid (bel_1.out.size)
    have ne1288 := Lib.hid (Nat.ne_of_lt (Blk.lt ba_4.out))
    have ne1289 := Lib.hid (Nat.ne_of_lt (Blk.lt xb_5.out))
    have ne1290 := Lib.hid (Nat.ne_of_lt (Blk.lt bz_6.out))
    obtain ⟨o_, ho_⟩ : ∃ o, o = (.cells #[.int .i64 0, .slice none 0 0, .slice none 0 0] 24 : Obj) := ⟨_, rfl⟩
    replace bel_1 := bA bel_1 o_
    replace ra_2 := rA ra_2 o_
    replace rb_3 := rA rb_3 o_
    replace ba_4 := kA ba_4 o_
    replace xb_5 := kA xb_5 o_
    replace bz_6 := kA bz_6 o_
    replace x1_1278 := Lib.hid (OwnsX.alloc (x1_1278.out) (o_))
    replace x2_1281 := Lib.hid (OwnsX.alloc (x2_1281.out) (o_))
    subst ho_
    have bo_1291 := Lib.hid (Blk.new (w1279) 24 #[.int .i64 0, .slice none 0 0, .slice none 0 0])
    obtain ⟨g1283, hg1284⟩ : ∃ g, g = (w1279).heap.size := ⟨_, rfl⟩
    obtain ⟨w1285, hw1286⟩ : ∃ w', w' = (w1279).alloc (.cells #[.int .i64 0, .slice none 0 0, .slice none 0 0] 24) := ⟨_, rfl⟩
    rw [← hw1286] at bel_1 ra_2 rb_3 ba_4 xb_5 bz_6 x1_1278 x2_1281 bo_1291
    rw [← hg1284] at lb1287 ne1288 ne1289 ne1290 bo_1291 hne1_ hne2_
    rw [← hg1284, ← hw1286]
    clear hg1284 hw1286
    have HB1 := Lib.hid hne1_; clear hne1_
    have HB2 := Lib.hid hne2_; clear hne2_
    refine hK.out _ _ ba_4.out (fun _ => ?_); clear hK K
    try simp only [Act.put, List.setIfInBounds_toArray, List.set_cons_zero, List.set_cons_succ]
    refine wpAnyH_ready (rs := [10]) (by kernel_rfl) (by simp) ?_
    refine rdH rfl (fun K hK => ?_) ?_
    · -- 10: store
     have v1292 : (w1285).cell? ⟨g1283, 0, none⟩ = some (.int .i64 0) := Blk.cell (bo_1291.out) 0
     have f1293 : (w1285).frozen? ⟨g1283, 0, none⟩ = false := Blk.frozen (bo_1291.out) 0
     have v1294 : (w1285).cell? ⟨g1283, 1, none⟩ = some (.slice none 0 0) := Blk.cell (bo_1291.out) 1
     have f1295 : (w1285).frozen? ⟨g1283, 1, none⟩ = false := Blk.frozen (bo_1291.out) 1
     have v1296 : (w1285).cell? ⟨g1283, 2, none⟩ = some (.slice none 0 0) := Blk.cell (bo_1291.out) 2
     have f1297 : (w1285).frozen? ⟨g1283, 2, none⟩ = false := Blk.frozen (bo_1291.out) 2
     have hlt_ := Blk.lt (bo_1291.out)
     go_simp
     have k1298 := Lib.hid (Below.setCell (Below.setCell (Below.setCell (bel_1.out) (p := ⟨g1283, 0, none⟩) (lb1287.out) (.int .i64 c)) (p := ⟨g1283, 1, none⟩) (lb1287.out) (.slice Ac n cc)) (p := ⟨g1283, 2, none⟩) (lb1287.out) (.slice Bc m dc))
     have k1299 := Lib.hid (Blk.far (Blk.far (Blk.far (ba_4.out) (p := ⟨g1283, 0, none⟩) (ne1288.out) (.int .i64 c)) (p := ⟨g1283, 1, none⟩) (ne1288.out) (.slice Ac n cc)) (p := ⟨g1283, 2, none⟩) (ne1288.out) (.slice Bc m dc))
     have k1300 := Lib.hid (Blk.far (Blk.far (Blk.far (xb_5.out) (p := ⟨g1283, 0, none⟩) (ne1289.out) (.int .i64 c)) (p := ⟨g1283, 1, none⟩) (ne1289.out) (.slice Ac n cc)) (p := ⟨g1283, 2, none⟩) (ne1289.out) (.slice Bc m dc))
     have k1301 := Lib.hid (Blk.far (Blk.far (Blk.far (bz_6.out) (p := ⟨g1283, 0, none⟩) (ne1290.out) (.int .i64 c)) (p := ⟨g1283, 1, none⟩) (ne1290.out) (.slice Ac n cc)) (p := ⟨g1283, 2, none⟩) (ne1290.out) (.slice Bc m dc))
     have k1302 := Lib.hid (OwnsX.far (OwnsX.far (OwnsX.far (x1_1278.out) (a := ⟨g1283, 0, none⟩) (HB1.out) (.int .i64 c)) (a := ⟨g1283, 1, none⟩) (HB1.out) (.slice Ac n cc)) (a := ⟨g1283, 2, none⟩) (HB1.out) (.slice Bc m dc))
     have k1303 := Lib.hid (OwnsX.far (OwnsX.far (OwnsX.far (x2_1281.out) (a := ⟨g1283, 0, none⟩) (HB2.out) (.int .i64 c)) (a := ⟨g1283, 1, none⟩) (HB2.out) (.slice Ac n cc)) (a := ⟨g1283, 2, none⟩) (HB2.out) (.slice Bc m dc))
     have k1304 := Lib.hid (Blk.set_ (Blk.set_ (Blk.set_ (bo_1291.out) 0 (.int .i64 c)) 1 (.slice Ac n cc)) 2 (.slice Bc m dc))
     obtain ⟨w1305, hw1306⟩ : ∃ w', w' = ((((w1285).setCell ⟨g1283, 0, none⟩ (.int .i64 c)).setCell ⟨g1283, 1, none⟩ (.slice Ac n cc)).setCell ⟨g1283, 2, none⟩ (.slice Bc m dc)) := ⟨_, rfl⟩
     rw [← hw1306] at k1298 k1299 k1300 k1301 k1302 k1303 k1304
     rw [← hw1306]
     clear hw1306 v1292 f1293 v1294 f1295 v1296 f1297 hlt_
     refine hK.out _ _ k1299.out (fun _ => ?_); clear hK K
     try simp only [Act.put, List.setIfInBounds_toArray, List.set_cons_zero, List.set_cons_succ]
     refine wpAnyH_done (by kernel_rfl) ?_ _
     obtain ⟨z_1028, z_1029, z_1030⟩ := at3 k1299
     obtain ⟨z_1031, z_1032, z_1033, z_1034⟩ := at4 k1300
     obtain ⟨z_1035, z_1036, z_1037⟩ := at3 k1301
     obtain ⟨z_1038, z_1039, z_1040⟩ := at3 k1304
     have NB := Lib.hid (Blk.new w1305 30 #[.int .i64 f, .int .i64 t, .int .i64 mm, .int .i64 ib])
     have OX1 := Lib.hid (OwnsX.alloc (k1302.out) (.cells #[.int .i64 f, .int .i64 t, .int .i64 mm, .int .i64 ib] 30))
     have OX2 := Lib.hid (OwnsX.alloc (k1303.out) (.cells #[.int .i64 f, .int .i64 t, .int .i64 mm, .int .i64 ib] 30))
     have BOA := Lib.hid (Blk.alloc (k1304.out) (.cells #[.int .i64 f, .int .i64 t, .int .i64 mm, .int .i64 ib] 30))
     have BZA := Lib.hid (Blk.alloc (k1301.out) (.cells #[.int .i64 f, .int .i64 t, .int .i64 mm, .int .i64 ib] 30))
     have XBA := Lib.hid (Blk.alloc (k1300.out) (.cells #[.int .i64 f, .int .i64 t, .int .i64 mm, .int .i64 ib] 30))
     have BLA := Lib.hid (Below.alloc (k1298.out) ((k1298.out).size) (.cells #[.int .i64 f, .int .i64 t, .int .i64 mm, .int .i64 ib] 30))
     have hsz_ := Nat.succ_le_of_lt (Blk.lt BZA.out); have hbo_ := Blk.lt BOA.out
     have z4_ : (w1305.alloc (.cells #[.int .i64 f, .int .i64 t, .int .i64 mm, .int .i64 ib] 30)).cell? ⟨g1283, 0, none⟩ = some (.int .i64 c) := Blk.cell BOA.out 0
     have hn4_ : n ≤ 400 := HN4.out; have hm4_ : m ≤ 400 := HM4.out
     go_wp2_with (at_builtin; refine wpList_append_X _ rfl (.tmp 28) (.tmp 30) 22 rfl (w.heap.size + 1 + 1 + 1) 30 i0 _ 4 32 Tryz.underlying22 HI.out HZ0.out HZ1.out HZ2.out rfl (by omega) Bc m dc _ rfl OX2.out ⟨w1305.heap.size, 0, none⟩ 1 1 (bcells [⟨f, t, mm, ib⟩]) rfl rfl (cells_add (cs := bcells [⟨f, t, mm, ib⟩]) (show Blk _ _ _ (bcells [⟨f, t, mm, ib⟩]).toArray from NB.out)) (bcells_one _) (by omega) (by unfold maxLen; omega) (by omega) hsz_ ?_; intro g5 c5 w5 hown5 hb5 hg5 hkp5; have HO5 := Lib.hid hown5; have HB5 := Lib.hid hb5; have bo5 := (hkp5 _ hbo_ HB2.out).trans BOA.out; have BO5 := Lib.hid (show Blk w5 g1283 24 #[.int .i64 c, .slice Ac n cc, .slice Bc m dc] from bo5); have RO5 := Lib.hid (rdB_far (rdB_of OX1.out) hkp5 HD21.out hb5.size); clear hown5 hb5 hkp5 bo5; have q0_ : w5.cell? ⟨g1283, 0, none⟩ = some (.int .i64 c) := Blk.cell BO5.out 0; have q1_ : w5.cell? ⟨g1283, 1, none⟩ = some (.slice Ac n cc) := Blk.cell BO5.out 1; have q2_ : w5.cell? ⟨g1283, 2, none⟩ = some (.slice Bc m dc) := Blk.cell BO5.out 2; have q3_ : w5.frozen? ⟨g1283, 2, none⟩ = false := Blk.frozen BO5.out 2)
     have hbz_ : w.heap.size + 1 + 1 ≠ g1283 := ne1290.out; have hlb_ : w.heap.size ≤ g1283 := lb1287.out
     have rdn_ := (OwnB.rd (show OwnB w5 (w.heap.size + 1 + 1 + 1) (some ⟨g5, 0, none⟩) (m + 1) c5 (ts ++ [⟨f, t, mm, ib⟩]) from by have h := HO5.out; rw [← bcells_append] at h; exact h)).1
     have RN := Lib.hid (rdB_setN rdn_ ⟨g1283, 2, none⟩ (.slice (some ⟨g5, 0, none⟩) (m + 1) c5) BO5.out (by intro j x; rcases j with _ | _ | j <;> simp)); have RO := Lib.hid (rdB_setN RO5.out ⟨g1283, 2, none⟩ (.slice (some ⟨g5, 0, none⟩) (m + 1) c5) BO5.out (by intro j x; rcases j with _ | _ | j <;> simp)); clear rdn_
     have BO6 := Lib.hid (Blk.set_ BO5.out 2 (.slice (some ⟨g5, 0, none⟩) (m + 1) c5)); have BZ6 := Lib.hid (Blk.far (Blk.below BZA.out HB5.out (by omega)) (p := ⟨g1283, 2, none⟩) hbz_ (.slice (some ⟨g5, 0, none⟩) (m + 1) c5)); have BL6 := Lib.hid (Below.setCell (Below.trans BLA.out (Below.mono HB5.out (by omega))) (p := ⟨g1283, 2, none⟩) hlb_ (.slice (some ⟨g5, 0, none⟩) (m + 1) c5))
     clear q0_ q1_ q2_ q3_ z4_ hsz_ hbo_ k1301 k1300
     obtain ⟨w6, hw6⟩ : ∃ w', w' = w5.setCell ⟨g1283, 2, none⟩ (.slice (some ⟨g5, 0, none⟩) (m + 1) c5) := ⟨_, rfl⟩
     rw [← hw6] at RN RO BO6 BZ6 BL6 ⊢
     clear hw6
     have hc := CheckOutline_any c Ac (some ⟨g5, 0, none⟩) n cc (m + 1) c5 ws (ts ++ [⟨f, t, mm, ib⟩]) w6 RO.out RN.out (by unfold maxLen; omega) (by unfold maxLen; omega)
     rw [E2.out] at hc
     have HC := Lib.hid hc; clear hc
     refine HC.out.mono ?_
     rintro e w9 ⟨rfl, hb⟩
     clear HC
     have RN9 := Lib.hid (RdB.below RN.out hb); have RO9 := Lib.hid (RdB.below RO.out hb)
     have BO9 := Lib.hid (show Blk w9 g1283 24 #[.int .i64 c, .slice Ac n cc, .slice (some ⟨g5, 0, none⟩) (m + 1) c5] from Blk.keep BO6.out hb); have BZ9 := Lib.hid (show Blk w9 (w.heap.size + 1 + 1) 24 #[.int .i64 0, .slice none 0 0, .slice none 0 0] from Blk.keep BZ6.out hb); have BL9 := Lib.hid (Below.trans BL6.out (Below.mono hb BL6.out.size)); clear RN RO BO6 BZ6 BL6 hb
     have q0_ : w9.cell? ⟨g1283, 0, none⟩ = some (.int .i64 c) := Blk.cell BO9.out 0
     have q1_ : w9.cell? ⟨g1283, 1, none⟩ = some (.slice Ac n cc) := Blk.cell BO9.out 1
     have q2_ : w9.cell? ⟨g1283, 2, none⟩ = some (.slice (some ⟨g5, 0, none⟩) (m + 1) c5) := Blk.cell BO9.out 2
     have y0_ : w9.cell? ⟨w.heap.size + 1 + 1, 0, none⟩ = some (.int .i64 0) := Blk.cell BZ9.out 0
     have f0_ : w9.frozen? ⟨w.heap.size + 1 + 1, 0, none⟩ = false := Blk.frozen BZ9.out 0
     have y1_ : w9.cell? ⟨w.heap.size + 1 + 1, 1, none⟩ = some (.slice none 0 0) := Blk.cell BZ9.out 1
     have f1_ : w9.frozen? ⟨w.heap.size + 1 + 1, 1, none⟩ = false := Blk.frozen BZ9.out 1
     have y2_ : w9.cell? ⟨w.heap.size + 1 + 1, 2, none⟩ = some (.slice none 0 0) := Blk.cell BZ9.out 2
     have f2_ : w9.frozen? ⟨w.heap.size + 1 + 1, 2, none⟩ = false := Blk.frozen BZ9.out 2
     have hlz_ := Blk.lt BZ9.out; have hlo_ := Blk.lt BO9.out
     by_cases hq : q = 0
     · subst hq
       go_wp2
       have bel_ := BL9.out
       refine bodyPost_ret (v := .tuple #[.agg #[.int .i64 c, .slice Ac n cc, .slice (some ⟨g5, 0, none⟩) (m + 1) c5], .int .i64 0]) (by simp [results, Tryz.results18, go_sem, y0_, y1_, y2_, f0_, f1_, f2_]) rfl ?_
       exact ⟨Ac, n, cc, (some ⟨g5, 0, none⟩), (m + 1), c5, rfl, rdB_setN (rdB_setN (rdB_setN (RO9.out) ⟨w.heap.size + 1 + 1, 0, none⟩ (.int .i64 c) (BZ9.out) (by intro j x; rcases j with _ | _ | j <;> simp)) ⟨w.heap.size + 1 + 1, 1, none⟩ (.slice Ac n cc) (Blk.set_ (BZ9.out) 0 (.int .i64 c)) (by intro j x; rcases j with _ | _ | j <;> simp)) ⟨w.heap.size + 1 + 1, 2, none⟩ (.slice (some ⟨g5, 0, none⟩) (m + 1) c5) (Blk.set_ (Blk.set_ (BZ9.out) 0 (.int .i64 c)) 1 (.slice Ac n cc)) (by intro j x; rcases j with _ | _ | j <;> simp), rdB_setN (rdB_setN (rdB_setN (RN9.out) ⟨w.heap.size + 1 + 1, 0, none⟩ (.int .i64 c) (BZ9.out) (by intro j x; rcases j with _ | _ | j <;> simp)) ⟨w.heap.size + 1 + 1, 1, none⟩ (.slice Ac n cc) (Blk.set_ (BZ9.out) 0 (.int .i64 c)) (by intro j x; rcases j with _ | _ | j <;> simp)) ⟨w.heap.size + 1 + 1, 2, none⟩ (.slice (some ⟨g5, 0, none⟩) (m + 1) c5) (Blk.set_ (Blk.set_ (BZ9.out) 0 (.int .i64 c)) 1 (.slice Ac n cc)) (by intro j x; rcases j with _ | _ | j <;> simp), by unfold maxLen; omega, by unfold maxLen; omega, (by have hsz_ := Below.size bel_; repeat' (first | with_reducible exact bel_ | with_reducible exact Below.refl _ _ | with_reducible refine Below.alloc ?_ ?_ _ | with_reducible refine Below.setCell ?_ ?_ _ | with_reducible refine Below.drew ?_ | with_reducible refine below_setRow ?_ ?_ _ | omega | (simp; done) | (simp; omega)))⟩
     · have hne : (q != 0) = true := by simpa using hq
       have HQ := Lib.hid hq; clear hq
       go_wp2
       have bel_ := BL9.out
       refine bodyPost_ret (v := .tuple #[.agg #[.int .i64 0, .slice none 0 0, .slice none 0 0], .int .i64 q]) (by simp [results, Tryz.results18, go_sem, y0_, y1_, y2_, f0_, f1_, f2_]) rfl ?_
       exact ⟨none, 0, 0, none, 0, 0, by rw [if_neg HQ.out], by rw [if_neg HQ.out]; exact RdB.nil_ _, by rw [if_neg HQ.out]; exact RdB.nil_ _, by unfold maxLen; omega, by unfold maxLen; omega, (by have hsz_ := Below.size bel_; repeat' (first | with_reducible exact bel_ | with_reducible exact Below.refl _ _ | with_reducible refine Below.alloc ?_ ?_ _ | with_reducible refine Below.setCell ?_ ?_ _ | with_reducible refine Below.drew ?_ | with_reducible refine below_setRow ?_ ?_ _ | omega | (simp; done) | (simp; omega)))⟩
    exact AllReadyH.nil
   exact AllReadyH.nil
  refine rdH rfl (fun K hK => ?_) ?_
  · -- 9: alloc
   go_simp
   have hne1_ := OwnsX.ne (x1_1278.out) (Nat.le_refl _)
   have lb1311 := Lib.hid (bel_1.out.size)
   have ne1312 := Lib.hid (Nat.ne_of_lt (Blk.lt ba_4.out))
   have ne1313 := Lib.hid (Nat.ne_of_lt (Blk.lt xb_5.out))
   have ne1314 := Lib.hid (Nat.ne_of_lt (Blk.lt bz_6.out))
   obtain ⟨o_, ho_⟩ : ∃ o, o = (.cells #[.int .i64 0, .slice none 0 0, .slice none 0 0] 24 : Obj) := ⟨_, rfl⟩
   replace bel_1 := bA bel_1 o_
   replace ra_2 := rA ra_2 o_
   replace rb_3 := rA rb_3 o_
   replace ba_4 := kA ba_4 o_
   replace xb_5 := kA xb_5 o_
   replace bz_6 := kA bz_6 o_
   replace x1_1278 := Lib.hid (OwnsX.alloc (x1_1278.out) (o_))
   subst ho_
   have bo_1315 := Lib.hid (Blk.new (w1276) 24 #[.int .i64 0, .slice none 0 0, .slice none 0 0])
   obtain ⟨g1307, hg1308⟩ : ∃ g, g = (w1276).heap.size := ⟨_, rfl⟩
   obtain ⟨w1309, hw1310⟩ : ∃ w', w' = (w1276).alloc (.cells #[.int .i64 0, .slice none 0 0, .slice none 0 0] 24) := ⟨_, rfl⟩
   rw [← hw1310] at bel_1 ra_2 rb_3 ba_4 xb_5 bz_6 x1_1278 bo_1315
   rw [← hg1308] at lb1311 ne1312 ne1313 ne1314 bo_1315 hne1_
   rw [← hg1308, ← hw1310]
   clear hg1308 hw1310
   have HB1 := Lib.hid hne1_; clear hne1_
   refine hK.out _ _ ba_4.out (fun _ => ?_); clear hK K
   try simp only [Act.put, List.setIfInBounds_toArray, List.set_cons_zero, List.set_cons_succ]
   refine wpAnyH_ready (rs := [7]) (by kernel_rfl) (by simp) ?_
   refine rdH rfl (fun K hK => ?_) ?_
   · -- 7: call
    have hm4_ : m ≤ 400 := by have h := HL2.out; have h2 := (rb_3.out).len; omega
    go_simp
    go_at_call 61
    refine (ecopied_any B m j ts _ rb_3.out hm4_).mono ?_
    rintro e w1316 ⟨Bc, dc, rfl, hox2, hb1317⟩
    dsimp only
    have HB2 := Lib.hid (fun (h0 : dc ≠ 0) => OwnsX.gt hox2 (Blk.lt (bo_1315.out)) h0)
    have HD12 := Lib.hid (OwnsX.apart (x1_1278.out) hox2); have HD21 := Lib.hid (OwnsX.apart' (x1_1278.out) hox2)
    have hox2 := OwnsX.base hox2 (show w.heap.size + 1 + 1 + 1 ≤ _ from Nat.succ_le_of_lt (Blk.lt (bz_6.out)))
    replace bel_1 := bB bel_1 hb1317
    replace ra_2 := rB ra_2 hb1317
    replace rb_3 := rB rb_3 hb1317
    replace ba_4 := kB ba_4 hb1317
    replace xb_5 := kB xb_5 hb1317
    replace bz_6 := kB bz_6 hb1317
    replace x1_1278 := Lib.hid (OwnsX.below (x1_1278.out) hb1317)
    replace bo_1315 := kB bo_1315 hb1317
    have x2_1318 := Lib.hid (hox2)
    clear hox2
    refine hK.out _ _ ba_4.out (fun _ => ?_); clear hK K
    try simp only [Act.put, List.setIfInBounds_toArray, List.set_cons_zero, List.set_cons_succ]
    refine' tkH 8 ba_4.out ?hyR1319 ?_
    case hyR1319 => (rintro _ -; go_simp; try with_reducible rfl)
    try simp only [Act.put, List.setIfInBounds_toArray, List.set_cons_zero, List.set_cons_succ]
    refine wpAnyH_ready (rs := [10]) (by kernel_rfl) (by simp) ?_
    refine rdH rfl (fun K hK => ?_) ?_
    · -- 10: store
     have v1320 : (w1316).cell? ⟨g1307, 0, none⟩ = some (.int .i64 0) := Blk.cell (bo_1315.out) 0
     have f1321 : (w1316).frozen? ⟨g1307, 0, none⟩ = false := Blk.frozen (bo_1315.out) 0
     have v1322 : (w1316).cell? ⟨g1307, 1, none⟩ = some (.slice none 0 0) := Blk.cell (bo_1315.out) 1
     have f1323 : (w1316).frozen? ⟨g1307, 1, none⟩ = false := Blk.frozen (bo_1315.out) 1
     have v1324 : (w1316).cell? ⟨g1307, 2, none⟩ = some (.slice none 0 0) := Blk.cell (bo_1315.out) 2
     have f1325 : (w1316).frozen? ⟨g1307, 2, none⟩ = false := Blk.frozen (bo_1315.out) 2
     have hlt_ := Blk.lt (bo_1315.out)
     go_simp
     have k1326 := Lib.hid (Below.setCell (Below.setCell (Below.setCell (bel_1.out) (p := ⟨g1307, 0, none⟩) (lb1311.out) (.int .i64 c)) (p := ⟨g1307, 1, none⟩) (lb1311.out) (.slice Ac n cc)) (p := ⟨g1307, 2, none⟩) (lb1311.out) (.slice Bc m dc))
     have k1327 := Lib.hid (Blk.far (Blk.far (Blk.far (ba_4.out) (p := ⟨g1307, 0, none⟩) (ne1312.out) (.int .i64 c)) (p := ⟨g1307, 1, none⟩) (ne1312.out) (.slice Ac n cc)) (p := ⟨g1307, 2, none⟩) (ne1312.out) (.slice Bc m dc))
     have k1328 := Lib.hid (Blk.far (Blk.far (Blk.far (xb_5.out) (p := ⟨g1307, 0, none⟩) (ne1313.out) (.int .i64 c)) (p := ⟨g1307, 1, none⟩) (ne1313.out) (.slice Ac n cc)) (p := ⟨g1307, 2, none⟩) (ne1313.out) (.slice Bc m dc))
     have k1329 := Lib.hid (Blk.far (Blk.far (Blk.far (bz_6.out) (p := ⟨g1307, 0, none⟩) (ne1314.out) (.int .i64 c)) (p := ⟨g1307, 1, none⟩) (ne1314.out) (.slice Ac n cc)) (p := ⟨g1307, 2, none⟩) (ne1314.out) (.slice Bc m dc))
     have k1330 := Lib.hid (OwnsX.far (OwnsX.far (OwnsX.far (x1_1278.out) (a := ⟨g1307, 0, none⟩) (HB1.out) (.int .i64 c)) (a := ⟨g1307, 1, none⟩) (HB1.out) (.slice Ac n cc)) (a := ⟨g1307, 2, none⟩) (HB1.out) (.slice Bc m dc))
     have k1331 := Lib.hid (Blk.set_ (Blk.set_ (Blk.set_ (bo_1315.out) 0 (.int .i64 c)) 1 (.slice Ac n cc)) 2 (.slice Bc m dc))
     have k1332 := Lib.hid (OwnsX.far (OwnsX.far (OwnsX.far (x2_1318.out) (a := ⟨g1307, 0, none⟩) (HB2.out) (.int .i64 c)) (a := ⟨g1307, 1, none⟩) (HB2.out) (.slice Ac n cc)) (a := ⟨g1307, 2, none⟩) (HB2.out) (.slice Bc m dc))
     obtain ⟨w1333, hw1334⟩ : ∃ w', w' = ((((w1316).setCell ⟨g1307, 0, none⟩ (.int .i64 c)).setCell ⟨g1307, 1, none⟩ (.slice Ac n cc)).setCell ⟨g1307, 2, none⟩ (.slice Bc m dc)) := ⟨_, rfl⟩
     rw [← hw1334] at k1326 k1327 k1328 k1329 k1330 k1331 k1332
     rw [← hw1334]
     clear hw1334 v1320 f1321 v1322 f1323 v1324 f1325 hlt_
     refine hK.out _ _ k1327.out (fun _ => ?_); clear hK K
     try simp only [Act.put, List.setIfInBounds_toArray, List.set_cons_zero, List.set_cons_succ]
     refine wpAnyH_done (by kernel_rfl) ?_ _
     obtain ⟨z_1028, z_1029, z_1030⟩ := at3 k1327
     obtain ⟨z_1031, z_1032, z_1033, z_1034⟩ := at4 k1328
     obtain ⟨z_1035, z_1036, z_1037⟩ := at3 k1329
     obtain ⟨z_1038, z_1039, z_1040⟩ := at3 k1331
     have NB := Lib.hid (Blk.new w1333 30 #[.int .i64 f, .int .i64 t, .int .i64 mm, .int .i64 ib])
     have OX1 := Lib.hid (OwnsX.alloc (k1330.out) (.cells #[.int .i64 f, .int .i64 t, .int .i64 mm, .int .i64 ib] 30))
     have OX2 := Lib.hid (OwnsX.alloc (k1332.out) (.cells #[.int .i64 f, .int .i64 t, .int .i64 mm, .int .i64 ib] 30))
     have BOA := Lib.hid (Blk.alloc (k1331.out) (.cells #[.int .i64 f, .int .i64 t, .int .i64 mm, .int .i64 ib] 30))
     have BZA := Lib.hid (Blk.alloc (k1329.out) (.cells #[.int .i64 f, .int .i64 t, .int .i64 mm, .int .i64 ib] 30))
     have XBA := Lib.hid (Blk.alloc (k1328.out) (.cells #[.int .i64 f, .int .i64 t, .int .i64 mm, .int .i64 ib] 30))
     have BLA := Lib.hid (Below.alloc (k1326.out) ((k1326.out).size) (.cells #[.int .i64 f, .int .i64 t, .int .i64 mm, .int .i64 ib] 30))
     have hsz_ := Nat.succ_le_of_lt (Blk.lt BZA.out); have hbo_ := Blk.lt BOA.out
     have z4_ : (w1333.alloc (.cells #[.int .i64 f, .int .i64 t, .int .i64 mm, .int .i64 ib] 30)).cell? ⟨g1307, 0, none⟩ = some (.int .i64 c) := Blk.cell BOA.out 0
     have hn4_ : n ≤ 400 := HN4.out; have hm4_ : m ≤ 400 := HM4.out
     go_wp2_with (at_builtin; refine wpList_append_X _ rfl (.tmp 28) (.tmp 30) 22 rfl (w.heap.size + 1 + 1 + 1) 30 i0 _ 4 32 Tryz.underlying22 HI.out HZ0.out HZ1.out HZ2.out rfl (by omega) Bc m dc _ rfl OX2.out ⟨w1333.heap.size, 0, none⟩ 1 1 (bcells [⟨f, t, mm, ib⟩]) rfl rfl (cells_add (cs := bcells [⟨f, t, mm, ib⟩]) (show Blk _ _ _ (bcells [⟨f, t, mm, ib⟩]).toArray from NB.out)) (bcells_one _) (by omega) (by unfold maxLen; omega) (by omega) hsz_ ?_; intro g5 c5 w5 hown5 hb5 hg5 hkp5; have HO5 := Lib.hid hown5; have HB5 := Lib.hid hb5; have bo5 := (hkp5 _ hbo_ HB2.out).trans BOA.out; have BO5 := Lib.hid (show Blk w5 g1307 24 #[.int .i64 c, .slice Ac n cc, .slice Bc m dc] from bo5); have RO5 := Lib.hid (rdB_far (rdB_of OX1.out) hkp5 HD21.out hb5.size); clear hown5 hb5 hkp5 bo5; have q0_ : w5.cell? ⟨g1307, 0, none⟩ = some (.int .i64 c) := Blk.cell BO5.out 0; have q1_ : w5.cell? ⟨g1307, 1, none⟩ = some (.slice Ac n cc) := Blk.cell BO5.out 1; have q2_ : w5.cell? ⟨g1307, 2, none⟩ = some (.slice Bc m dc) := Blk.cell BO5.out 2; have q3_ : w5.frozen? ⟨g1307, 2, none⟩ = false := Blk.frozen BO5.out 2)
     have hbz_ : w.heap.size + 1 + 1 ≠ g1307 := ne1314.out; have hlb_ : w.heap.size ≤ g1307 := lb1311.out
     have rdn_ := (OwnB.rd (show OwnB w5 (w.heap.size + 1 + 1 + 1) (some ⟨g5, 0, none⟩) (m + 1) c5 (ts ++ [⟨f, t, mm, ib⟩]) from by have h := HO5.out; rw [← bcells_append] at h; exact h)).1
     have RN := Lib.hid (rdB_setN rdn_ ⟨g1307, 2, none⟩ (.slice (some ⟨g5, 0, none⟩) (m + 1) c5) BO5.out (by intro j x; rcases j with _ | _ | j <;> simp)); have RO := Lib.hid (rdB_setN RO5.out ⟨g1307, 2, none⟩ (.slice (some ⟨g5, 0, none⟩) (m + 1) c5) BO5.out (by intro j x; rcases j with _ | _ | j <;> simp)); clear rdn_
     have BO6 := Lib.hid (Blk.set_ BO5.out 2 (.slice (some ⟨g5, 0, none⟩) (m + 1) c5)); have BZ6 := Lib.hid (Blk.far (Blk.below BZA.out HB5.out (by omega)) (p := ⟨g1307, 2, none⟩) hbz_ (.slice (some ⟨g5, 0, none⟩) (m + 1) c5)); have BL6 := Lib.hid (Below.setCell (Below.trans BLA.out (Below.mono HB5.out (by omega))) (p := ⟨g1307, 2, none⟩) hlb_ (.slice (some ⟨g5, 0, none⟩) (m + 1) c5))
     clear q0_ q1_ q2_ q3_ z4_ hsz_ hbo_ k1329 k1328
     obtain ⟨w6, hw6⟩ : ∃ w', w' = w5.setCell ⟨g1307, 2, none⟩ (.slice (some ⟨g5, 0, none⟩) (m + 1) c5) := ⟨_, rfl⟩
     rw [← hw6] at RN RO BO6 BZ6 BL6 ⊢
     clear hw6
     have hc := CheckOutline_any c Ac (some ⟨g5, 0, none⟩) n cc (m + 1) c5 ws (ts ++ [⟨f, t, mm, ib⟩]) w6 RO.out RN.out (by unfold maxLen; omega) (by unfold maxLen; omega)
     rw [E2.out] at hc
     have HC := Lib.hid hc; clear hc
     refine HC.out.mono ?_
     rintro e w9 ⟨rfl, hb⟩
     clear HC
     have RN9 := Lib.hid (RdB.below RN.out hb); have RO9 := Lib.hid (RdB.below RO.out hb)
     have BO9 := Lib.hid (show Blk w9 g1307 24 #[.int .i64 c, .slice Ac n cc, .slice (some ⟨g5, 0, none⟩) (m + 1) c5] from Blk.keep BO6.out hb); have BZ9 := Lib.hid (show Blk w9 (w.heap.size + 1 + 1) 24 #[.int .i64 0, .slice none 0 0, .slice none 0 0] from Blk.keep BZ6.out hb); have BL9 := Lib.hid (Below.trans BL6.out (Below.mono hb BL6.out.size)); clear RN RO BO6 BZ6 BL6 hb
     have q0_ : w9.cell? ⟨g1307, 0, none⟩ = some (.int .i64 c) := Blk.cell BO9.out 0
     have q1_ : w9.cell? ⟨g1307, 1, none⟩ = some (.slice Ac n cc) := Blk.cell BO9.out 1
     have q2_ : w9.cell? ⟨g1307, 2, none⟩ = some (.slice (some ⟨g5, 0, none⟩) (m + 1) c5) := Blk.cell BO9.out 2
     have y0_ : w9.cell? ⟨w.heap.size + 1 + 1, 0, none⟩ = some (.int .i64 0) := Blk.cell BZ9.out 0
     have f0_ : w9.frozen? ⟨w.heap.size + 1 + 1, 0, none⟩ = false := Blk.frozen BZ9.out 0
     have y1_ : w9.cell? ⟨w.heap.size + 1 + 1, 1, none⟩ = some (.slice none 0 0) := Blk.cell BZ9.out 1
     have f1_ : w9.frozen? ⟨w.heap.size + 1 + 1, 1, none⟩ = false := Blk.frozen BZ9.out 1
     have y2_ : w9.cell? ⟨w.heap.size + 1 + 1, 2, none⟩ = some (.slice none 0 0) := Blk.cell BZ9.out 2
     have f2_ : w9.frozen? ⟨w.heap.size + 1 + 1, 2, none⟩ = false := Blk.frozen BZ9.out 2
     have hlz_ := Blk.lt BZ9.out; have hlo_ := Blk.lt BO9.out
     by_cases hq : q = 0
     · subst hq
       go_wp2
       have bel_ := BL9.out
       refine bodyPost_ret (v := .tuple #[.agg #[.int .i64 c, .slice Ac n cc, .slice (some ⟨g5, 0, none⟩) (m + 1) c5], .int .i64 0]) (by simp [results, Tryz.results18, go_sem, y0_, y1_, y2_, f0_, f1_, f2_]) rfl ?_
       exact ⟨Ac, n, cc, (some ⟨g5, 0, none⟩), (m + 1), c5, rfl, rdB_setN (rdB_setN (rdB_setN (RO9.out) ⟨w.heap.size + 1 + 1, 0, none⟩ (.int .i64 c) (BZ9.out) (by intro j x; rcases j with _ | _ | j <;> simp)) ⟨w.heap.size + 1 + 1, 1, none⟩ (.slice Ac n cc) (Blk.set_ (BZ9.out) 0 (.int .i64 c)) (by intro j x; rcases j with _ | _ | j <;> simp)) ⟨w.heap.size + 1 + 1, 2, none⟩ (.slice (some ⟨g5, 0, none⟩) (m + 1) c5) (Blk.set_ (Blk.set_ (BZ9.out) 0 (.int .i64 c)) 1 (.slice Ac n cc)) (by intro j x; rcases j with _ | _ | j <;> simp), rdB_setN (rdB_setN (rdB_setN (RN9.out) ⟨w.heap.size + 1 + 1, 0, none⟩ (.int .i64 c) (BZ9.out) (by intro j x; rcases j with _ | _ | j <;> simp)) ⟨w.heap.size + 1 + 1, 1, none⟩ (.slice Ac n cc) (Blk.set_ (BZ9.out) 0 (.int .i64 c)) (by intro j x; rcases j with _ | _ | j <;> simp)) ⟨w.heap.size + 1 + 1, 2, none⟩ (.slice (some ⟨g5, 0, none⟩) (m + 1) c5) (Blk.set_ (Blk.set_ (BZ9.out) 0 (.int .i64 c)) 1 (.slice Ac n cc)) (by intro j x; rcases j with _ | _ | j <;> simp), by unfold maxLen; omega, by unfold maxLen; omega, (by have hsz_ := Below.size bel_; repeat' (first | with_reducible exact bel_ | with_reducible exact Below.refl _ _ | with_reducible refine Below.alloc ?_ ?_ _ | with_reducible refine Below.setCell ?_ ?_ _ | with_reducible refine Below.drew ?_ | with_reducible refine below_setRow ?_ ?_ _ | omega | (simp; done) | (simp; omega)))⟩
     · have hne : (q != 0) = true := by simpa using hq
       have HQ := Lib.hid hq; clear hq
       go_wp2
       have bel_ := BL9.out
       refine bodyPost_ret (v := .tuple #[.agg #[.int .i64 0, .slice none 0 0, .slice none 0 0], .int .i64 q]) (by simp [results, Tryz.results18, go_sem, y0_, y1_, y2_, f0_, f1_, f2_]) rfl ?_
       exact ⟨none, 0, 0, none, 0, 0, by rw [if_neg HQ.out], by rw [if_neg HQ.out]; exact RdB.nil_ _, by rw [if_neg HQ.out]; exact RdB.nil_ _, by unfold maxLen; omega, by unfold maxLen; omega, (by have hsz_ := Below.size bel_; repeat' (first | with_reducible exact bel_ | with_reducible exact Below.refl _ _ | with_reducible refine Below.alloc ?_ ?_ _ | with_reducible refine Below.setCell ?_ ?_ _ | with_reducible refine Below.drew ?_ | with_reducible refine below_setRow ?_ ?_ _ | omega | (simp; done) | (simp; omega)))⟩
    exact AllReadyH.nil
   exact AllReadyH.nil
  exact AllReadyH.nil
 refine rdH rfl (fun K hK => ?_) ?_
 · -- 9: alloc
  go_simp
  have lb1339 := Lib.hid (bel_1.out.size)
  have ne1340 := Lib.hid (Nat.ne_of_lt (Blk.lt ba_4.out))
  have ne1341 := Lib.hid (Nat.ne_of_lt (Blk.lt xb_5.out))
  have ne1342 := Lib.hid (Nat.ne_of_lt (Blk.lt bz_6.out))
  obtain ⟨o_, ho_⟩ : ∃ o, o = (.cells #[.int .i64 0, .slice none 0 0, .slice none 0 0] 24 : Obj) := ⟨_, rfl⟩
  replace bel_1 := bA bel_1 o_
  replace ra_2 := rA ra_2 o_
  replace rb_3 := rA rb_3 o_
  replace ba_4 := kA ba_4 o_
  replace xb_5 := kA xb_5 o_
  replace bz_6 := kA bz_6 o_
  subst ho_
  have bo_1343 := Lib.hid (Blk.new (w1268) 24 #[.int .i64 0, .slice none 0 0, .slice none 0 0])
  obtain ⟨g1335, hg1336⟩ : ∃ g, g = (w1268).heap.size := ⟨_, rfl⟩
  obtain ⟨w1337, hw1338⟩ : ∃ w', w' = (w1268).alloc (.cells #[.int .i64 0, .slice none 0 0, .slice none 0 0] 24) := ⟨_, rfl⟩
  rw [← hw1338] at bel_1 ra_2 rb_3 ba_4 xb_5 bz_6 bo_1343
  rw [← hg1336] at lb1339 ne1340 ne1341 ne1342 bo_1343
  rw [← hg1336, ← hw1338]
  clear hg1336 hw1338
  refine hK.out _ _ ba_4.out (fun _ => ?_); clear hK K
  try simp only [Act.put, List.setIfInBounds_toArray, List.set_cons_zero, List.set_cons_succ]
  refine wpAnyH_ready (rs := [4]) (by kernel_rfl) (by simp) ?_
  refine rdH rfl (fun K hK => ?_) ?_
  · -- 4: call
   have hn4_ : n ≤ 400 := by have h := HL1.out; have h2 := (ra_2.out).len; omega
   go_simp
   go_at_call 61
   refine (ecopied_any A n k ws _ ra_2.out hn4_).mono ?_
   rintro e w1344 ⟨Ac, cc, rfl, hox1, hb1345⟩
   dsimp only
   have HB1 := Lib.hid (fun (h0 : cc ≠ 0) => OwnsX.gt hox1 (Blk.lt (bo_1343.out)) h0)
   have hox1 := OwnsX.base hox1 (show w.heap.size + 1 + 1 + 1 ≤ _ from Nat.succ_le_of_lt (Blk.lt (bz_6.out)))
   replace bel_1 := bB bel_1 hb1345
   replace ra_2 := rB ra_2 hb1345
   replace rb_3 := rB rb_3 hb1345
   replace ba_4 := kB ba_4 hb1345
   replace xb_5 := kB xb_5 hb1345
   replace bz_6 := kB bz_6 hb1345
   replace bo_1343 := kB bo_1343 hb1345
   have x1_1346 := Lib.hid (hox1)
   clear hox1
   refine hK.out _ _ ba_4.out (fun _ => ?_); clear hK K
   try simp only [Act.put, List.setIfInBounds_toArray, List.set_cons_zero, List.set_cons_succ]
   refine wpAnyH_ready (rs := [7]) (by kernel_rfl) (by simp) ?_
   refine rdH rfl (fun K hK => ?_) ?_
   · -- 7: call
    have hm4_ : m ≤ 400 := by have h := HL2.out; have h2 := (rb_3.out).len; omega
    go_simp
    go_at_call 61
    refine (ecopied_any B m j ts _ rb_3.out hm4_).mono ?_
    rintro e w1347 ⟨Bc, dc, rfl, hox2, hb1348⟩
    dsimp only
    have HB2 := Lib.hid (fun (h0 : dc ≠ 0) => OwnsX.gt hox2 (Blk.lt (bo_1343.out)) h0)
    have HD12 := Lib.hid (OwnsX.apart (x1_1346.out) hox2); have HD21 := Lib.hid (OwnsX.apart' (x1_1346.out) hox2)
    have hox2 := OwnsX.base hox2 (show w.heap.size + 1 + 1 + 1 ≤ _ from Nat.succ_le_of_lt (Blk.lt (bz_6.out)))
    replace bel_1 := bB bel_1 hb1348
    replace ra_2 := rB ra_2 hb1348
    replace rb_3 := rB rb_3 hb1348
    replace ba_4 := kB ba_4 hb1348
    replace xb_5 := kB xb_5 hb1348
    replace bz_6 := kB bz_6 hb1348
    replace bo_1343 := kB bo_1343 hb1348
    replace x1_1346 := Lib.hid (OwnsX.below (x1_1346.out) hb1348)
    have x2_1349 := Lib.hid (hox2)
    clear hox2
    refine hK.out _ _ ba_4.out (fun _ => ?_); clear hK K
    try simp only [Act.put, List.setIfInBounds_toArray, List.set_cons_zero, List.set_cons_succ]
    refine' tkH 8 ba_4.out ?hyR1350 ?_
    case hyR1350 => (rintro _ -; go_simp; try with_reducible rfl)
    try simp only [Act.put, List.setIfInBounds_toArray, List.set_cons_zero, List.set_cons_succ]
    refine wpAnyH_ready (rs := [10]) (by kernel_rfl) (by simp) ?_
    refine rdH rfl (fun K hK => ?_) ?_
    · -- 10: store
     have v1351 : (w1347).cell? ⟨g1335, 0, none⟩ = some (.int .i64 0) := Blk.cell (bo_1343.out) 0
     have f1352 : (w1347).frozen? ⟨g1335, 0, none⟩ = false := Blk.frozen (bo_1343.out) 0
     have v1353 : (w1347).cell? ⟨g1335, 1, none⟩ = some (.slice none 0 0) := Blk.cell (bo_1343.out) 1
     have f1354 : (w1347).frozen? ⟨g1335, 1, none⟩ = false := Blk.frozen (bo_1343.out) 1
     have v1355 : (w1347).cell? ⟨g1335, 2, none⟩ = some (.slice none 0 0) := Blk.cell (bo_1343.out) 2
     have f1356 : (w1347).frozen? ⟨g1335, 2, none⟩ = false := Blk.frozen (bo_1343.out) 2
     have hlt_ := Blk.lt (bo_1343.out)
     go_simp
     have k1357 := Lib.hid (Below.setCell (Below.setCell (Below.setCell (bel_1.out) (p := ⟨g1335, 0, none⟩) (lb1339.out) (.int .i64 c)) (p := ⟨g1335, 1, none⟩) (lb1339.out) (.slice Ac n cc)) (p := ⟨g1335, 2, none⟩) (lb1339.out) (.slice Bc m dc))
     have k1358 := Lib.hid (Blk.far (Blk.far (Blk.far (ba_4.out) (p := ⟨g1335, 0, none⟩) (ne1340.out) (.int .i64 c)) (p := ⟨g1335, 1, none⟩) (ne1340.out) (.slice Ac n cc)) (p := ⟨g1335, 2, none⟩) (ne1340.out) (.slice Bc m dc))
     have k1359 := Lib.hid (Blk.far (Blk.far (Blk.far (xb_5.out) (p := ⟨g1335, 0, none⟩) (ne1341.out) (.int .i64 c)) (p := ⟨g1335, 1, none⟩) (ne1341.out) (.slice Ac n cc)) (p := ⟨g1335, 2, none⟩) (ne1341.out) (.slice Bc m dc))
     have k1360 := Lib.hid (Blk.far (Blk.far (Blk.far (bz_6.out) (p := ⟨g1335, 0, none⟩) (ne1342.out) (.int .i64 c)) (p := ⟨g1335, 1, none⟩) (ne1342.out) (.slice Ac n cc)) (p := ⟨g1335, 2, none⟩) (ne1342.out) (.slice Bc m dc))
     have k1361 := Lib.hid (Blk.set_ (Blk.set_ (Blk.set_ (bo_1343.out) 0 (.int .i64 c)) 1 (.slice Ac n cc)) 2 (.slice Bc m dc))
     have k1362 := Lib.hid (OwnsX.far (OwnsX.far (OwnsX.far (x1_1346.out) (a := ⟨g1335, 0, none⟩) (HB1.out) (.int .i64 c)) (a := ⟨g1335, 1, none⟩) (HB1.out) (.slice Ac n cc)) (a := ⟨g1335, 2, none⟩) (HB1.out) (.slice Bc m dc))
     have k1363 := Lib.hid (OwnsX.far (OwnsX.far (OwnsX.far (x2_1349.out) (a := ⟨g1335, 0, none⟩) (HB2.out) (.int .i64 c)) (a := ⟨g1335, 1, none⟩) (HB2.out) (.slice Ac n cc)) (a := ⟨g1335, 2, none⟩) (HB2.out) (.slice Bc m dc))
     obtain ⟨w1364, hw1365⟩ : ∃ w', w' = ((((w1347).setCell ⟨g1335, 0, none⟩ (.int .i64 c)).setCell ⟨g1335, 1, none⟩ (.slice Ac n cc)).setCell ⟨g1335, 2, none⟩ (.slice Bc m dc)) := ⟨_, rfl⟩
     rw [← hw1365] at k1357 k1358 k1359 k1360 k1361 k1362 k1363
     rw [← hw1365]
     clear hw1365 v1351 f1352 v1353 f1354 v1355 f1356 hlt_
     refine hK.out _ _ k1358.out (fun _ => ?_); clear hK K
     try simp only [Act.put, List.setIfInBounds_toArray, List.set_cons_zero, List.set_cons_succ]
     refine wpAnyH_done (by kernel_rfl) ?_ _
     obtain ⟨z_1028, z_1029, z_1030⟩ := at3 k1358
     obtain ⟨z_1031, z_1032, z_1033, z_1034⟩ := at4 k1359
     obtain ⟨z_1035, z_1036, z_1037⟩ := at3 k1360
     obtain ⟨z_1038, z_1039, z_1040⟩ := at3 k1361
     have NB := Lib.hid (Blk.new w1364 30 #[.int .i64 f, .int .i64 t, .int .i64 mm, .int .i64 ib])
     have OX1 := Lib.hid (OwnsX.alloc (k1362.out) (.cells #[.int .i64 f, .int .i64 t, .int .i64 mm, .int .i64 ib] 30))
     have OX2 := Lib.hid (OwnsX.alloc (k1363.out) (.cells #[.int .i64 f, .int .i64 t, .int .i64 mm, .int .i64 ib] 30))
     have BOA := Lib.hid (Blk.alloc (k1361.out) (.cells #[.int .i64 f, .int .i64 t, .int .i64 mm, .int .i64 ib] 30))
     have BZA := Lib.hid (Blk.alloc (k1360.out) (.cells #[.int .i64 f, .int .i64 t, .int .i64 mm, .int .i64 ib] 30))
     have XBA := Lib.hid (Blk.alloc (k1359.out) (.cells #[.int .i64 f, .int .i64 t, .int .i64 mm, .int .i64 ib] 30))
     have BLA := Lib.hid (Below.alloc (k1357.out) ((k1357.out).size) (.cells #[.int .i64 f, .int .i64 t, .int .i64 mm, .int .i64 ib] 30))
     have hsz_ := Nat.succ_le_of_lt (Blk.lt BZA.out); have hbo_ := Blk.lt BOA.out
     have z4_ : (w1364.alloc (.cells #[.int .i64 f, .int .i64 t, .int .i64 mm, .int .i64 ib] 30)).cell? ⟨g1335, 0, none⟩ = some (.int .i64 c) := Blk.cell BOA.out 0
     have hn4_ : n ≤ 400 := HN4.out; have hm4_ : m ≤ 400 := HM4.out
     go_wp2_with (at_builtin; refine wpList_append_X _ rfl (.tmp 28) (.tmp 30) 22 rfl (w.heap.size + 1 + 1 + 1) 30 i0 _ 4 32 Tryz.underlying22 HI.out HZ0.out HZ1.out HZ2.out rfl (by omega) Bc m dc _ rfl OX2.out ⟨w1364.heap.size, 0, none⟩ 1 1 (bcells [⟨f, t, mm, ib⟩]) rfl rfl (cells_add (cs := bcells [⟨f, t, mm, ib⟩]) (show Blk _ _ _ (bcells [⟨f, t, mm, ib⟩]).toArray from NB.out)) (bcells_one _) (by omega) (by unfold maxLen; omega) (by omega) hsz_ ?_; intro g5 c5 w5 hown5 hb5 hg5 hkp5; have HO5 := Lib.hid hown5; have HB5 := Lib.hid hb5; have bo5 := (hkp5 _ hbo_ HB2.out).trans BOA.out; have BO5 := Lib.hid (show Blk w5 g1335 24 #[.int .i64 c, .slice Ac n cc, .slice Bc m dc] from bo5); have RO5 := Lib.hid (rdB_far (rdB_of OX1.out) hkp5 HD21.out hb5.size); clear hown5 hb5 hkp5 bo5; have q0_ : w5.cell? ⟨g1335, 0, none⟩ = some (.int .i64 c) := Blk.cell BO5.out 0; have q1_ : w5.cell? ⟨g1335, 1, none⟩ = some (.slice Ac n cc) := Blk.cell BO5.out 1; have q2_ : w5.cell? ⟨g1335, 2, none⟩ = some (.slice Bc m dc) := Blk.cell BO5.out 2; have q3_ : w5.frozen? ⟨g1335, 2, none⟩ = false := Blk.frozen BO5.out 2)
     have hbz_ : w.heap.size + 1 + 1 ≠ g1335 := ne1342.out; have hlb_ : w.heap.size ≤ g1335 := lb1339.out
     have rdn_ := (OwnB.rd (show OwnB w5 (w.heap.size + 1 + 1 + 1) (some ⟨g5, 0, none⟩) (m + 1) c5 (ts ++ [⟨f, t, mm, ib⟩]) from by have h := HO5.out; rw [← bcells_append] at h; exact h)).1
     have RN := Lib.hid (rdB_setN rdn_ ⟨g1335, 2, none⟩ (.slice (some ⟨g5, 0, none⟩) (m + 1) c5) BO5.out (by intro j x; rcases j with _ | _ | j <;> simp)); have RO := Lib.hid (rdB_setN RO5.out ⟨g1335, 2, none⟩ (.slice (some ⟨g5, 0, none⟩) (m + 1) c5) BO5.out (by intro j x; rcases j with _ | _ | j <;> simp)); clear rdn_
     have BO6 := Lib.hid (Blk.set_ BO5.out 2 (.slice (some ⟨g5, 0, none⟩) (m + 1) c5)); have BZ6 := Lib.hid (Blk.far (Blk.below BZA.out HB5.out (by omega)) (p := ⟨g1335, 2, none⟩) hbz_ (.slice (some ⟨g5, 0, none⟩) (m + 1) c5)); have BL6 := Lib.hid (Below.setCell (Below.trans BLA.out (Below.mono HB5.out (by omega))) (p := ⟨g1335, 2, none⟩) hlb_ (.slice (some ⟨g5, 0, none⟩) (m + 1) c5))
     clear q0_ q1_ q2_ q3_ z4_ hsz_ hbo_ k1360 k1359
     obtain ⟨w6, hw6⟩ : ∃ w', w' = w5.setCell ⟨g1335, 2, none⟩ (.slice (some ⟨g5, 0, none⟩) (m + 1) c5) := ⟨_, rfl⟩
     rw [← hw6] at RN RO BO6 BZ6 BL6 ⊢
     clear hw6
     have hc := CheckOutline_any c Ac (some ⟨g5, 0, none⟩) n cc (m + 1) c5 ws (ts ++ [⟨f, t, mm, ib⟩]) w6 RO.out RN.out (by unfold maxLen; omega) (by unfold maxLen; omega)
     rw [E2.out] at hc
     have HC := Lib.hid hc; clear hc
     refine HC.out.mono ?_
     rintro e w9 ⟨rfl, hb⟩
     clear HC
     have RN9 := Lib.hid (RdB.below RN.out hb); have RO9 := Lib.hid (RdB.below RO.out hb)
     have BO9 := Lib.hid (show Blk w9 g1335 24 #[.int .i64 c, .slice Ac n cc, .slice (some ⟨g5, 0, none⟩) (m + 1) c5] from Blk.keep BO6.out hb); have BZ9 := Lib.hid (show Blk w9 (w.heap.size + 1 + 1) 24 #[.int .i64 0, .slice none 0 0, .slice none 0 0] from Blk.keep BZ6.out hb); have BL9 := Lib.hid (Below.trans BL6.out (Below.mono hb BL6.out.size)); clear RN RO BO6 BZ6 BL6 hb
     have q0_ : w9.cell? ⟨g1335, 0, none⟩ = some (.int .i64 c) := Blk.cell BO9.out 0
     have q1_ : w9.cell? ⟨g1335, 1, none⟩ = some (.slice Ac n cc) := Blk.cell BO9.out 1
     have q2_ : w9.cell? ⟨g1335, 2, none⟩ = some (.slice (some ⟨g5, 0, none⟩) (m + 1) c5) := Blk.cell BO9.out 2
     have y0_ : w9.cell? ⟨w.heap.size + 1 + 1, 0, none⟩ = some (.int .i64 0) := Blk.cell BZ9.out 0
     have f0_ : w9.frozen? ⟨w.heap.size + 1 + 1, 0, none⟩ = false := Blk.frozen BZ9.out 0
     have y1_ : w9.cell? ⟨w.heap.size + 1 + 1, 1, none⟩ = some (.slice none 0 0) := Blk.cell BZ9.out 1
     have f1_ : w9.frozen? ⟨w.heap.size + 1 + 1, 1, none⟩ = false := Blk.frozen BZ9.out 1
     have y2_ : w9.cell? ⟨w.heap.size + 1 + 1, 2, none⟩ = some (.slice none 0 0) := Blk.cell BZ9.out 2
     have f2_ : w9.frozen? ⟨w.heap.size + 1 + 1, 2, none⟩ = false := Blk.frozen BZ9.out 2
     have hlz_ := Blk.lt BZ9.out; have hlo_ := Blk.lt BO9.out
     by_cases hq : q = 0
     · subst hq
       go_wp2
       have bel_ := BL9.out
       refine bodyPost_ret (v := .tuple #[.agg #[.int .i64 c, .slice Ac n cc, .slice (some ⟨g5, 0, none⟩) (m + 1) c5], .int .i64 0]) (by simp [results, Tryz.results18, go_sem, y0_, y1_, y2_, f0_, f1_, f2_]) rfl ?_
       exact ⟨Ac, n, cc, (some ⟨g5, 0, none⟩), (m + 1), c5, rfl, rdB_setN (rdB_setN (rdB_setN (RO9.out) ⟨w.heap.size + 1 + 1, 0, none⟩ (.int .i64 c) (BZ9.out) (by intro j x; rcases j with _ | _ | j <;> simp)) ⟨w.heap.size + 1 + 1, 1, none⟩ (.slice Ac n cc) (Blk.set_ (BZ9.out) 0 (.int .i64 c)) (by intro j x; rcases j with _ | _ | j <;> simp)) ⟨w.heap.size + 1 + 1, 2, none⟩ (.slice (some ⟨g5, 0, none⟩) (m + 1) c5) (Blk.set_ (Blk.set_ (BZ9.out) 0 (.int .i64 c)) 1 (.slice Ac n cc)) (by intro j x; rcases j with _ | _ | j <;> simp), rdB_setN (rdB_setN (rdB_setN (RN9.out) ⟨w.heap.size + 1 + 1, 0, none⟩ (.int .i64 c) (BZ9.out) (by intro j x; rcases j with _ | _ | j <;> simp)) ⟨w.heap.size + 1 + 1, 1, none⟩ (.slice Ac n cc) (Blk.set_ (BZ9.out) 0 (.int .i64 c)) (by intro j x; rcases j with _ | _ | j <;> simp)) ⟨w.heap.size + 1 + 1, 2, none⟩ (.slice (some ⟨g5, 0, none⟩) (m + 1) c5) (Blk.set_ (Blk.set_ (BZ9.out) 0 (.int .i64 c)) 1 (.slice Ac n cc)) (by intro j x; rcases j with _ | _ | j <;> simp), by unfold maxLen; omega, by unfold maxLen; omega, (by have hsz_ := Below.size bel_; repeat' (first | with_reducible exact bel_ | with_reducible exact Below.refl _ _ | with_reducible refine Below.alloc ?_ ?_ _ | with_reducible refine Below.setCell ?_ ?_ _ | with_reducible refine Below.drew ?_ | with_reducible refine below_setRow ?_ ?_ _ | omega | (simp; done) | (simp; omega)))⟩
     · have hne : (q != 0) = true := by simpa using hq
       have HQ := Lib.hid hq; clear hq
       go_wp2
       have bel_ := BL9.out
       refine bodyPost_ret (v := .tuple #[.agg #[.int .i64 0, .slice none 0 0, .slice none 0 0], .int .i64 q]) (by simp [results, Tryz.results18, go_sem, y0_, y1_, y2_, f0_, f1_, f2_]) rfl ?_
       exact ⟨none, 0, 0, none, 0, 0, by rw [if_neg HQ.out], by rw [if_neg HQ.out]; exact RdB.nil_ _, by rw [if_neg HQ.out]; exact RdB.nil_ _, by unfold maxLen; omega, by unfold maxLen; omega, (by have hsz_ := Below.size bel_; repeat' (first | with_reducible exact bel_ | with_reducible exact Below.refl _ _ | with_reducible refine Below.alloc ?_ ?_ _ | with_reducible refine Below.setCell ?_ ?_ _ | with_reducible refine Below.drew ?_ | with_reducible refine below_setRow ?_ ?_ _ | omega | (simp; done) | (simp; omega)))⟩
    exact AllReadyH.nil
   exact AllReadyH.nil
  exact AllReadyH.nil
 exact AllReadyH.nil
set_option maxRecDepth 100000 in
set_option maxHeartbeats 4000000 in
theorem With_ok0 (c : Int) (A B : Option Addr) (n k m j : Nat) (ws ts : List Bnd) (w : World) (h1 : RdB w A n k ws) (h2 : RdB w B m j ts) (hn : n ≤ maxLen) (hm : m ≤ maxLen) (f t mm ib : Int) (E1 : Hid (chkO ⟨c, ws, ts⟩ = 0)) (q : Int) (E2 : Hid (chkO ⟨c, ws ++ [⟨f, t, mm, ib⟩], ts⟩ = q)) :
 Calls Tryz.prog 18 #[.agg #[.int .i64 c, .slice A n k, .slice B m j], .bool false, .agg #[.int .i64 f, .int .i64 t, .int .i64 mm, .int .i64 ib]] w (RetO q (withO false ⟨c, ws, ts⟩ ⟨f, t, mm, ib⟩) w) := by
 obtain ⟨i0, hi0, hz0, hz1, hz2⟩ := info_parts infoB
 have HI := Lib.hid hi0; have HZ0 := Lib.hid hz0; have HZ1 := Lib.hid hz1; have HZ2 := Lib.hid hz2; clear hi0 hz0 hz1 hz2
 obtain ⟨-, -, g3, g4⟩ := chkO_ok E1.out
 have HL1 := Lib.hid (chk_ok g3).2.2.1; have HL2 := Lib.hid (chk_ok g4).2.2.1; clear g3 g4
 have HN4 := Lib.hid (rdB_len h1 HL1.out); have HM4 := Lib.hid (rdB_len h2 HL2.out)
 go_enter Tryz.func18, Tryz.ntmps18
 have bel_1 := Lib.hid (show Below w.heap.size w w from Below.refl _ w)
 have ra_2 := Lib.hid (h1)
 clear h1
 have rb_3 := Lib.hid (h2)
 clear h2
 obtain ⟨o_, ho_⟩ : ∃ o, o = ((.cells #[.int .i64 c, .slice A n k, .slice B m j] 24) : Obj) := ⟨_, rfl⟩
 replace bel_1 := bA bel_1 o_
 replace ra_2 := rA ra_2 o_
 replace rb_3 := rA rb_3 o_
 subst ho_
 have ba_4 := Lib.hid (Blk.new w 24 #[.int .i64 c, .slice A n k, .slice B m j])
 obtain ⟨o_, ho_⟩ : ∃ o, o = ((.cells #[.int .i64 f, .int .i64 t, .int .i64 mm, .int .i64 ib] 30) : Obj) := ⟨_, rfl⟩
 replace bel_1 := bA bel_1 o_
 replace ra_2 := rA ra_2 o_
 replace rb_3 := rA rb_3 o_
 replace ba_4 := kA ba_4 o_
 subst ho_
 have nb_ := Blk.new (w.alloc (.cells #[.int .i64 c, .slice A n k, .slice B m j] 24)) 30 #[.int .i64 f, .int .i64 t, .int .i64 mm, .int .i64 ib]
 simp only [World.size_alloc] at nb_
 have xb_5 := Lib.hid nb_; clear nb_
 obtain ⟨o_, ho_⟩ : ∃ o, o = ((.cells #[.int .i64 0, .slice none 0 0, .slice none 0 0] 24) : Obj) := ⟨_, rfl⟩
 replace bel_1 := bA bel_1 o_
 replace ra_2 := rA ra_2 o_
 replace rb_3 := rA rb_3 o_
 replace ba_4 := kA ba_4 o_
 replace xb_5 := kA xb_5 o_
 subst ho_
 have nb_ := Blk.new ((w.alloc (.cells #[.int .i64 c, .slice A n k, .slice B m j] 24)).alloc (.cells #[.int .i64 f, .int .i64 t, .int .i64 mm, .int .i64 ib] 30)) 24 #[.int .i64 0, .slice none 0 0, .slice none 0 0]
 simp only [World.size_alloc] at nb_
 have bz_6 := Lib.hid nb_; clear nb_
 obtain ⟨z_7, z_8, z_9⟩ := at3 ba_4
 obtain ⟨z_10, z_11, z_12, z_13⟩ := at4 xb_5
 obtain ⟨z_14, z_15, z_16⟩ := at3 bz_6
 have hc := CheckOutline_any c A B n k m j ws ts _ ra_2.out rb_3.out hn hm
 rw [E1.out] at hc
 try dsimp only at hc
 have HC := Lib.hid hc; clear hc
 go_wp2_with fail
 refine HC.out.mono ?_
 rintro e w_17 ⟨rfl, hb⟩
 clear HC
 clear z_7 z_8 z_9 z_10 z_11 z_12 z_13 z_14 z_15 z_16
 replace bel_1 := bB bel_1 hb
 replace ra_2 := rB ra_2 hb
 replace rb_3 := rB rb_3 hb
 replace ba_4 := kB ba_4 hb
 replace xb_5 := kB xb_5 hb
 replace bz_6 := kB bz_6 hb
 clear hb
 obtain ⟨z_18, z_19, z_20⟩ := at3 ba_4
 obtain ⟨z_21, z_22, z_23, z_24⟩ := at4 xb_5
 obtain ⟨z_25, z_26, z_27⟩ := at3 bz_6
 go_wp2_with fail
 clear z_18 z_19 z_20 z_21 z_22 z_23 z_24 z_25 z_26 z_27
 replace bel_1 := bD bel_1
 replace ra_2 := rD ra_2
 replace rb_3 := rD rb_3
 replace ba_4 := kD ba_4
 replace xb_5 := kD xb_5
 replace bz_6 := kD bz_6
 refine wp_region_held_drew (S := (fun W' => Blk W' (w.heap.size) 24 #[.int .i64 c, .slice A n k, .slice B m j])) (by kernel_rfl) ba_4.out (fun _ => ?_)
 obtain ⟨w1366, hw1367⟩ : ∃ w', w' = (w_17.drew) := ⟨_, rfl⟩
 rw [← hw1367] at bel_1 ra_2 rb_3 ba_4 xb_5 bz_6
 rw [← hw1367]
 clear hw1367
 refine' tkH 0 ba_4.out ?hyR1368 ?_
 case hyR1368 => (rintro _ -; go_simp; try with_reducible rfl)
 refine' tkH 1 ba_4.out ?hyR1369 ?_
 case hyR1369 => (rintro W' hS0; have hc0 := Blk.nth hS0 0; clear hS0; go_simp; try with_reducible rfl)
 refine' tkH 2 ba_4.out ?hyR1370 ?_
 case hyR1370 => (rintro _ -; go_simp; try with_reducible rfl)
 refine' tkH 3 ba_4.out ?hyR1371 ?_
 case hyR1371 => (rintro W' hS0; have hc0 := Blk.nth hS0 1; clear hS0; go_simp; try with_reducible rfl)
 try simp only [Act.put, List.setIfInBounds_toArray, List.set_cons_zero, List.set_cons_succ]
 refine' tkH 5 ba_4.out ?hyR1372 ?_
 case hyR1372 => (rintro _ -; go_simp; try with_reducible rfl)
 refine' tkH 6 ba_4.out ?hyR1373 ?_
 case hyR1373 => (rintro W' hS0; have hc0 := Blk.nth hS0 2; clear hS0; go_simp; try with_reducible rfl)
 try simp only [Act.put, List.setIfInBounds_toArray, List.set_cons_zero, List.set_cons_succ]
 refine wpAnyH_ready (rs := [4, 9]) (by kernel_rfl) (by simp) ?_
 refine rdH rfl (fun K hK => ?_) ?_
 · -- 4: call
  have hn4_ : n ≤ 400 := by have h := HL1.out; have h2 := (ra_2.out).len; omega
  go_simp
  go_at_call 61
  refine (ecopied_any A n k ws _ ra_2.out hn4_).mono ?_
  rintro e w1374 ⟨Ac, cc, rfl, hox1, hb1375⟩
  dsimp only
  have hox1 := OwnsX.base hox1 (show w.heap.size + 1 + 1 + 1 ≤ _ from Nat.succ_le_of_lt (Blk.lt (bz_6.out)))
  replace bel_1 := bB bel_1 hb1375
  replace ra_2 := rB ra_2 hb1375
  replace rb_3 := rB rb_3 hb1375
  replace ba_4 := kB ba_4 hb1375
  replace xb_5 := kB xb_5 hb1375
  replace bz_6 := kB bz_6 hb1375
  have x1_1376 := Lib.hid (hox1)
  clear hox1
  refine hK.out _ _ ba_4.out (fun _ => ?_); clear hK K
  try simp only [Act.put, List.setIfInBounds_toArray, List.set_cons_zero, List.set_cons_succ]
  refine wpAnyH_ready (rs := [7, 9]) (by kernel_rfl) (by simp) ?_
  refine rdH rfl (fun K hK => ?_) ?_
  · -- 7: call
   have hm4_ : m ≤ 400 := by have h := HL2.out; have h2 := (rb_3.out).len; omega
   go_simp
   go_at_call 61
   refine (ecopied_any B m j ts _ rb_3.out hm4_).mono ?_
   rintro e w1377 ⟨Bc, dc, rfl, hox2, hb1378⟩
   dsimp only
   have HD12 := Lib.hid (OwnsX.apart (x1_1376.out) hox2); have HD21 := Lib.hid (OwnsX.apart' (x1_1376.out) hox2)
   have hox2 := OwnsX.base hox2 (show w.heap.size + 1 + 1 + 1 ≤ _ from Nat.succ_le_of_lt (Blk.lt (bz_6.out)))
   replace bel_1 := bB bel_1 hb1378
   replace ra_2 := rB ra_2 hb1378
   replace rb_3 := rB rb_3 hb1378
   replace ba_4 := kB ba_4 hb1378
   replace xb_5 := kB xb_5 hb1378
   replace bz_6 := kB bz_6 hb1378
   replace x1_1376 := Lib.hid (OwnsX.below (x1_1376.out) hb1378)
   have x2_1379 := Lib.hid (hox2)
   clear hox2
   refine hK.out _ _ ba_4.out (fun _ => ?_); clear hK K
   try simp only [Act.put, List.setIfInBounds_toArray, List.set_cons_zero, List.set_cons_succ]
   refine' tkH 8 ba_4.out ?hyR1380 ?_
   case hyR1380 => (rintro _ -; go_simp; try with_reducible rfl)
   try simp only [Act.put, List.setIfInBounds_toArray, List.set_cons_zero, List.set_cons_succ]
   refine wpAnyH_ready (rs := [9]) (by kernel_rfl) (by simp) ?_
   refine rdH rfl (fun K hK => ?_) ?_
   · -- 9: alloc
    go_simp
    have hne1_ := OwnsX.ne (x1_1376.out) (Nat.le_refl _)
    have hne2_ := OwnsX.ne (x2_1379.out) (Nat.le_refl _)
    have lb1385 := Lib.hid (bel_1.out.size)
    have ne1386 := Lib.hid (Nat.ne_of_lt (Blk.lt ba_4.out))
    have ne1387 := Lib.hid (Nat.ne_of_lt (Blk.lt xb_5.out))
    have ne1388 := Lib.hid (Nat.ne_of_lt (Blk.lt bz_6.out))
    obtain ⟨o_, ho_⟩ : ∃ o, o = (.cells #[.int .i64 0, .slice none 0 0, .slice none 0 0] 24 : Obj) := ⟨_, rfl⟩
    replace bel_1 := bA bel_1 o_
    replace ra_2 := rA ra_2 o_
    replace rb_3 := rA rb_3 o_
    replace ba_4 := kA ba_4 o_
    replace xb_5 := kA xb_5 o_
    replace bz_6 := kA bz_6 o_
    replace x1_1376 := Lib.hid (OwnsX.alloc (x1_1376.out) (o_))
    replace x2_1379 := Lib.hid (OwnsX.alloc (x2_1379.out) (o_))
    subst ho_
    have bo_1389 := Lib.hid (Blk.new (w1377) 24 #[.int .i64 0, .slice none 0 0, .slice none 0 0])
    obtain ⟨g1381, hg1382⟩ : ∃ g, g = (w1377).heap.size := ⟨_, rfl⟩
    obtain ⟨w1383, hw1384⟩ : ∃ w', w' = (w1377).alloc (.cells #[.int .i64 0, .slice none 0 0, .slice none 0 0] 24) := ⟨_, rfl⟩
    rw [← hw1384] at bel_1 ra_2 rb_3 ba_4 xb_5 bz_6 x1_1376 x2_1379 bo_1389
    rw [← hg1382] at lb1385 ne1386 ne1387 ne1388 bo_1389 hne1_ hne2_
    rw [← hg1382, ← hw1384]
    clear hg1382 hw1384
    have HB1 := Lib.hid hne1_; clear hne1_
    have HB2 := Lib.hid hne2_; clear hne2_
    refine hK.out _ _ ba_4.out (fun _ => ?_); clear hK K
    try simp only [Act.put, List.setIfInBounds_toArray, List.set_cons_zero, List.set_cons_succ]
    refine wpAnyH_ready (rs := [10]) (by kernel_rfl) (by simp) ?_
    refine rdH rfl (fun K hK => ?_) ?_
    · -- 10: store
     have v1390 : (w1383).cell? ⟨g1381, 0, none⟩ = some (.int .i64 0) := Blk.cell (bo_1389.out) 0
     have f1391 : (w1383).frozen? ⟨g1381, 0, none⟩ = false := Blk.frozen (bo_1389.out) 0
     have v1392 : (w1383).cell? ⟨g1381, 1, none⟩ = some (.slice none 0 0) := Blk.cell (bo_1389.out) 1
     have f1393 : (w1383).frozen? ⟨g1381, 1, none⟩ = false := Blk.frozen (bo_1389.out) 1
     have v1394 : (w1383).cell? ⟨g1381, 2, none⟩ = some (.slice none 0 0) := Blk.cell (bo_1389.out) 2
     have f1395 : (w1383).frozen? ⟨g1381, 2, none⟩ = false := Blk.frozen (bo_1389.out) 2
     have hlt_ := Blk.lt (bo_1389.out)
     go_simp
     have k1396 := Lib.hid (Below.setCell (Below.setCell (Below.setCell (bel_1.out) (p := ⟨g1381, 0, none⟩) (lb1385.out) (.int .i64 c)) (p := ⟨g1381, 1, none⟩) (lb1385.out) (.slice Ac n cc)) (p := ⟨g1381, 2, none⟩) (lb1385.out) (.slice Bc m dc))
     have k1397 := Lib.hid (Blk.far (Blk.far (Blk.far (ba_4.out) (p := ⟨g1381, 0, none⟩) (ne1386.out) (.int .i64 c)) (p := ⟨g1381, 1, none⟩) (ne1386.out) (.slice Ac n cc)) (p := ⟨g1381, 2, none⟩) (ne1386.out) (.slice Bc m dc))
     have k1398 := Lib.hid (Blk.far (Blk.far (Blk.far (xb_5.out) (p := ⟨g1381, 0, none⟩) (ne1387.out) (.int .i64 c)) (p := ⟨g1381, 1, none⟩) (ne1387.out) (.slice Ac n cc)) (p := ⟨g1381, 2, none⟩) (ne1387.out) (.slice Bc m dc))
     have k1399 := Lib.hid (Blk.far (Blk.far (Blk.far (bz_6.out) (p := ⟨g1381, 0, none⟩) (ne1388.out) (.int .i64 c)) (p := ⟨g1381, 1, none⟩) (ne1388.out) (.slice Ac n cc)) (p := ⟨g1381, 2, none⟩) (ne1388.out) (.slice Bc m dc))
     have k1400 := Lib.hid (OwnsX.far (OwnsX.far (OwnsX.far (x1_1376.out) (a := ⟨g1381, 0, none⟩) (HB1.out) (.int .i64 c)) (a := ⟨g1381, 1, none⟩) (HB1.out) (.slice Ac n cc)) (a := ⟨g1381, 2, none⟩) (HB1.out) (.slice Bc m dc))
     have k1401 := Lib.hid (OwnsX.far (OwnsX.far (OwnsX.far (x2_1379.out) (a := ⟨g1381, 0, none⟩) (HB2.out) (.int .i64 c)) (a := ⟨g1381, 1, none⟩) (HB2.out) (.slice Ac n cc)) (a := ⟨g1381, 2, none⟩) (HB2.out) (.slice Bc m dc))
     have k1402 := Lib.hid (Blk.set_ (Blk.set_ (Blk.set_ (bo_1389.out) 0 (.int .i64 c)) 1 (.slice Ac n cc)) 2 (.slice Bc m dc))
     obtain ⟨w1403, hw1404⟩ : ∃ w', w' = ((((w1383).setCell ⟨g1381, 0, none⟩ (.int .i64 c)).setCell ⟨g1381, 1, none⟩ (.slice Ac n cc)).setCell ⟨g1381, 2, none⟩ (.slice Bc m dc)) := ⟨_, rfl⟩
     rw [← hw1404] at k1396 k1397 k1398 k1399 k1400 k1401 k1402
     rw [← hw1404]
     clear hw1404 v1390 f1391 v1392 f1393 v1394 f1395 hlt_
     refine hK.out _ _ k1397.out (fun _ => ?_); clear hK K
     try simp only [Act.put, List.setIfInBounds_toArray, List.set_cons_zero, List.set_cons_succ]
     refine wpAnyH_done (by kernel_rfl) ?_ _
     obtain ⟨z_1028, z_1029, z_1030⟩ := at3 k1397
     obtain ⟨z_1031, z_1032, z_1033, z_1034⟩ := at4 k1398
     obtain ⟨z_1035, z_1036, z_1037⟩ := at3 k1399
     obtain ⟨z_1038, z_1039, z_1040⟩ := at3 k1402
     have NB := Lib.hid (Blk.new w1403 30 #[.int .i64 f, .int .i64 t, .int .i64 mm, .int .i64 ib])
     have OX1 := Lib.hid (OwnsX.alloc (k1400.out) (.cells #[.int .i64 f, .int .i64 t, .int .i64 mm, .int .i64 ib] 30))
     have OX2 := Lib.hid (OwnsX.alloc (k1401.out) (.cells #[.int .i64 f, .int .i64 t, .int .i64 mm, .int .i64 ib] 30))
     have BOA := Lib.hid (Blk.alloc (k1402.out) (.cells #[.int .i64 f, .int .i64 t, .int .i64 mm, .int .i64 ib] 30))
     have BZA := Lib.hid (Blk.alloc (k1399.out) (.cells #[.int .i64 f, .int .i64 t, .int .i64 mm, .int .i64 ib] 30))
     have XBA := Lib.hid (Blk.alloc (k1398.out) (.cells #[.int .i64 f, .int .i64 t, .int .i64 mm, .int .i64 ib] 30))
     have BLA := Lib.hid (Below.alloc (k1396.out) ((k1396.out).size) (.cells #[.int .i64 f, .int .i64 t, .int .i64 mm, .int .i64 ib] 30))
     have hsz_ := Nat.succ_le_of_lt (Blk.lt BZA.out); have hbo_ := Blk.lt BOA.out
     have z4_ : (w1403.alloc (.cells #[.int .i64 f, .int .i64 t, .int .i64 mm, .int .i64 ib] 30)).cell? ⟨g1381, 0, none⟩ = some (.int .i64 c) := Blk.cell BOA.out 0
     have hn4_ : n ≤ 400 := HN4.out; have hm4_ : m ≤ 400 := HM4.out
     go_wp2_with (at_builtin; refine wpList_append_X _ rfl (.tmp 34) (.tmp 36) 22 rfl (w.heap.size + 1 + 1 + 1) 30 i0 _ 4 32 Tryz.underlying22 HI.out HZ0.out HZ1.out HZ2.out rfl (by omega) Ac n cc _ rfl OX1.out ⟨w1403.heap.size, 0, none⟩ 1 1 (bcells [⟨f, t, mm, ib⟩]) rfl rfl (cells_add (cs := bcells [⟨f, t, mm, ib⟩]) (show Blk _ _ _ (bcells [⟨f, t, mm, ib⟩]).toArray from NB.out)) (bcells_one _) (by omega) (by unfold maxLen; omega) (by omega) hsz_ ?_; intro g5 c5 w5 hown5 hb5 hg5 hkp5; have HO5 := Lib.hid hown5; have HB5 := Lib.hid hb5; have bo5 := (hkp5 _ hbo_ HB1.out).trans BOA.out; have BO5 := Lib.hid (show Blk w5 g1381 24 #[.int .i64 c, .slice Ac n cc, .slice Bc m dc] from bo5); have RO5 := Lib.hid (rdB_far (rdB_of OX2.out) hkp5 HD12.out hb5.size); clear hown5 hb5 hkp5 bo5; have q0_ : w5.cell? ⟨g1381, 0, none⟩ = some (.int .i64 c) := Blk.cell BO5.out 0; have q1_ : w5.cell? ⟨g1381, 1, none⟩ = some (.slice Ac n cc) := Blk.cell BO5.out 1; have q2_ : w5.cell? ⟨g1381, 2, none⟩ = some (.slice Bc m dc) := Blk.cell BO5.out 2; have q3_ : w5.frozen? ⟨g1381, 1, none⟩ = false := Blk.frozen BO5.out 1)
     have hbz_ : w.heap.size + 1 + 1 ≠ g1381 := ne1388.out; have hlb_ : w.heap.size ≤ g1381 := lb1385.out
     have rdn_ := (OwnB.rd (show OwnB w5 (w.heap.size + 1 + 1 + 1) (some ⟨g5, 0, none⟩) (n + 1) c5 (ws ++ [⟨f, t, mm, ib⟩]) from by have h := HO5.out; rw [← bcells_append] at h; exact h)).1
     have RN := Lib.hid (rdB_setN rdn_ ⟨g1381, 1, none⟩ (.slice (some ⟨g5, 0, none⟩) (n + 1) c5) BO5.out (by intro j x; rcases j with _ | _ | j <;> simp)); have RO := Lib.hid (rdB_setN RO5.out ⟨g1381, 1, none⟩ (.slice (some ⟨g5, 0, none⟩) (n + 1) c5) BO5.out (by intro j x; rcases j with _ | _ | j <;> simp)); clear rdn_
     have BO6 := Lib.hid (Blk.set_ BO5.out 1 (.slice (some ⟨g5, 0, none⟩) (n + 1) c5)); have BZ6 := Lib.hid (Blk.far (Blk.below BZA.out HB5.out (by omega)) (p := ⟨g1381, 1, none⟩) hbz_ (.slice (some ⟨g5, 0, none⟩) (n + 1) c5)); have BL6 := Lib.hid (Below.setCell (Below.trans BLA.out (Below.mono HB5.out (by omega))) (p := ⟨g1381, 1, none⟩) hlb_ (.slice (some ⟨g5, 0, none⟩) (n + 1) c5))
     clear q0_ q1_ q2_ q3_ z4_ hsz_ hbo_ k1399 k1398
     obtain ⟨w6, hw6⟩ : ∃ w', w' = w5.setCell ⟨g1381, 1, none⟩ (.slice (some ⟨g5, 0, none⟩) (n + 1) c5) := ⟨_, rfl⟩
     rw [← hw6] at RN RO BO6 BZ6 BL6 ⊢
     clear hw6
     have hc := CheckOutline_any c (some ⟨g5, 0, none⟩) Bc (n + 1) c5 m dc (ws ++ [⟨f, t, mm, ib⟩]) ts w6 RN.out RO.out (by unfold maxLen; omega) (by unfold maxLen; omega)
     rw [E2.out] at hc
     have HC := Lib.hid hc; clear hc
     refine HC.out.mono ?_
     rintro e w9 ⟨rfl, hb⟩
     clear HC
     have RN9 := Lib.hid (RdB.below RN.out hb); have RO9 := Lib.hid (RdB.below RO.out hb)
     have BO9 := Lib.hid (show Blk w9 g1381 24 #[.int .i64 c, .slice (some ⟨g5, 0, none⟩) (n + 1) c5, .slice Bc m dc] from Blk.keep BO6.out hb); have BZ9 := Lib.hid (show Blk w9 (w.heap.size + 1 + 1) 24 #[.int .i64 0, .slice none 0 0, .slice none 0 0] from Blk.keep BZ6.out hb); have BL9 := Lib.hid (Below.trans BL6.out (Below.mono hb BL6.out.size)); clear RN RO BO6 BZ6 BL6 hb
     have q0_ : w9.cell? ⟨g1381, 0, none⟩ = some (.int .i64 c) := Blk.cell BO9.out 0
     have q1_ : w9.cell? ⟨g1381, 1, none⟩ = some (.slice (some ⟨g5, 0, none⟩) (n + 1) c5) := Blk.cell BO9.out 1
     have q2_ : w9.cell? ⟨g1381, 2, none⟩ = some (.slice Bc m dc) := Blk.cell BO9.out 2
     have y0_ : w9.cell? ⟨w.heap.size + 1 + 1, 0, none⟩ = some (.int .i64 0) := Blk.cell BZ9.out 0
     have f0_ : w9.frozen? ⟨w.heap.size + 1 + 1, 0, none⟩ = false := Blk.frozen BZ9.out 0
     have y1_ : w9.cell? ⟨w.heap.size + 1 + 1, 1, none⟩ = some (.slice none 0 0) := Blk.cell BZ9.out 1
     have f1_ : w9.frozen? ⟨w.heap.size + 1 + 1, 1, none⟩ = false := Blk.frozen BZ9.out 1
     have y2_ : w9.cell? ⟨w.heap.size + 1 + 1, 2, none⟩ = some (.slice none 0 0) := Blk.cell BZ9.out 2
     have f2_ : w9.frozen? ⟨w.heap.size + 1 + 1, 2, none⟩ = false := Blk.frozen BZ9.out 2
     have hlz_ := Blk.lt BZ9.out; have hlo_ := Blk.lt BO9.out
     by_cases hq : q = 0
     · subst hq
       go_wp2
       have bel_ := BL9.out
       refine bodyPost_ret (v := .tuple #[.agg #[.int .i64 c, .slice (some ⟨g5, 0, none⟩) (n + 1) c5, .slice Bc m dc], .int .i64 0]) (by simp [results, Tryz.results18, go_sem, y0_, y1_, y2_, f0_, f1_, f2_]) rfl ?_
       exact ⟨(some ⟨g5, 0, none⟩), (n + 1), c5, Bc, m, dc, rfl, rdB_setN (rdB_setN (rdB_setN (RN9.out) ⟨w.heap.size + 1 + 1, 0, none⟩ (.int .i64 c) (BZ9.out) (by intro j x; rcases j with _ | _ | j <;> simp)) ⟨w.heap.size + 1 + 1, 1, none⟩ (.slice (some ⟨g5, 0, none⟩) (n + 1) c5) (Blk.set_ (BZ9.out) 0 (.int .i64 c)) (by intro j x; rcases j with _ | _ | j <;> simp)) ⟨w.heap.size + 1 + 1, 2, none⟩ (.slice Bc m dc) (Blk.set_ (Blk.set_ (BZ9.out) 0 (.int .i64 c)) 1 (.slice (some ⟨g5, 0, none⟩) (n + 1) c5)) (by intro j x; rcases j with _ | _ | j <;> simp), rdB_setN (rdB_setN (rdB_setN (RO9.out) ⟨w.heap.size + 1 + 1, 0, none⟩ (.int .i64 c) (BZ9.out) (by intro j x; rcases j with _ | _ | j <;> simp)) ⟨w.heap.size + 1 + 1, 1, none⟩ (.slice (some ⟨g5, 0, none⟩) (n + 1) c5) (Blk.set_ (BZ9.out) 0 (.int .i64 c)) (by intro j x; rcases j with _ | _ | j <;> simp)) ⟨w.heap.size + 1 + 1, 2, none⟩ (.slice Bc m dc) (Blk.set_ (Blk.set_ (BZ9.out) 0 (.int .i64 c)) 1 (.slice (some ⟨g5, 0, none⟩) (n + 1) c5)) (by intro j x; rcases j with _ | _ | j <;> simp), by unfold maxLen; omega, by unfold maxLen; omega, (by have hsz_ := Below.size bel_; repeat' (first | with_reducible exact bel_ | with_reducible exact Below.refl _ _ | with_reducible refine Below.alloc ?_ ?_ _ | with_reducible refine Below.setCell ?_ ?_ _ | with_reducible refine Below.drew ?_ | with_reducible refine below_setRow ?_ ?_ _ | omega | (simp; done) | (simp; omega)))⟩
     · have hne : (q != 0) = true := by simpa using hq
       have HQ := Lib.hid hq; clear hq
       go_wp2
       have bel_ := BL9.out
       refine bodyPost_ret (v := .tuple #[.agg #[.int .i64 0, .slice none 0 0, .slice none 0 0], .int .i64 q]) (by simp [results, Tryz.results18, go_sem, y0_, y1_, y2_, f0_, f1_, f2_]) rfl ?_
       exact ⟨none, 0, 0, none, 0, 0, by rw [if_neg HQ.out], by rw [if_neg HQ.out]; exact RdB.nil_ _, by rw [if_neg HQ.out]; exact RdB.nil_ _, by unfold maxLen; omega, by unfold maxLen; omega, (by have hsz_ := Below.size bel_; repeat' (first | with_reducible exact bel_ | with_reducible exact Below.refl _ _ | with_reducible refine Below.alloc ?_ ?_ _ | with_reducible refine Below.setCell ?_ ?_ _ | with_reducible refine Below.drew ?_ | with_reducible refine below_setRow ?_ ?_ _ | omega | (simp; done) | (simp; omega)))⟩
    exact AllReadyH.nil
   exact AllReadyH.nil
  refine rdH rfl (fun K hK => ?_) ?_
  · -- 9: alloc
   go_simp
   have hne1_ := OwnsX.ne (x1_1376.out) (Nat.le_refl _)
   have lb1409 := Lib.hid (bel_1.out.size)
   have ne1410 := Lib.hid (Nat.ne_of_lt (Blk.lt ba_4.out))
   have ne1411 := Lib.hid (Nat.ne_of_lt (Blk.lt xb_5.out))
   have ne1412 := Lib.hid (Nat.ne_of_lt (Blk.lt bz_6.out))
   obtain ⟨o_, ho_⟩ : ∃ o, o = (.cells #[.int .i64 0, .slice none 0 0, .slice none 0 0] 24 : Obj) := ⟨_, rfl⟩
   replace bel_1 := bA bel_1 o_
   replace ra_2 := rA ra_2 o_
   replace rb_3 := rA rb_3 o_
   replace ba_4 := kA ba_4 o_
   replace xb_5 := kA xb_5 o_
   replace bz_6 := kA bz_6 o_
   replace x1_1376 := Lib.hid (OwnsX.alloc (x1_1376.out) (o_))
   subst ho_
   have bo_1413 := Lib.hid (Blk.new (w1374) 24 #[.int .i64 0, .slice none 0 0, .slice none 0 0])
   obtain ⟨g1405, hg1406⟩ : ∃ g, g = (w1374).heap.size := ⟨_, rfl⟩
   obtain ⟨w1407, hw1408⟩ : ∃ w', w' = (w1374).alloc (.cells #[.int .i64 0, .slice none 0 0, .slice none 0 0] 24) := ⟨_, rfl⟩
   rw [← hw1408] at bel_1 ra_2 rb_3 ba_4 xb_5 bz_6 x1_1376 bo_1413
   rw [← hg1406] at lb1409 ne1410 ne1411 ne1412 bo_1413 hne1_
   rw [← hg1406, ← hw1408]
   clear hg1406 hw1408
   have HB1 := Lib.hid hne1_; clear hne1_
   refine hK.out _ _ ba_4.out (fun _ => ?_); clear hK K
   try simp only [Act.put, List.setIfInBounds_toArray, List.set_cons_zero, List.set_cons_succ]
   refine wpAnyH_ready (rs := [7]) (by kernel_rfl) (by simp) ?_
   refine rdH rfl (fun K hK => ?_) ?_
   · -- 7: call
    have hm4_ : m ≤ 400 := by have h := HL2.out; have h2 := (rb_3.out).len; omega
    go_simp
    go_at_call 61
    refine (ecopied_any B m j ts _ rb_3.out hm4_).mono ?_
    rintro e w1414 ⟨Bc, dc, rfl, hox2, hb1415⟩
    dsimp only
    have HB2 := Lib.hid (fun (h0 : dc ≠ 0) => OwnsX.gt hox2 (Blk.lt (bo_1413.out)) h0)
    have HD12 := Lib.hid (OwnsX.apart (x1_1376.out) hox2); have HD21 := Lib.hid (OwnsX.apart' (x1_1376.out) hox2)
    have hox2 := OwnsX.base hox2 (show w.heap.size + 1 + 1 + 1 ≤ _ from Nat.succ_le_of_lt (Blk.lt (bz_6.out)))
    replace bel_1 := bB bel_1 hb1415
    replace ra_2 := rB ra_2 hb1415
    replace rb_3 := rB rb_3 hb1415
    replace ba_4 := kB ba_4 hb1415
    replace xb_5 := kB xb_5 hb1415
    replace bz_6 := kB bz_6 hb1415
    replace x1_1376 := Lib.hid (OwnsX.below (x1_1376.out) hb1415)
    replace bo_1413 := kB bo_1413 hb1415
    have x2_1416 := Lib.hid (hox2)
    clear hox2
    refine hK.out _ _ ba_4.out (fun _ => ?_); clear hK K
    try simp only [Act.put, List.setIfInBounds_toArray, List.set_cons_zero, List.set_cons_succ]
    refine' tkH 8 ba_4.out ?hyR1417 ?_
    case hyR1417 => (rintro _ -; go_simp; try with_reducible rfl)
    try simp only [Act.put, List.setIfInBounds_toArray, List.set_cons_zero, List.set_cons_succ]
    refine wpAnyH_ready (rs := [10]) (by kernel_rfl) (by simp) ?_
    refine rdH rfl (fun K hK => ?_) ?_
    · -- 10: store
     have v1418 : (w1414).cell? ⟨g1405, 0, none⟩ = some (.int .i64 0) := Blk.cell (bo_1413.out) 0
     have f1419 : (w1414).frozen? ⟨g1405, 0, none⟩ = false := Blk.frozen (bo_1413.out) 0
     have v1420 : (w1414).cell? ⟨g1405, 1, none⟩ = some (.slice none 0 0) := Blk.cell (bo_1413.out) 1
     have f1421 : (w1414).frozen? ⟨g1405, 1, none⟩ = false := Blk.frozen (bo_1413.out) 1
     have v1422 : (w1414).cell? ⟨g1405, 2, none⟩ = some (.slice none 0 0) := Blk.cell (bo_1413.out) 2
     have f1423 : (w1414).frozen? ⟨g1405, 2, none⟩ = false := Blk.frozen (bo_1413.out) 2
     have hlt_ := Blk.lt (bo_1413.out)
     go_simp
     have k1424 := Lib.hid (Below.setCell (Below.setCell (Below.setCell (bel_1.out) (p := ⟨g1405, 0, none⟩) (lb1409.out) (.int .i64 c)) (p := ⟨g1405, 1, none⟩) (lb1409.out) (.slice Ac n cc)) (p := ⟨g1405, 2, none⟩) (lb1409.out) (.slice Bc m dc))
     have k1425 := Lib.hid (Blk.far (Blk.far (Blk.far (ba_4.out) (p := ⟨g1405, 0, none⟩) (ne1410.out) (.int .i64 c)) (p := ⟨g1405, 1, none⟩) (ne1410.out) (.slice Ac n cc)) (p := ⟨g1405, 2, none⟩) (ne1410.out) (.slice Bc m dc))
     have k1426 := Lib.hid (Blk.far (Blk.far (Blk.far (xb_5.out) (p := ⟨g1405, 0, none⟩) (ne1411.out) (.int .i64 c)) (p := ⟨g1405, 1, none⟩) (ne1411.out) (.slice Ac n cc)) (p := ⟨g1405, 2, none⟩) (ne1411.out) (.slice Bc m dc))
     have k1427 := Lib.hid (Blk.far (Blk.far (Blk.far (bz_6.out) (p := ⟨g1405, 0, none⟩) (ne1412.out) (.int .i64 c)) (p := ⟨g1405, 1, none⟩) (ne1412.out) (.slice Ac n cc)) (p := ⟨g1405, 2, none⟩) (ne1412.out) (.slice Bc m dc))
     have k1428 := Lib.hid (OwnsX.far (OwnsX.far (OwnsX.far (x1_1376.out) (a := ⟨g1405, 0, none⟩) (HB1.out) (.int .i64 c)) (a := ⟨g1405, 1, none⟩) (HB1.out) (.slice Ac n cc)) (a := ⟨g1405, 2, none⟩) (HB1.out) (.slice Bc m dc))
     have k1429 := Lib.hid (Blk.set_ (Blk.set_ (Blk.set_ (bo_1413.out) 0 (.int .i64 c)) 1 (.slice Ac n cc)) 2 (.slice Bc m dc))
     have k1430 := Lib.hid (OwnsX.far (OwnsX.far (OwnsX.far (x2_1416.out) (a := ⟨g1405, 0, none⟩) (HB2.out) (.int .i64 c)) (a := ⟨g1405, 1, none⟩) (HB2.out) (.slice Ac n cc)) (a := ⟨g1405, 2, none⟩) (HB2.out) (.slice Bc m dc))
     obtain ⟨w1431, hw1432⟩ : ∃ w', w' = ((((w1414).setCell ⟨g1405, 0, none⟩ (.int .i64 c)).setCell ⟨g1405, 1, none⟩ (.slice Ac n cc)).setCell ⟨g1405, 2, none⟩ (.slice Bc m dc)) := ⟨_, rfl⟩
     rw [← hw1432] at k1424 k1425 k1426 k1427 k1428 k1429 k1430
     rw [← hw1432]
     clear hw1432 v1418 f1419 v1420 f1421 v1422 f1423 hlt_
     refine hK.out _ _ k1425.out (fun _ => ?_); clear hK K
     try simp only [Act.put, List.setIfInBounds_toArray, List.set_cons_zero, List.set_cons_succ]
     refine wpAnyH_done (by kernel_rfl) ?_ _
     obtain ⟨z_1028, z_1029, z_1030⟩ := at3 k1425
     obtain ⟨z_1031, z_1032, z_1033, z_1034⟩ := at4 k1426
     obtain ⟨z_1035, z_1036, z_1037⟩ := at3 k1427
     obtain ⟨z_1038, z_1039, z_1040⟩ := at3 k1429
     have NB := Lib.hid (Blk.new w1431 30 #[.int .i64 f, .int .i64 t, .int .i64 mm, .int .i64 ib])
     have OX1 := Lib.hid (OwnsX.alloc (k1428.out) (.cells #[.int .i64 f, .int .i64 t, .int .i64 mm, .int .i64 ib] 30))
     have OX2 := Lib.hid (OwnsX.alloc (k1430.out) (.cells #[.int .i64 f, .int .i64 t, .int .i64 mm, .int .i64 ib] 30))
     have BOA := Lib.hid (Blk.alloc (k1429.out) (.cells #[.int .i64 f, .int .i64 t, .int .i64 mm, .int .i64 ib] 30))
     have BZA := Lib.hid (Blk.alloc (k1427.out) (.cells #[.int .i64 f, .int .i64 t, .int .i64 mm, .int .i64 ib] 30))
     have XBA := Lib.hid (Blk.alloc (k1426.out) (.cells #[.int .i64 f, .int .i64 t, .int .i64 mm, .int .i64 ib] 30))
     have BLA := Lib.hid (Below.alloc (k1424.out) ((k1424.out).size) (.cells #[.int .i64 f, .int .i64 t, .int .i64 mm, .int .i64 ib] 30))
     have hsz_ := Nat.succ_le_of_lt (Blk.lt BZA.out); have hbo_ := Blk.lt BOA.out
     have z4_ : (w1431.alloc (.cells #[.int .i64 f, .int .i64 t, .int .i64 mm, .int .i64 ib] 30)).cell? ⟨g1405, 0, none⟩ = some (.int .i64 c) := Blk.cell BOA.out 0
     have hn4_ : n ≤ 400 := HN4.out; have hm4_ : m ≤ 400 := HM4.out
     go_wp2_with (at_builtin; refine wpList_append_X _ rfl (.tmp 34) (.tmp 36) 22 rfl (w.heap.size + 1 + 1 + 1) 30 i0 _ 4 32 Tryz.underlying22 HI.out HZ0.out HZ1.out HZ2.out rfl (by omega) Ac n cc _ rfl OX1.out ⟨w1431.heap.size, 0, none⟩ 1 1 (bcells [⟨f, t, mm, ib⟩]) rfl rfl (cells_add (cs := bcells [⟨f, t, mm, ib⟩]) (show Blk _ _ _ (bcells [⟨f, t, mm, ib⟩]).toArray from NB.out)) (bcells_one _) (by omega) (by unfold maxLen; omega) (by omega) hsz_ ?_; intro g5 c5 w5 hown5 hb5 hg5 hkp5; have HO5 := Lib.hid hown5; have HB5 := Lib.hid hb5; have bo5 := (hkp5 _ hbo_ HB1.out).trans BOA.out; have BO5 := Lib.hid (show Blk w5 g1405 24 #[.int .i64 c, .slice Ac n cc, .slice Bc m dc] from bo5); have RO5 := Lib.hid (rdB_far (rdB_of OX2.out) hkp5 HD12.out hb5.size); clear hown5 hb5 hkp5 bo5; have q0_ : w5.cell? ⟨g1405, 0, none⟩ = some (.int .i64 c) := Blk.cell BO5.out 0; have q1_ : w5.cell? ⟨g1405, 1, none⟩ = some (.slice Ac n cc) := Blk.cell BO5.out 1; have q2_ : w5.cell? ⟨g1405, 2, none⟩ = some (.slice Bc m dc) := Blk.cell BO5.out 2; have q3_ : w5.frozen? ⟨g1405, 1, none⟩ = false := Blk.frozen BO5.out 1)
     have hbz_ : w.heap.size + 1 + 1 ≠ g1405 := ne1412.out; have hlb_ : w.heap.size ≤ g1405 := lb1409.out
     have rdn_ := (OwnB.rd (show OwnB w5 (w.heap.size + 1 + 1 + 1) (some ⟨g5, 0, none⟩) (n + 1) c5 (ws ++ [⟨f, t, mm, ib⟩]) from by have h := HO5.out; rw [← bcells_append] at h; exact h)).1
     have RN := Lib.hid (rdB_setN rdn_ ⟨g1405, 1, none⟩ (.slice (some ⟨g5, 0, none⟩) (n + 1) c5) BO5.out (by intro j x; rcases j with _ | _ | j <;> simp)); have RO := Lib.hid (rdB_setN RO5.out ⟨g1405, 1, none⟩ (.slice (some ⟨g5, 0, none⟩) (n + 1) c5) BO5.out (by intro j x; rcases j with _ | _ | j <;> simp)); clear rdn_
     have BO6 := Lib.hid (Blk.set_ BO5.out 1 (.slice (some ⟨g5, 0, none⟩) (n + 1) c5)); have BZ6 := Lib.hid (Blk.far (Blk.below BZA.out HB5.out (by omega)) (p := ⟨g1405, 1, none⟩) hbz_ (.slice (some ⟨g5, 0, none⟩) (n + 1) c5)); have BL6 := Lib.hid (Below.setCell (Below.trans BLA.out (Below.mono HB5.out (by omega))) (p := ⟨g1405, 1, none⟩) hlb_ (.slice (some ⟨g5, 0, none⟩) (n + 1) c5))
     clear q0_ q1_ q2_ q3_ z4_ hsz_ hbo_ k1427 k1426
     obtain ⟨w6, hw6⟩ : ∃ w', w' = w5.setCell ⟨g1405, 1, none⟩ (.slice (some ⟨g5, 0, none⟩) (n + 1) c5) := ⟨_, rfl⟩
     rw [← hw6] at RN RO BO6 BZ6 BL6 ⊢
     clear hw6
     have hc := CheckOutline_any c (some ⟨g5, 0, none⟩) Bc (n + 1) c5 m dc (ws ++ [⟨f, t, mm, ib⟩]) ts w6 RN.out RO.out (by unfold maxLen; omega) (by unfold maxLen; omega)
     rw [E2.out] at hc
     have HC := Lib.hid hc; clear hc
     refine HC.out.mono ?_
     rintro e w9 ⟨rfl, hb⟩
     clear HC
     have RN9 := Lib.hid (RdB.below RN.out hb); have RO9 := Lib.hid (RdB.below RO.out hb)
     have BO9 := Lib.hid (show Blk w9 g1405 24 #[.int .i64 c, .slice (some ⟨g5, 0, none⟩) (n + 1) c5, .slice Bc m dc] from Blk.keep BO6.out hb); have BZ9 := Lib.hid (show Blk w9 (w.heap.size + 1 + 1) 24 #[.int .i64 0, .slice none 0 0, .slice none 0 0] from Blk.keep BZ6.out hb); have BL9 := Lib.hid (Below.trans BL6.out (Below.mono hb BL6.out.size)); clear RN RO BO6 BZ6 BL6 hb
     have q0_ : w9.cell? ⟨g1405, 0, none⟩ = some (.int .i64 c) := Blk.cell BO9.out 0
     have q1_ : w9.cell? ⟨g1405, 1, none⟩ = some (.slice (some ⟨g5, 0, none⟩) (n + 1) c5) := Blk.cell BO9.out 1
     have q2_ : w9.cell? ⟨g1405, 2, none⟩ = some (.slice Bc m dc) := Blk.cell BO9.out 2
     have y0_ : w9.cell? ⟨w.heap.size + 1 + 1, 0, none⟩ = some (.int .i64 0) := Blk.cell BZ9.out 0
     have f0_ : w9.frozen? ⟨w.heap.size + 1 + 1, 0, none⟩ = false := Blk.frozen BZ9.out 0
     have y1_ : w9.cell? ⟨w.heap.size + 1 + 1, 1, none⟩ = some (.slice none 0 0) := Blk.cell BZ9.out 1
     have f1_ : w9.frozen? ⟨w.heap.size + 1 + 1, 1, none⟩ = false := Blk.frozen BZ9.out 1
     have y2_ : w9.cell? ⟨w.heap.size + 1 + 1, 2, none⟩ = some (.slice none 0 0) := Blk.cell BZ9.out 2
     have f2_ : w9.frozen? ⟨w.heap.size + 1 + 1, 2, none⟩ = false := Blk.frozen BZ9.out 2
     have hlz_ := Blk.lt BZ9.out; have hlo_ := Blk.lt BO9.out
     by_cases hq : q = 0
     · subst hq
       go_wp2
       have bel_ := BL9.out
       refine bodyPost_ret (v := .tuple #[.agg #[.int .i64 c, .slice (some ⟨g5, 0, none⟩) (n + 1) c5, .slice Bc m dc], .int .i64 0]) (by simp [results, Tryz.results18, go_sem, y0_, y1_, y2_, f0_, f1_, f2_]) rfl ?_
       exact ⟨(some ⟨g5, 0, none⟩), (n + 1), c5, Bc, m, dc, rfl, rdB_setN (rdB_setN (rdB_setN (RN9.out) ⟨w.heap.size + 1 + 1, 0, none⟩ (.int .i64 c) (BZ9.out) (by intro j x; rcases j with _ | _ | j <;> simp)) ⟨w.heap.size + 1 + 1, 1, none⟩ (.slice (some ⟨g5, 0, none⟩) (n + 1) c5) (Blk.set_ (BZ9.out) 0 (.int .i64 c)) (by intro j x; rcases j with _ | _ | j <;> simp)) ⟨w.heap.size + 1 + 1, 2, none⟩ (.slice Bc m dc) (Blk.set_ (Blk.set_ (BZ9.out) 0 (.int .i64 c)) 1 (.slice (some ⟨g5, 0, none⟩) (n + 1) c5)) (by intro j x; rcases j with _ | _ | j <;> simp), rdB_setN (rdB_setN (rdB_setN (RO9.out) ⟨w.heap.size + 1 + 1, 0, none⟩ (.int .i64 c) (BZ9.out) (by intro j x; rcases j with _ | _ | j <;> simp)) ⟨w.heap.size + 1 + 1, 1, none⟩ (.slice (some ⟨g5, 0, none⟩) (n + 1) c5) (Blk.set_ (BZ9.out) 0 (.int .i64 c)) (by intro j x; rcases j with _ | _ | j <;> simp)) ⟨w.heap.size + 1 + 1, 2, none⟩ (.slice Bc m dc) (Blk.set_ (Blk.set_ (BZ9.out) 0 (.int .i64 c)) 1 (.slice (some ⟨g5, 0, none⟩) (n + 1) c5)) (by intro j x; rcases j with _ | _ | j <;> simp), by unfold maxLen; omega, by unfold maxLen; omega, (by have hsz_ := Below.size bel_; repeat' (first | with_reducible exact bel_ | with_reducible exact Below.refl _ _ | with_reducible refine Below.alloc ?_ ?_ _ | with_reducible refine Below.setCell ?_ ?_ _ | with_reducible refine Below.drew ?_ | with_reducible refine below_setRow ?_ ?_ _ | omega | (simp; done) | (simp; omega)))⟩
     · have hne : (q != 0) = true := by simpa using hq
       have HQ := Lib.hid hq; clear hq
       go_wp2
       have bel_ := BL9.out
       refine bodyPost_ret (v := .tuple #[.agg #[.int .i64 0, .slice none 0 0, .slice none 0 0], .int .i64 q]) (by simp [results, Tryz.results18, go_sem, y0_, y1_, y2_, f0_, f1_, f2_]) rfl ?_
       exact ⟨none, 0, 0, none, 0, 0, by rw [if_neg HQ.out], by rw [if_neg HQ.out]; exact RdB.nil_ _, by rw [if_neg HQ.out]; exact RdB.nil_ _, by unfold maxLen; omega, by unfold maxLen; omega, (by have hsz_ := Below.size bel_; repeat' (first | with_reducible exact bel_ | with_reducible exact Below.refl _ _ | with_reducible refine Below.alloc ?_ ?_ _ | with_reducible refine Below.setCell ?_ ?_ _ | with_reducible refine Below.drew ?_ | with_reducible refine below_setRow ?_ ?_ _ | omega | (simp; done) | (simp; omega)))⟩
    exact AllReadyH.nil
   exact AllReadyH.nil
  exact AllReadyH.nil
 refine rdH rfl (fun K hK => ?_) ?_
 · -- 9: alloc
  go_simp
  have lb1437 := Lib.hid (bel_1.out.size)
  have ne1438 := Lib.hid (Nat.ne_of_lt (Blk.lt ba_4.out))
  have ne1439 := Lib.hid (Nat.ne_of_lt (Blk.lt xb_5.out))
  have ne1440 := Lib.hid (Nat.ne_of_lt (Blk.lt bz_6.out))
  obtain ⟨o_, ho_⟩ : ∃ o, o = (.cells #[.int .i64 0, .slice none 0 0, .slice none 0 0] 24 : Obj) := ⟨_, rfl⟩
  replace bel_1 := bA bel_1 o_
  replace ra_2 := rA ra_2 o_
  replace rb_3 := rA rb_3 o_
  replace ba_4 := kA ba_4 o_
  replace xb_5 := kA xb_5 o_
  replace bz_6 := kA bz_6 o_
  subst ho_
  have bo_1441 := Lib.hid (Blk.new (w1366) 24 #[.int .i64 0, .slice none 0 0, .slice none 0 0])
  obtain ⟨g1433, hg1434⟩ : ∃ g, g = (w1366).heap.size := ⟨_, rfl⟩
  obtain ⟨w1435, hw1436⟩ : ∃ w', w' = (w1366).alloc (.cells #[.int .i64 0, .slice none 0 0, .slice none 0 0] 24) := ⟨_, rfl⟩
  rw [← hw1436] at bel_1 ra_2 rb_3 ba_4 xb_5 bz_6 bo_1441
  rw [← hg1434] at lb1437 ne1438 ne1439 ne1440 bo_1441
  rw [← hg1434, ← hw1436]
  clear hg1434 hw1436
  refine hK.out _ _ ba_4.out (fun _ => ?_); clear hK K
  try simp only [Act.put, List.setIfInBounds_toArray, List.set_cons_zero, List.set_cons_succ]
  refine wpAnyH_ready (rs := [4]) (by kernel_rfl) (by simp) ?_
  refine rdH rfl (fun K hK => ?_) ?_
  · -- 4: call
   have hn4_ : n ≤ 400 := by have h := HL1.out; have h2 := (ra_2.out).len; omega
   go_simp
   go_at_call 61
   refine (ecopied_any A n k ws _ ra_2.out hn4_).mono ?_
   rintro e w1442 ⟨Ac, cc, rfl, hox1, hb1443⟩
   dsimp only
   have HB1 := Lib.hid (fun (h0 : cc ≠ 0) => OwnsX.gt hox1 (Blk.lt (bo_1441.out)) h0)
   have hox1 := OwnsX.base hox1 (show w.heap.size + 1 + 1 + 1 ≤ _ from Nat.succ_le_of_lt (Blk.lt (bz_6.out)))
   replace bel_1 := bB bel_1 hb1443
   replace ra_2 := rB ra_2 hb1443
   replace rb_3 := rB rb_3 hb1443
   replace ba_4 := kB ba_4 hb1443
   replace xb_5 := kB xb_5 hb1443
   replace bz_6 := kB bz_6 hb1443
   replace bo_1441 := kB bo_1441 hb1443
   have x1_1444 := Lib.hid (hox1)
   clear hox1
   refine hK.out _ _ ba_4.out (fun _ => ?_); clear hK K
   try simp only [Act.put, List.setIfInBounds_toArray, List.set_cons_zero, List.set_cons_succ]
   refine wpAnyH_ready (rs := [7]) (by kernel_rfl) (by simp) ?_
   refine rdH rfl (fun K hK => ?_) ?_
   · -- 7: call
    have hm4_ : m ≤ 400 := by have h := HL2.out; have h2 := (rb_3.out).len; omega
    go_simp
    go_at_call 61
    refine (ecopied_any B m j ts _ rb_3.out hm4_).mono ?_
    rintro e w1445 ⟨Bc, dc, rfl, hox2, hb1446⟩
    dsimp only
    have HB2 := Lib.hid (fun (h0 : dc ≠ 0) => OwnsX.gt hox2 (Blk.lt (bo_1441.out)) h0)
    have HD12 := Lib.hid (OwnsX.apart (x1_1444.out) hox2); have HD21 := Lib.hid (OwnsX.apart' (x1_1444.out) hox2)
    have hox2 := OwnsX.base hox2 (show w.heap.size + 1 + 1 + 1 ≤ _ from Nat.succ_le_of_lt (Blk.lt (bz_6.out)))
    replace bel_1 := bB bel_1 hb1446
    replace ra_2 := rB ra_2 hb1446
    replace rb_3 := rB rb_3 hb1446
    replace ba_4 := kB ba_4 hb1446
    replace xb_5 := kB xb_5 hb1446
    replace bz_6 := kB bz_6 hb1446
    replace bo_1441 := kB bo_1441 hb1446
    replace x1_1444 := Lib.hid (OwnsX.below (x1_1444.out) hb1446)
    have x2_1447 := Lib.hid (hox2)
    clear hox2
    refine hK.out _ _ ba_4.out (fun _ => ?_); clear hK K
    try simp only [Act.put, List.setIfInBounds_toArray, List.set_cons_zero, List.set_cons_succ]
    refine' tkH 8 ba_4.out ?hyR1448 ?_
    case hyR1448 => (rintro _ -; go_simp; try with_reducible rfl)
    try simp only [Act.put, List.setIfInBounds_toArray, List.set_cons_zero, List.set_cons_succ]
    refine wpAnyH_ready (rs := [10]) (by kernel_rfl) (by simp) ?_
    refine rdH rfl (fun K hK => ?_) ?_
    · -- 10: store
     have v1449 : (w1445).cell? ⟨g1433, 0, none⟩ = some (.int .i64 0) := Blk.cell (bo_1441.out) 0
     have f1450 : (w1445).frozen? ⟨g1433, 0, none⟩ = false := Blk.frozen (bo_1441.out) 0
     have v1451 : (w1445).cell? ⟨g1433, 1, none⟩ = some (.slice none 0 0) := Blk.cell (bo_1441.out) 1
     have f1452 : (w1445).frozen? ⟨g1433, 1, none⟩ = false := Blk.frozen (bo_1441.out) 1
     have v1453 : (w1445).cell? ⟨g1433, 2, none⟩ = some (.slice none 0 0) := Blk.cell (bo_1441.out) 2
     have f1454 : (w1445).frozen? ⟨g1433, 2, none⟩ = false := Blk.frozen (bo_1441.out) 2
     have hlt_ := Blk.lt (bo_1441.out)
     go_simp
     have k1455 := Lib.hid (Below.setCell (Below.setCell (Below.setCell (bel_1.out) (p := ⟨g1433, 0, none⟩) (lb1437.out) (.int .i64 c)) (p := ⟨g1433, 1, none⟩) (lb1437.out) (.slice Ac n cc)) (p := ⟨g1433, 2, none⟩) (lb1437.out) (.slice Bc m dc))
     have k1456 := Lib.hid (Blk.far (Blk.far (Blk.far (ba_4.out) (p := ⟨g1433, 0, none⟩) (ne1438.out) (.int .i64 c)) (p := ⟨g1433, 1, none⟩) (ne1438.out) (.slice Ac n cc)) (p := ⟨g1433, 2, none⟩) (ne1438.out) (.slice Bc m dc))
     have k1457 := Lib.hid (Blk.far (Blk.far (Blk.far (xb_5.out) (p := ⟨g1433, 0, none⟩) (ne1439.out) (.int .i64 c)) (p := ⟨g1433, 1, none⟩) (ne1439.out) (.slice Ac n cc)) (p := ⟨g1433, 2, none⟩) (ne1439.out) (.slice Bc m dc))
     have k1458 := Lib.hid (Blk.far (Blk.far (Blk.far (bz_6.out) (p := ⟨g1433, 0, none⟩) (ne1440.out) (.int .i64 c)) (p := ⟨g1433, 1, none⟩) (ne1440.out) (.slice Ac n cc)) (p := ⟨g1433, 2, none⟩) (ne1440.out) (.slice Bc m dc))
     have k1459 := Lib.hid (Blk.set_ (Blk.set_ (Blk.set_ (bo_1441.out) 0 (.int .i64 c)) 1 (.slice Ac n cc)) 2 (.slice Bc m dc))
     have k1460 := Lib.hid (OwnsX.far (OwnsX.far (OwnsX.far (x1_1444.out) (a := ⟨g1433, 0, none⟩) (HB1.out) (.int .i64 c)) (a := ⟨g1433, 1, none⟩) (HB1.out) (.slice Ac n cc)) (a := ⟨g1433, 2, none⟩) (HB1.out) (.slice Bc m dc))
     have k1461 := Lib.hid (OwnsX.far (OwnsX.far (OwnsX.far (x2_1447.out) (a := ⟨g1433, 0, none⟩) (HB2.out) (.int .i64 c)) (a := ⟨g1433, 1, none⟩) (HB2.out) (.slice Ac n cc)) (a := ⟨g1433, 2, none⟩) (HB2.out) (.slice Bc m dc))
     obtain ⟨w1462, hw1463⟩ : ∃ w', w' = ((((w1445).setCell ⟨g1433, 0, none⟩ (.int .i64 c)).setCell ⟨g1433, 1, none⟩ (.slice Ac n cc)).setCell ⟨g1433, 2, none⟩ (.slice Bc m dc)) := ⟨_, rfl⟩
     rw [← hw1463] at k1455 k1456 k1457 k1458 k1459 k1460 k1461
     rw [← hw1463]
     clear hw1463 v1449 f1450 v1451 f1452 v1453 f1454 hlt_
     refine hK.out _ _ k1456.out (fun _ => ?_); clear hK K
     try simp only [Act.put, List.setIfInBounds_toArray, List.set_cons_zero, List.set_cons_succ]
     refine wpAnyH_done (by kernel_rfl) ?_ _
     obtain ⟨z_1028, z_1029, z_1030⟩ := at3 k1456
     obtain ⟨z_1031, z_1032, z_1033, z_1034⟩ := at4 k1457
     obtain ⟨z_1035, z_1036, z_1037⟩ := at3 k1458
     obtain ⟨z_1038, z_1039, z_1040⟩ := at3 k1459
     have NB := Lib.hid (Blk.new w1462 30 #[.int .i64 f, .int .i64 t, .int .i64 mm, .int .i64 ib])
     have OX1 := Lib.hid (OwnsX.alloc (k1460.out) (.cells #[.int .i64 f, .int .i64 t, .int .i64 mm, .int .i64 ib] 30))
     have OX2 := Lib.hid (OwnsX.alloc (k1461.out) (.cells #[.int .i64 f, .int .i64 t, .int .i64 mm, .int .i64 ib] 30))
     have BOA := Lib.hid (Blk.alloc (k1459.out) (.cells #[.int .i64 f, .int .i64 t, .int .i64 mm, .int .i64 ib] 30))
     have BZA := Lib.hid (Blk.alloc (k1458.out) (.cells #[.int .i64 f, .int .i64 t, .int .i64 mm, .int .i64 ib] 30))
     have XBA := Lib.hid (Blk.alloc (k1457.out) (.cells #[.int .i64 f, .int .i64 t, .int .i64 mm, .int .i64 ib] 30))
     have BLA := Lib.hid (Below.alloc (k1455.out) ((k1455.out).size) (.cells #[.int .i64 f, .int .i64 t, .int .i64 mm, .int .i64 ib] 30))
     have hsz_ := Nat.succ_le_of_lt (Blk.lt BZA.out); have hbo_ := Blk.lt BOA.out
     have z4_ : (w1462.alloc (.cells #[.int .i64 f, .int .i64 t, .int .i64 mm, .int .i64 ib] 30)).cell? ⟨g1433, 0, none⟩ = some (.int .i64 c) := Blk.cell BOA.out 0
     have hn4_ : n ≤ 400 := HN4.out; have hm4_ : m ≤ 400 := HM4.out
     go_wp2_with (at_builtin; refine wpList_append_X _ rfl (.tmp 34) (.tmp 36) 22 rfl (w.heap.size + 1 + 1 + 1) 30 i0 _ 4 32 Tryz.underlying22 HI.out HZ0.out HZ1.out HZ2.out rfl (by omega) Ac n cc _ rfl OX1.out ⟨w1462.heap.size, 0, none⟩ 1 1 (bcells [⟨f, t, mm, ib⟩]) rfl rfl (cells_add (cs := bcells [⟨f, t, mm, ib⟩]) (show Blk _ _ _ (bcells [⟨f, t, mm, ib⟩]).toArray from NB.out)) (bcells_one _) (by omega) (by unfold maxLen; omega) (by omega) hsz_ ?_; intro g5 c5 w5 hown5 hb5 hg5 hkp5; have HO5 := Lib.hid hown5; have HB5 := Lib.hid hb5; have bo5 := (hkp5 _ hbo_ HB1.out).trans BOA.out; have BO5 := Lib.hid (show Blk w5 g1433 24 #[.int .i64 c, .slice Ac n cc, .slice Bc m dc] from bo5); have RO5 := Lib.hid (rdB_far (rdB_of OX2.out) hkp5 HD12.out hb5.size); clear hown5 hb5 hkp5 bo5; have q0_ : w5.cell? ⟨g1433, 0, none⟩ = some (.int .i64 c) := Blk.cell BO5.out 0; have q1_ : w5.cell? ⟨g1433, 1, none⟩ = some (.slice Ac n cc) := Blk.cell BO5.out 1; have q2_ : w5.cell? ⟨g1433, 2, none⟩ = some (.slice Bc m dc) := Blk.cell BO5.out 2; have q3_ : w5.frozen? ⟨g1433, 1, none⟩ = false := Blk.frozen BO5.out 1)
     have hbz_ : w.heap.size + 1 + 1 ≠ g1433 := ne1440.out; have hlb_ : w.heap.size ≤ g1433 := lb1437.out
     have rdn_ := (OwnB.rd (show OwnB w5 (w.heap.size + 1 + 1 + 1) (some ⟨g5, 0, none⟩) (n + 1) c5 (ws ++ [⟨f, t, mm, ib⟩]) from by have h := HO5.out; rw [← bcells_append] at h; exact h)).1
     have RN := Lib.hid (rdB_setN rdn_ ⟨g1433, 1, none⟩ (.slice (some ⟨g5, 0, none⟩) (n + 1) c5) BO5.out (by intro j x; rcases j with _ | _ | j <;> simp)); have RO := Lib.hid (rdB_setN RO5.out ⟨g1433, 1, none⟩ (.slice (some ⟨g5, 0, none⟩) (n + 1) c5) BO5.out (by intro j x; rcases j with _ | _ | j <;> simp)); clear rdn_
     have BO6 := Lib.hid (Blk.set_ BO5.out 1 (.slice (some ⟨g5, 0, none⟩) (n + 1) c5)); have BZ6 := Lib.hid (Blk.far (Blk.below BZA.out HB5.out (by omega)) (p := ⟨g1433, 1, none⟩) hbz_ (.slice (some ⟨g5, 0, none⟩) (n + 1) c5)); have BL6 := Lib.hid (Below.setCell (Below.trans BLA.out (Below.mono HB5.out (by omega))) (p := ⟨g1433, 1, none⟩) hlb_ (.slice (some ⟨g5, 0, none⟩) (n + 1) c5))
     clear q0_ q1_ q2_ q3_ z4_ hsz_ hbo_ k1458 k1457
     obtain ⟨w6, hw6⟩ : ∃ w', w' = w5.setCell ⟨g1433, 1, none⟩ (.slice (some ⟨g5, 0, none⟩) (n + 1) c5) := ⟨_, rfl⟩
     rw [← hw6] at RN RO BO6 BZ6 BL6 ⊢
     clear hw6
     have hc := CheckOutline_any c (some ⟨g5, 0, none⟩) Bc (n + 1) c5 m dc (ws ++ [⟨f, t, mm, ib⟩]) ts w6 RN.out RO.out (by unfold maxLen; omega) (by unfold maxLen; omega)
     rw [E2.out] at hc
     have HC := Lib.hid hc; clear hc
     refine HC.out.mono ?_
     rintro e w9 ⟨rfl, hb⟩
     clear HC
     have RN9 := Lib.hid (RdB.below RN.out hb); have RO9 := Lib.hid (RdB.below RO.out hb)
     have BO9 := Lib.hid (show Blk w9 g1433 24 #[.int .i64 c, .slice (some ⟨g5, 0, none⟩) (n + 1) c5, .slice Bc m dc] from Blk.keep BO6.out hb); have BZ9 := Lib.hid (show Blk w9 (w.heap.size + 1 + 1) 24 #[.int .i64 0, .slice none 0 0, .slice none 0 0] from Blk.keep BZ6.out hb); have BL9 := Lib.hid (Below.trans BL6.out (Below.mono hb BL6.out.size)); clear RN RO BO6 BZ6 BL6 hb
     have q0_ : w9.cell? ⟨g1433, 0, none⟩ = some (.int .i64 c) := Blk.cell BO9.out 0
     have q1_ : w9.cell? ⟨g1433, 1, none⟩ = some (.slice (some ⟨g5, 0, none⟩) (n + 1) c5) := Blk.cell BO9.out 1
     have q2_ : w9.cell? ⟨g1433, 2, none⟩ = some (.slice Bc m dc) := Blk.cell BO9.out 2
     have y0_ : w9.cell? ⟨w.heap.size + 1 + 1, 0, none⟩ = some (.int .i64 0) := Blk.cell BZ9.out 0
     have f0_ : w9.frozen? ⟨w.heap.size + 1 + 1, 0, none⟩ = false := Blk.frozen BZ9.out 0
     have y1_ : w9.cell? ⟨w.heap.size + 1 + 1, 1, none⟩ = some (.slice none 0 0) := Blk.cell BZ9.out 1
     have f1_ : w9.frozen? ⟨w.heap.size + 1 + 1, 1, none⟩ = false := Blk.frozen BZ9.out 1
     have y2_ : w9.cell? ⟨w.heap.size + 1 + 1, 2, none⟩ = some (.slice none 0 0) := Blk.cell BZ9.out 2
     have f2_ : w9.frozen? ⟨w.heap.size + 1 + 1, 2, none⟩ = false := Blk.frozen BZ9.out 2
     have hlz_ := Blk.lt BZ9.out; have hlo_ := Blk.lt BO9.out
     by_cases hq : q = 0
     · subst hq
       go_wp2
       have bel_ := BL9.out
       refine bodyPost_ret (v := .tuple #[.agg #[.int .i64 c, .slice (some ⟨g5, 0, none⟩) (n + 1) c5, .slice Bc m dc], .int .i64 0]) (by simp [results, Tryz.results18, go_sem, y0_, y1_, y2_, f0_, f1_, f2_]) rfl ?_
       exact ⟨(some ⟨g5, 0, none⟩), (n + 1), c5, Bc, m, dc, rfl, rdB_setN (rdB_setN (rdB_setN (RN9.out) ⟨w.heap.size + 1 + 1, 0, none⟩ (.int .i64 c) (BZ9.out) (by intro j x; rcases j with _ | _ | j <;> simp)) ⟨w.heap.size + 1 + 1, 1, none⟩ (.slice (some ⟨g5, 0, none⟩) (n + 1) c5) (Blk.set_ (BZ9.out) 0 (.int .i64 c)) (by intro j x; rcases j with _ | _ | j <;> simp)) ⟨w.heap.size + 1 + 1, 2, none⟩ (.slice Bc m dc) (Blk.set_ (Blk.set_ (BZ9.out) 0 (.int .i64 c)) 1 (.slice (some ⟨g5, 0, none⟩) (n + 1) c5)) (by intro j x; rcases j with _ | _ | j <;> simp), rdB_setN (rdB_setN (rdB_setN (RO9.out) ⟨w.heap.size + 1 + 1, 0, none⟩ (.int .i64 c) (BZ9.out) (by intro j x; rcases j with _ | _ | j <;> simp)) ⟨w.heap.size + 1 + 1, 1, none⟩ (.slice (some ⟨g5, 0, none⟩) (n + 1) c5) (Blk.set_ (BZ9.out) 0 (.int .i64 c)) (by intro j x; rcases j with _ | _ | j <;> simp)) ⟨w.heap.size + 1 + 1, 2, none⟩ (.slice Bc m dc) (Blk.set_ (Blk.set_ (BZ9.out) 0 (.int .i64 c)) 1 (.slice (some ⟨g5, 0, none⟩) (n + 1) c5)) (by intro j x; rcases j with _ | _ | j <;> simp), by unfold maxLen; omega, by unfold maxLen; omega, (by have hsz_ := Below.size bel_; repeat' (first | with_reducible exact bel_ | with_reducible exact Below.refl _ _ | with_reducible refine Below.alloc ?_ ?_ _ | with_reducible refine Below.setCell ?_ ?_ _ | with_reducible refine Below.drew ?_ | with_reducible refine below_setRow ?_ ?_ _ | omega | (simp; done) | (simp; omega)))⟩
     · have hne : (q != 0) = true := by simpa using hq
       have HQ := Lib.hid hq; clear hq
       go_wp2
       have bel_ := BL9.out
       refine bodyPost_ret (v := .tuple #[.agg #[.int .i64 0, .slice none 0 0, .slice none 0 0], .int .i64 q]) (by simp [results, Tryz.results18, go_sem, y0_, y1_, y2_, f0_, f1_, f2_]) rfl ?_
       exact ⟨none, 0, 0, none, 0, 0, by rw [if_neg HQ.out], by rw [if_neg HQ.out]; exact RdB.nil_ _, by rw [if_neg HQ.out]; exact RdB.nil_ _, by unfold maxLen; omega, by unfold maxLen; omega, (by have hsz_ := Below.size bel_; repeat' (first | with_reducible exact bel_ | with_reducible exact Below.refl _ _ | with_reducible refine Below.alloc ?_ ?_ _ | with_reducible refine Below.setCell ?_ ?_ _ | with_reducible refine Below.drew ?_ | with_reducible refine below_setRow ?_ ?_ _ | omega | (simp; done) | (simp; omega)))⟩
    exact AllReadyH.nil
   exact AllReadyH.nil
  exact AllReadyH.nil
 exact AllReadyH.nil
set_option maxRecDepth 100000 in
set_option maxHeartbeats 4000000 in
theorem With_err (c : Int) (A B : Option Addr) (n k m j : Nat) (ws ts : List Bnd) (w : World) (h1 : RdB w A n k ws) (h2 : RdB w B m j ts) (hn : n ≤ maxLen) (hm : m ≤ maxLen) (u : Bool) (f t mm ib : Int) (q : Int) (HQ : Hid (q ≠ 0)) (hne : (q != 0) = true) (E1 : Hid (chkO ⟨c, ws, ts⟩ = q)) :
 Calls Tryz.prog 18 #[.agg #[.int .i64 c, .slice A n k, .slice B m j], .bool u, .agg #[.int .i64 f, .int .i64 t, .int .i64 mm, .int .i64 ib]] w (RetO q (withO u ⟨c, ws, ts⟩ ⟨f, t, mm, ib⟩) w) := by
  go_enter Tryz.func18, Tryz.ntmps18
  have bel_1 := Lib.hid (show Below w.heap.size w w from Below.refl _ w)
  have ra_2 := Lib.hid (h1)
  clear h1
  have rb_3 := Lib.hid (h2)
  clear h2
  obtain ⟨o_, ho_⟩ : ∃ o, o = ((.cells #[.int .i64 c, .slice A n k, .slice B m j] 24) : Obj) := ⟨_, rfl⟩
  replace bel_1 := bA bel_1 o_
  replace ra_2 := rA ra_2 o_
  replace rb_3 := rA rb_3 o_
  subst ho_
  have ba_4 := Lib.hid (Blk.new w 24 #[.int .i64 c, .slice A n k, .slice B m j])
  obtain ⟨o_, ho_⟩ : ∃ o, o = ((.cells #[.int .i64 f, .int .i64 t, .int .i64 mm, .int .i64 ib] 30) : Obj) := ⟨_, rfl⟩
  replace bel_1 := bA bel_1 o_
  replace ra_2 := rA ra_2 o_
  replace rb_3 := rA rb_3 o_
  replace ba_4 := kA ba_4 o_
  subst ho_
  have nb_ := Blk.new (w.alloc (.cells #[.int .i64 c, .slice A n k, .slice B m j] 24)) 30 #[.int .i64 f, .int .i64 t, .int .i64 mm, .int .i64 ib]
  simp only [World.size_alloc] at nb_
  have xb_5 := Lib.hid nb_; clear nb_
  obtain ⟨o_, ho_⟩ : ∃ o, o = ((.cells #[.int .i64 0, .slice none 0 0, .slice none 0 0] 24) : Obj) := ⟨_, rfl⟩
  replace bel_1 := bA bel_1 o_
  replace ra_2 := rA ra_2 o_
  replace rb_3 := rA rb_3 o_
  replace ba_4 := kA ba_4 o_
  replace xb_5 := kA xb_5 o_
  subst ho_
  have nb_ := Blk.new ((w.alloc (.cells #[.int .i64 c, .slice A n k, .slice B m j] 24)).alloc (.cells #[.int .i64 f, .int .i64 t, .int .i64 mm, .int .i64 ib] 30)) 24 #[.int .i64 0, .slice none 0 0, .slice none 0 0]
  simp only [World.size_alloc] at nb_
  have bz_6 := Lib.hid nb_; clear nb_
  obtain ⟨z_7, z_8, z_9⟩ := at3 ba_4
  obtain ⟨z_10, z_11, z_12, z_13⟩ := at4 xb_5
  obtain ⟨z_14, z_15, z_16⟩ := at3 bz_6
  have hc := CheckOutline_any c A B n k m j ws ts _ ra_2.out rb_3.out hn hm
  rw [E1.out] at hc
  try dsimp only at hc
  have HC := Lib.hid hc; clear hc
  go_wp2_with fail
  refine HC.out.mono ?_
  rintro e w_17 ⟨rfl, hb⟩
  clear HC
  clear z_7 z_8 z_9 z_10 z_11 z_12 z_13 z_14 z_15 z_16
  replace bel_1 := bB bel_1 hb
  replace ra_2 := rB ra_2 hb
  replace rb_3 := rB rb_3 hb
  replace ba_4 := kB ba_4 hb
  replace xb_5 := kB xb_5 hb
  replace bz_6 := kB bz_6 hb
  clear hb
  obtain ⟨z_18, z_19, z_20⟩ := at3 ba_4
  obtain ⟨z_21, z_22, z_23, z_24⟩ := at4 xb_5
  obtain ⟨z_25, z_26, z_27⟩ := at3 bz_6
  have fz_28 : (w_17).frozen? ⟨w.heap.size + 1 + 1, 0, none⟩ = false := Blk.frozen bz_6.out 0
  have fz_29 : (w_17).frozen? ⟨w.heap.size + 1 + 1, 1, none⟩ = false := Blk.frozen bz_6.out 1
  have fz_30 : (w_17).frozen? ⟨w.heap.size + 1 + 1, 2, none⟩ = false := Blk.frozen bz_6.out 2
  have hlb_ := Blk.lt bz_6.out
  have HK := Lib.hid (bel_1.out)
  go_wp2
  have bel_ := HK.out
  refine bodyPost_ret (v := .tuple #[.agg #[.int .i64 0, .slice none 0 0, .slice none 0 0], .int .i64 q]) (by simp [results, Tryz.results18, go_sem, z_18, z_19, z_20, z_21, z_22, z_23, z_24, z_25, z_26, z_27, fz_28, fz_29, fz_30]) rfl ?_
  exact ⟨none, 0, 0, none, 0, 0, by rw [if_neg HQ.out], by rw [if_neg HQ.out]; exact RdB.nil_ _, by rw [if_neg HQ.out]; exact RdB.nil_ _, by unfold maxLen; omega, by unfold maxLen; omega, (by have hsz_ := Below.size bel_; repeat' (first | with_reducible exact bel_ | with_reducible exact Below.refl _ _ | with_reducible refine Below.alloc ?_ ?_ _ | with_reducible refine Below.setCell ?_ ?_ _ | with_reducible refine Below.drew ?_ | with_reducible refine below_setRow ?_ ?_ _ | omega | (simp; done) | (simp; omega)))⟩
set_option maxRecDepth 100000 in
set_option maxHeartbeats 4000000 in
theorem With_any (c : Int) (A B : Option Addr) (n k m j : Nat) (ws ts : List Bnd) (w : World) (h1 : RdB w A n k ws) (h2 : RdB w B m j ts) (hn : n ≤ maxLen) (hm : m ≤ maxLen) (u : Bool) (f t mm ib : Int) :
 Calls Tryz.prog 18 #[.agg #[.int .i64 c, .slice A n k, .slice B m j], .bool u, .agg #[.int .i64 f, .int .i64 t, .int .i64 mm, .int .i64 ib]] w (RetO (withE u ⟨c, ws, ts⟩ ⟨f, t, mm, ib⟩) (withO u ⟨c, ws, ts⟩ ⟨f, t, mm, ib⟩) w) := by
 unfold withE
 obtain ⟨q, hq⟩ : ∃ q, chkO ⟨c, ws, ts⟩ = q := ⟨_, rfl⟩
 rw [hq]
 by_cases h0 : q = 0
 · subst h0
   rw [if_neg (by simp)]
   cases u
   · exact With_ok0 c A B n k m j ws ts w h1 h2 hn hm f t mm ib (Lib.hid hq) _ (Lib.hid rfl)
   · exact With_ok1 c A B n k m j ws ts w h1 h2 hn hm f t mm ib (Lib.hid hq) _ (Lib.hid rfl)
 · rw [if_pos h0]
   exact With_err c A B n k m j ws ts w h1 h2 hn hm u f t mm ib q (Lib.hid h0) (by simpa using h0) (Lib.hid hq)
end Go.Proofs.YtaoanagmgheicaaGreat
