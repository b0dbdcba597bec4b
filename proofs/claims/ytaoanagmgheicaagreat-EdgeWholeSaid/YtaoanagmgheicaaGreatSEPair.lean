import Derived.Test.YtaoanagmgheicaaGreatSESys
set_option linter.unusedSimpArgs false
set_option linter.unusedVariables false
namespace Go.Proofs.YtaoanagmgheicaaGreat
open Go.RowKit
theorem isStretch_any (f t c : Int) (w : World) : Calls Tryz.prog 71 #[.agg #[.int .i64 f, .int .i64 t], .int .i64 c] w fun e w' => e = .returned (.bool (isStr f t c)) ∧ Below w.heap.size w w' := by
 by_cases h1 : 0 ≤ f
 · by_cases h2 : f < t
   · go_enter Tryz.func71, Tryz.ntmps71
     go_wp2
     go_ret
     exact ⟨by simp [isStr, h1, h2], (by (repeat (first | exact Below.refl _ _ | refine Below.drew ?_ | refine Below.alloc ?_ (by simp) _)))⟩
   · go_enter Tryz.func71, Tryz.ntmps71
     go_wp2
     go_ret
     exact ⟨ret_bool (Bool.eq_iff_iff.2 (by simp [isStr]; omega)), (by (repeat (first | exact Below.refl _ _ | refine Below.drew ?_ | refine Below.alloc ?_ (by simp) _)))⟩
 · go_enter Tryz.func71, Tryz.ntmps71
   go_wp2
   go_ret
   exact ⟨ret_bool (Bool.eq_iff_iff.2 (by simp [isStr]; omega)), (by (repeat (first | exact Below.refl _ _ | refine Below.drew ?_ | refine Below.alloc ?_ (by simp) _)))⟩
theorem isStretch_is (f t c : Int) (b : Bool) (h : isStr f t c = b) (w : World) : Calls Tryz.prog 71 #[.agg #[.int .i64 f, .int .i64 t], .int .i64 c] w fun e w' => e = .returned (.bool b) ∧ Below w.heap.size w w' := by
 subst h
 exact isStretch_any f t c w
theorem sides_any (f t : Int) (w : World) (h : 0 ≤ f) (h2 : t ≤ 1000) (h3 : 0 ≤ t) (h4 : f ≤ 1000) : Calls Tryz.prog 72 #[.agg #[.int .i64 f, .int .i64 t]] w fun e w' => e = .returned (.int .i64 (t - f)) ∧ Below w.heap.size w w' := by
 go_enter Tryz.func72, Tryz.ntmps72
 go_wp2
 go_ret
 exact ⟨rfl, (by (repeat (first | exact Below.refl _ _ | refine Below.drew ?_ | refine Below.alloc ?_ (by simp) _)))⟩
set_option maxRecDepth 100000 in
set_option maxHeartbeats 2000000 in
theorem checkOutlines_any (c : Int) (A B : Option Addr) (n k m j : Nat) (ws ts : List Bnd) (d : Int) (C D : Option Addr) (n2 k2 m2 j2 : Nat) (ws2 ts2 : List Bnd) (w : World) (h1 : RdB w A n k ws) (h2 : RdB w B m j ts) (hn : n ≤ maxLen) (hm : m ≤ maxLen) (h3 : RdB w C n2 k2 ws2) (h4 : RdB w D m2 j2 ts2) (hn2 : n2 ≤ maxLen) (hm2 : m2 ≤ maxLen) :
 Calls Tryz.prog 70 #[.agg #[.int .i64 c, .slice A n k, .slice B m j], .agg #[.int .i64 d, .slice C n2 k2, .slice D m2 j2]] w fun e w' => e = .returned (.int .i64 (chkOO ⟨c, ws, ts⟩ ⟨d, ws2, ts2⟩)) ∧ Below w.heap.size w w' := by
 obtain ⟨q, hq⟩ : ∃ q, chkO ⟨c, ws, ts⟩ = q := ⟨_, rfl⟩
 obtain ⟨q2, hq2⟩ : ∃ q, chkO ⟨d, ws2, ts2⟩ = q := ⟨_, rfl⟩
 unfold chkOO
 rw [hq, hq2]
 have E1 := Lib.hid hq; have E2 := Lib.hid hq2; clear hq hq2
 by_cases h0 : q = 0
 · rw [if_neg (by simpa using h0)]
   subst h0
   go_enter Tryz.func70, Tryz.ntmps70
   have bel_1 := Lib.hid (show Below w.heap.size w w from Below.refl _ w)
   have ra_2 := Lib.hid (h1)
   clear h1
   have rb_3 := Lib.hid (h2)
   clear h2
   have rc_4 := Lib.hid (h3)
   clear h3
   have rd_5 := Lib.hid (h4)
   clear h4
   obtain ⟨o_, ho_⟩ : ∃ o, o = ((.cells #[.int .i64 c, .slice A n k, .slice B m j] 24) : Obj) := ⟨_, rfl⟩
   replace bel_1 := bA bel_1 o_
   replace ra_2 := rA ra_2 o_
   replace rb_3 := rA rb_3 o_
   replace rc_4 := rA rc_4 o_
   replace rd_5 := rA rd_5 o_
   subst ho_
   have ba_6 := Lib.hid (Blk.new w 24 #[.int .i64 c, .slice A n k, .slice B m j])
   obtain ⟨o_, ho_⟩ : ∃ o, o = ((.cells #[.int .i64 d, .slice C n2 k2, .slice D m2 j2] 24) : Obj) := ⟨_, rfl⟩
   replace bel_1 := bA bel_1 o_
   replace ra_2 := rA ra_2 o_
   replace rb_3 := rA rb_3 o_
   replace rc_4 := rA rc_4 o_
   replace rd_5 := rA rd_5 o_
   replace ba_6 := kA ba_6 o_
   subst ho_
   have nb_ := Blk.new (w.alloc (.cells #[.int .i64 c, .slice A n k, .slice B m j] 24)) 24 #[.int .i64 d, .slice C n2 k2, .slice D m2 j2]
   simp only [World.size_alloc] at nb_
   have bb_7 := Lib.hid nb_; clear nb_
   obtain ⟨z_8, z_9, z_10⟩ := at3 ba_6
   obtain ⟨z_11, z_12, z_13⟩ := at3 bb_7
   have hc := CheckOutline_any c A B n k m j ws ts _ ra_2.out rb_3.out hn hm
   rw [E1.out] at hc
   try dsimp only at hc
   have HC := Lib.hid hc; clear hc
   go_wp2_with fail
   refine HC.out.mono ?_
   rintro e w_14 ⟨rfl, hb⟩
   clear HC
   clear z_8 z_9 z_10 z_11 z_12 z_13
   replace bel_1 := bB bel_1 hb
   replace ra_2 := rB ra_2 hb
   replace rb_3 := rB rb_3 hb
   replace rc_4 := rB rc_4 hb
   replace rd_5 := rB rd_5 hb
   replace ba_6 := kB ba_6 hb
   replace bb_7 := kB bb_7 hb
   clear hb
   obtain ⟨z_15, z_16, z_17⟩ := at3 ba_6
   obtain ⟨z_18, z_19, z_20⟩ := at3 bb_7
   have hc := CheckOutline_any d C D n2 k2 m2 j2 ws2 ts2 _ rc_4.out rd_5.out hn2 hm2
   rw [E2.out] at hc
   try dsimp only at hc
   have HC := Lib.hid hc; clear hc
   go_wp2_with fail
   refine HC.out.mono ?_
   rintro e w_21 ⟨rfl, hb⟩
   clear HC
   clear z_15 z_16 z_17 z_18 z_19 z_20
   replace bel_1 := bB bel_1 hb
   replace ra_2 := rB ra_2 hb
   replace rb_3 := rB rb_3 hb
   replace rc_4 := rB rc_4 hb
   replace rd_5 := rB rd_5 hb
   replace ba_6 := kB ba_6 hb
   replace bb_7 := kB bb_7 hb
   clear hb
   obtain ⟨z_22, z_23, z_24⟩ := at3 ba_6
   obtain ⟨z_25, z_26, z_27⟩ := at3 bb_7
   go_wp2
   go_ret
   exact ⟨rfl, bel_1.out⟩
 · rw [if_pos h0]
   have hne : (q != 0) = true := by simpa using h0
   clear h0
   go_enter Tryz.func70, Tryz.ntmps70
   have bel_1 := Lib.hid (show Below w.heap.size w w from Below.refl _ w)
   have ra_2 := Lib.hid (h1)
   clear h1
   have rb_3 := Lib.hid (h2)
   clear h2
   have rc_4 := Lib.hid (h3)
   clear h3
   have rd_5 := Lib.hid (h4)
   clear h4
   obtain ⟨o_, ho_⟩ : ∃ o, o = ((.cells #[.int .i64 c, .slice A n k, .slice B m j] 24) : Obj) := ⟨_, rfl⟩
   replace bel_1 := bA bel_1 o_
   replace ra_2 := rA ra_2 o_
   replace rb_3 := rA rb_3 o_
   replace rc_4 := rA rc_4 o_
   replace rd_5 := rA rd_5 o_
   subst ho_
   have ba_6 := Lib.hid (Blk.new w 24 #[.int .i64 c, .slice A n k, .slice B m j])
   obtain ⟨o_, ho_⟩ : ∃ o, o = ((.cells #[.int .i64 d, .slice C n2 k2, .slice D m2 j2] 24) : Obj) := ⟨_, rfl⟩
   replace bel_1 := bA bel_1 o_
   replace ra_2 := rA ra_2 o_
   replace rb_3 := rA rb_3 o_
   replace rc_4 := rA rc_4 o_
   replace rd_5 := rA rd_5 o_
   replace ba_6 := kA ba_6 o_
   subst ho_
   have nb_ := Blk.new (w.alloc (.cells #[.int .i64 c, .slice A n k, .slice B m j] 24)) 24 #[.int .i64 d, .slice C n2 k2, .slice D m2 j2]
   simp only [World.size_alloc] at nb_
   have bb_7 := Lib.hid nb_; clear nb_
   obtain ⟨z_8, z_9, z_10⟩ := at3 ba_6
   obtain ⟨z_11, z_12, z_13⟩ := at3 bb_7
   have hc := CheckOutline_any c A B n k m j ws ts _ ra_2.out rb_3.out hn hm
   rw [E1.out] at hc
   try dsimp only at hc
   have HC := Lib.hid hc; clear hc
   go_wp2_with fail
   refine HC.out.mono ?_
   rintro e w_14 ⟨rfl, hb⟩
   clear HC
   clear z_8 z_9 z_10 z_11 z_12 z_13
   replace bel_1 := bB bel_1 hb
   replace ra_2 := rB ra_2 hb
   replace rb_3 := rB rb_3 hb
   replace rc_4 := rB rc_4 hb
   replace rd_5 := rB rd_5 hb
   replace ba_6 := kB ba_6 hb
   replace bb_7 := kB bb_7 hb
   clear hb
   obtain ⟨z_15, z_16, z_17⟩ := at3 ba_6
   obtain ⟨z_18, z_19, z_20⟩ := at3 bb_7
   go_wp2
   go_ret
   exact ⟨rfl, bel_1.out⟩
set_option maxRecDepth 100000 in
set_option maxHeartbeats 2000000 in
theorem CheckPairing_any (c : Int) (A B : Option Addr) (n k m j : Nat) (ws ts : List Bnd) (d : Int) (C D : Option Addr) (n2 k2 m2 j2 : Nat) (ws2 ts2 : List Bnd) (p1 p2 p3 p4 : Int) (w : World) (h1 : RdB w A n k ws) (h2 : RdB w B m j ts) (hn : n ≤ maxLen) (hm : m ≤ maxLen) (h3 : RdB w C n2 k2 ws2) (h4 : RdB w D m2 j2 ts2) (hn2 : n2 ≤ maxLen) (hm2 : m2 ≤ maxLen) :
 Calls Tryz.prog 24 #[.agg #[.int .i64 c, .slice A n k, .slice B m j], .agg #[.int .i64 d, .slice C n2 k2, .slice D m2 j2], .agg #[.int .i64 p1, .int .i64 p2, .int .i64 p3, .int .i64 p4]] w fun e w' => e = .returned (.int .i64 (chkP ⟨c, ws, ts⟩ ⟨d, ws2, ts2⟩ ⟨p1, p2, p3, p4⟩)) ∧ Below w.heap.size w w' := by
 obtain ⟨q, hq⟩ : ∃ q, chkOO ⟨c, ws, ts⟩ ⟨d, ws2, ts2⟩ = q := ⟨_, rfl⟩
 unfold chkP
 rw [hq]
 have HQ := Lib.hid hq
 have E1 := Lib.hid hq; clear hq
 by_cases h0 : q = 0
 · subst h0
   rw [if_neg (by simp)]
   obtain ⟨o1, o2⟩ := chkOO_ok HQ.out
   have o1 := chkO_ok o1; have o2 := chkO_ok o2
   dsimp only at o1 o2
   have g1 := o1.2.1; have g2 := o2.2.1
   clear o1 o2 HQ
   dsimp only
   cases hs1 : isStr p1 p2 c
   · rw [if_pos rfl]
     have E2 := Lib.hid hs1; clear hs1
     go_enter Tryz.func24, Tryz.ntmps24
     have bel_1 := Lib.hid (show Below w.heap.size w w from Below.refl _ w)
     have ra_2 := Lib.hid (h1)
     clear h1
     have rb_3 := Lib.hid (h2)
     clear h2
     have rc_4 := Lib.hid (h3)
     clear h3
     have rd_5 := Lib.hid (h4)
     clear h4
     obtain ⟨o_, ho_⟩ : ∃ o, o = ((.cells #[.int .i64 c, .slice A n k, .slice B m j] 24) : Obj) := ⟨_, rfl⟩
     replace bel_1 := bA bel_1 o_
     replace ra_2 := rA ra_2 o_
     replace rb_3 := rA rb_3 o_
     replace rc_4 := rA rc_4 o_
     replace rd_5 := rA rd_5 o_
     subst ho_
     have ba_6 := Lib.hid (Blk.new w 24 #[.int .i64 c, .slice A n k, .slice B m j])
     obtain ⟨o_, ho_⟩ : ∃ o, o = ((.cells #[.int .i64 d, .slice C n2 k2, .slice D m2 j2] 24) : Obj) := ⟨_, rfl⟩
     replace bel_1 := bA bel_1 o_
     replace ra_2 := rA ra_2 o_
     replace rb_3 := rA rb_3 o_
     replace rc_4 := rA rc_4 o_
     replace rd_5 := rA rd_5 o_
     replace ba_6 := kA ba_6 o_
     subst ho_
     have nb_ := Blk.new (w.alloc (.cells #[.int .i64 c, .slice A n k, .slice B m j] 24)) 24 #[.int .i64 d, .slice C n2 k2, .slice D m2 j2]
     simp only [World.size_alloc] at nb_
     have bb_7 := Lib.hid nb_; clear nb_
     obtain ⟨o_, ho_⟩ : ∃ o, o = ((.cells #[.int .i64 p1, .int .i64 p2, .int .i64 p3, .int .i64 p4] 28) : Obj) := ⟨_, rfl⟩
     replace bel_1 := bA bel_1 o_
     replace ra_2 := rA ra_2 o_
     replace rb_3 := rA rb_3 o_
     replace rc_4 := rA rc_4 o_
     replace rd_5 := rA rd_5 o_
     replace ba_6 := kA ba_6 o_
     replace bb_7 := kA bb_7 o_
     subst ho_
     have nb_ := Blk.new ((w.alloc (.cells #[.int .i64 c, .slice A n k, .slice B m j] 24)).alloc (.cells #[.int .i64 d, .slice C n2 k2, .slice D m2 j2] 24)) 28 #[.int .i64 p1, .int .i64 p2, .int .i64 p3, .int .i64 p4]
     simp only [World.size_alloc] at nb_
     have bp_8 := Lib.hid nb_; clear nb_
     obtain ⟨z_9, z_10, z_11⟩ := at3 ba_6
     obtain ⟨z_12, z_13, z_14⟩ := at3 bb_7
     obtain ⟨z_15, z_16, z_17, z_18⟩ := at4 bp_8
     have hc := checkOutlines_any c A B n k m j ws ts d C D n2 k2 m2 j2 ws2 ts2 _ ra_2.out rb_3.out hn hm rc_4.out rd_5.out hn2 hm2
     rw [E1.out] at hc
     try dsimp only at hc
     have HC := Lib.hid hc; clear hc
     go_wp2_with fail
     refine HC.out.mono ?_
     rintro e w_19 ⟨rfl, hb⟩
     clear HC
     clear z_9 z_10 z_11 z_12 z_13 z_14 z_15 z_16 z_17 z_18
     replace bel_1 := bB bel_1 hb
     replace ra_2 := rB ra_2 hb
     replace rb_3 := rB rb_3 hb
     replace rc_4 := rB rc_4 hb
     replace rd_5 := rB rd_5 hb
     replace ba_6 := kB ba_6 hb
     replace bb_7 := kB bb_7 hb
     replace bp_8 := kB bp_8 hb
     clear hb
     obtain ⟨z_20, z_21, z_22⟩ := at3 ba_6
     obtain ⟨z_23, z_24, z_25⟩ := at3 bb_7
     obtain ⟨z_26, z_27, z_28, z_29⟩ := at4 bp_8
     have hc := isStretch_is p1 p2 c _ E2.out (w_19)
     have HC := Lib.hid hc; clear hc
     go_wp2_with fail
     refine HC.out.mono ?_
     rintro e w_30 ⟨rfl, hb⟩
     clear HC
     clear z_20 z_21 z_22 z_23 z_24 z_25 z_26 z_27 z_28 z_29
     replace bel_1 := bB bel_1 hb
     replace ra_2 := rB ra_2 hb
     replace rb_3 := rB rb_3 hb
     replace rc_4 := rB rc_4 hb
     replace rd_5 := rB rd_5 hb
     replace ba_6 := kB ba_6 hb
     replace bb_7 := kB bb_7 hb
     replace bp_8 := kB bp_8 hb
     clear hb
     obtain ⟨z_31, z_32, z_33⟩ := at3 ba_6
     obtain ⟨z_34, z_35, z_36⟩ := at3 bb_7
     obtain ⟨z_37, z_38, z_39, z_40⟩ := at4 bp_8
     go_wp2
     go_ret
     exact ⟨rfl, bel_1.out⟩
   · rw [if_neg (by simp)]
     have i1 := isStr_ok hs1
     have E2 := Lib.hid hs1; clear hs1
     cases hs2 : isStr p3 p4 d
     · rw [if_pos rfl]
       have E3 := Lib.hid hs2; clear hs2
       go_enter Tryz.func24, Tryz.ntmps24
       have bel_1 := Lib.hid (show Below w.heap.size w w from Below.refl _ w)
       have ra_2 := Lib.hid (h1)
       clear h1
       have rb_3 := Lib.hid (h2)
       clear h2
       have rc_4 := Lib.hid (h3)
       clear h3
       have rd_5 := Lib.hid (h4)
       clear h4
       obtain ⟨o_, ho_⟩ : ∃ o, o = ((.cells #[.int .i64 c, .slice A n k, .slice B m j] 24) : Obj) := ⟨_, rfl⟩
       replace bel_1 := bA bel_1 o_
       replace ra_2 := rA ra_2 o_
       replace rb_3 := rA rb_3 o_
       replace rc_4 := rA rc_4 o_
       replace rd_5 := rA rd_5 o_
       subst ho_
       have ba_6 := Lib.hid (Blk.new w 24 #[.int .i64 c, .slice A n k, .slice B m j])
       obtain ⟨o_, ho_⟩ : ∃ o, o = ((.cells #[.int .i64 d, .slice C n2 k2, .slice D m2 j2] 24) : Obj) := ⟨_, rfl⟩
       replace bel_1 := bA bel_1 o_
       replace ra_2 := rA ra_2 o_
       replace rb_3 := rA rb_3 o_
       replace rc_4 := rA rc_4 o_
       replace rd_5 := rA rd_5 o_
       replace ba_6 := kA ba_6 o_
       subst ho_
       have nb_ := Blk.new (w.alloc (.cells #[.int .i64 c, .slice A n k, .slice B m j] 24)) 24 #[.int .i64 d, .slice C n2 k2, .slice D m2 j2]
       simp only [World.size_alloc] at nb_
       have bb_7 := Lib.hid nb_; clear nb_
       obtain ⟨o_, ho_⟩ : ∃ o, o = ((.cells #[.int .i64 p1, .int .i64 p2, .int .i64 p3, .int .i64 p4] 28) : Obj) := ⟨_, rfl⟩
       replace bel_1 := bA bel_1 o_
       replace ra_2 := rA ra_2 o_
       replace rb_3 := rA rb_3 o_
       replace rc_4 := rA rc_4 o_
       replace rd_5 := rA rd_5 o_
       replace ba_6 := kA ba_6 o_
       replace bb_7 := kA bb_7 o_
       subst ho_
       have nb_ := Blk.new ((w.alloc (.cells #[.int .i64 c, .slice A n k, .slice B m j] 24)).alloc (.cells #[.int .i64 d, .slice C n2 k2, .slice D m2 j2] 24)) 28 #[.int .i64 p1, .int .i64 p2, .int .i64 p3, .int .i64 p4]
       simp only [World.size_alloc] at nb_
       have bp_8 := Lib.hid nb_; clear nb_
       obtain ⟨z_9, z_10, z_11⟩ := at3 ba_6
       obtain ⟨z_12, z_13, z_14⟩ := at3 bb_7
       obtain ⟨z_15, z_16, z_17, z_18⟩ := at4 bp_8
       have hc := checkOutlines_any c A B n k m j ws ts d C D n2 k2 m2 j2 ws2 ts2 _ ra_2.out rb_3.out hn hm rc_4.out rd_5.out hn2 hm2
       rw [E1.out] at hc
       try dsimp only at hc
       have HC := Lib.hid hc; clear hc
       go_wp2_with fail
       refine HC.out.mono ?_
       rintro e w_19 ⟨rfl, hb⟩
       clear HC
       clear z_9 z_10 z_11 z_12 z_13 z_14 z_15 z_16 z_17 z_18
       replace bel_1 := bB bel_1 hb
       replace ra_2 := rB ra_2 hb
       replace rb_3 := rB rb_3 hb
       replace rc_4 := rB rc_4 hb
       replace rd_5 := rB rd_5 hb
       replace ba_6 := kB ba_6 hb
       replace bb_7 := kB bb_7 hb
       replace bp_8 := kB bp_8 hb
       clear hb
       obtain ⟨z_20, z_21, z_22⟩ := at3 ba_6
       obtain ⟨z_23, z_24, z_25⟩ := at3 bb_7
       obtain ⟨z_26, z_27, z_28, z_29⟩ := at4 bp_8
       have hc := isStretch_is p1 p2 c _ E2.out (w_19)
       have HC := Lib.hid hc; clear hc
       go_wp2_with fail
       refine HC.out.mono ?_
       rintro e w_30 ⟨rfl, hb⟩
       clear HC
       clear z_20 z_21 z_22 z_23 z_24 z_25 z_26 z_27 z_28 z_29
       replace bel_1 := bB bel_1 hb
       replace ra_2 := rB ra_2 hb
       replace rb_3 := rB rb_3 hb
       replace rc_4 := rB rc_4 hb
       replace rd_5 := rB rd_5 hb
       replace ba_6 := kB ba_6 hb
       replace bb_7 := kB bb_7 hb
       replace bp_8 := kB bp_8 hb
       clear hb
       obtain ⟨z_31, z_32, z_33⟩ := at3 ba_6
       obtain ⟨z_34, z_35, z_36⟩ := at3 bb_7
       obtain ⟨z_37, z_38, z_39, z_40⟩ := at4 bp_8
       have hc := isStretch_is p3 p4 d _ E3.out (w_30)
       have HC := Lib.hid hc; clear hc
       go_wp2_with fail
       refine HC.out.mono ?_
       rintro e w_41 ⟨rfl, hb⟩
       clear HC
       clear z_31 z_32 z_33 z_34 z_35 z_36 z_37 z_38 z_39 z_40
       replace bel_1 := bB bel_1 hb
       replace ra_2 := rB ra_2 hb
       replace rb_3 := rB rb_3 hb
       replace rc_4 := rB rc_4 hb
       replace rd_5 := rB rd_5 hb
       replace ba_6 := kB ba_6 hb
       replace bb_7 := kB bb_7 hb
       replace bp_8 := kB bp_8 hb
       clear hb
       obtain ⟨z_42, z_43, z_44⟩ := at3 ba_6
       obtain ⟨z_45, z_46, z_47⟩ := at3 bb_7
       obtain ⟨z_48, z_49, z_50, z_51⟩ := at4 bp_8
       go_wp2
       go_ret
       exact ⟨rfl, bel_1.out⟩
     · rw [if_neg (by simp)]
       have i2 := isStr_ok hs2
       have E3 := Lib.hid hs2; clear hs2
       by_cases hk : p2 - p1 = p4 - p3
       · rw [if_neg (by simpa using hk)]
         have hkb : (p2 - p1 != p4 - p3) = false := by simpa using hk
         clear hk
         go_enter Tryz.func24, Tryz.ntmps24
         have bel_1 := Lib.hid (show Below w.heap.size w w from Below.refl _ w)
         have ra_2 := Lib.hid (h1)
         clear h1
         have rb_3 := Lib.hid (h2)
         clear h2
         have rc_4 := Lib.hid (h3)
         clear h3
         have rd_5 := Lib.hid (h4)
         clear h4
         obtain ⟨o_, ho_⟩ : ∃ o, o = ((.cells #[.int .i64 c, .slice A n k, .slice B m j] 24) : Obj) := ⟨_, rfl⟩
         replace bel_1 := bA bel_1 o_
         replace ra_2 := rA ra_2 o_
         replace rb_3 := rA rb_3 o_
         replace rc_4 := rA rc_4 o_
         replace rd_5 := rA rd_5 o_
         subst ho_
         have ba_6 := Lib.hid (Blk.new w 24 #[.int .i64 c, .slice A n k, .slice B m j])
         obtain ⟨o_, ho_⟩ : ∃ o, o = ((.cells #[.int .i64 d, .slice C n2 k2, .slice D m2 j2] 24) : Obj) := ⟨_, rfl⟩
         replace bel_1 := bA bel_1 o_
         replace ra_2 := rA ra_2 o_
         replace rb_3 := rA rb_3 o_
         replace rc_4 := rA rc_4 o_
         replace rd_5 := rA rd_5 o_
         replace ba_6 := kA ba_6 o_
         subst ho_
         have nb_ := Blk.new (w.alloc (.cells #[.int .i64 c, .slice A n k, .slice B m j] 24)) 24 #[.int .i64 d, .slice C n2 k2, .slice D m2 j2]
         simp only [World.size_alloc] at nb_
         have bb_7 := Lib.hid nb_; clear nb_
         obtain ⟨o_, ho_⟩ : ∃ o, o = ((.cells #[.int .i64 p1, .int .i64 p2, .int .i64 p3, .int .i64 p4] 28) : Obj) := ⟨_, rfl⟩
         replace bel_1 := bA bel_1 o_
         replace ra_2 := rA ra_2 o_
         replace rb_3 := rA rb_3 o_
         replace rc_4 := rA rc_4 o_
         replace rd_5 := rA rd_5 o_
         replace ba_6 := kA ba_6 o_
         replace bb_7 := kA bb_7 o_
         subst ho_
         have nb_ := Blk.new ((w.alloc (.cells #[.int .i64 c, .slice A n k, .slice B m j] 24)).alloc (.cells #[.int .i64 d, .slice C n2 k2, .slice D m2 j2] 24)) 28 #[.int .i64 p1, .int .i64 p2, .int .i64 p3, .int .i64 p4]
         simp only [World.size_alloc] at nb_
         have bp_8 := Lib.hid nb_; clear nb_
         obtain ⟨z_9, z_10, z_11⟩ := at3 ba_6
         obtain ⟨z_12, z_13, z_14⟩ := at3 bb_7
         obtain ⟨z_15, z_16, z_17, z_18⟩ := at4 bp_8
         have hc := checkOutlines_any c A B n k m j ws ts d C D n2 k2 m2 j2 ws2 ts2 _ ra_2.out rb_3.out hn hm rc_4.out rd_5.out hn2 hm2
         rw [E1.out] at hc
         try dsimp only at hc
         have HC := Lib.hid hc; clear hc
         go_wp2_with fail
         refine HC.out.mono ?_
         rintro e w_19 ⟨rfl, hb⟩
         clear HC
         clear z_9 z_10 z_11 z_12 z_13 z_14 z_15 z_16 z_17 z_18
         replace bel_1 := bB bel_1 hb
         replace ra_2 := rB ra_2 hb
         replace rb_3 := rB rb_3 hb
         replace rc_4 := rB rc_4 hb
         replace rd_5 := rB rd_5 hb
         replace ba_6 := kB ba_6 hb
         replace bb_7 := kB bb_7 hb
         replace bp_8 := kB bp_8 hb
         clear hb
         obtain ⟨z_20, z_21, z_22⟩ := at3 ba_6
         obtain ⟨z_23, z_24, z_25⟩ := at3 bb_7
         obtain ⟨z_26, z_27, z_28, z_29⟩ := at4 bp_8
         have hc := isStretch_is p1 p2 c _ E2.out (w_19)
         have HC := Lib.hid hc; clear hc
         go_wp2_with fail
         refine HC.out.mono ?_
         rintro e w_30 ⟨rfl, hb⟩
         clear HC
         clear z_20 z_21 z_22 z_23 z_24 z_25 z_26 z_27 z_28 z_29
         replace bel_1 := bB bel_1 hb
         replace ra_2 := rB ra_2 hb
         replace rb_3 := rB rb_3 hb
         replace rc_4 := rB rc_4 hb
         replace rd_5 := rB rd_5 hb
         replace ba_6 := kB ba_6 hb
         replace bb_7 := kB bb_7 hb
         replace bp_8 := kB bp_8 hb
         clear hb
         obtain ⟨z_31, z_32, z_33⟩ := at3 ba_6
         obtain ⟨z_34, z_35, z_36⟩ := at3 bb_7
         obtain ⟨z_37, z_38, z_39, z_40⟩ := at4 bp_8
         have hc := isStretch_is p3 p4 d _ E3.out (w_30)
         have HC := Lib.hid hc; clear hc
         go_wp2_with fail
         refine HC.out.mono ?_
         rintro e w_41 ⟨rfl, hb⟩
         clear HC
         clear z_31 z_32 z_33 z_34 z_35 z_36 z_37 z_38 z_39 z_40
         replace bel_1 := bB bel_1 hb
         replace ra_2 := rB ra_2 hb
         replace rb_3 := rB rb_3 hb
         replace rc_4 := rB rc_4 hb
         replace rd_5 := rB rd_5 hb
         replace ba_6 := kB ba_6 hb
         replace bb_7 := kB bb_7 hb
         replace bp_8 := kB bp_8 hb
         clear hb
         obtain ⟨z_42, z_43, z_44⟩ := at3 ba_6
         obtain ⟨z_45, z_46, z_47⟩ := at3 bb_7
         obtain ⟨z_48, z_49, z_50, z_51⟩ := at4 bp_8
         go_wp2_with fail
         clear z_42 z_43 z_44 z_45 z_46 z_47 z_48 z_49 z_50 z_51
         replace bel_1 := bD bel_1
         replace ra_2 := rD ra_2
         replace rb_3 := rD rb_3
         replace rc_4 := rD rc_4
         replace rd_5 := rD rd_5
         replace ba_6 := kD ba_6
         replace bb_7 := kD bb_7
         replace bp_8 := kD bp_8
         refine wp_region_held_drew (S := (fun W' => Blk W' (w.heap.size + 1 + 1) 28 #[.int .i64 p1, .int .i64 p2, .int .i64 p3, .int .i64 p4])) (by kernel_rfl) bp_8.out (fun _ => ?_)
         obtain ⟨w1, hw2⟩ : ∃ w', w' = (w_41.drew) := ⟨_, rfl⟩
         rw [← hw2] at bel_1 ra_2 rb_3 rc_4 rd_5 ba_6 bb_7 bp_8
         rw [← hw2]
         clear hw2
         refine' tkH 0 bp_8.out ?hyR3 ?_
         case hyR3 => (rintro _ -; go_simp; try with_reducible rfl)
         refine' tkH 1 bp_8.out ?hyR4 ?_
         case hyR4 => (rintro W' hS0; have hc0 := Blk.nth hS0 0; have hc1 := Blk.nth hS0 1; clear hS0; go_simp; try with_reducible rfl)
         refine' tkH 3 bp_8.out ?hyR5 ?_
         case hyR5 => (rintro _ -; go_simp; try with_reducible rfl)
         refine' tkH 4 bp_8.out ?hyR6 ?_
         case hyR6 => (rintro W' hS0; have hc0 := Blk.nth hS0 2; have hc1 := Blk.nth hS0 3; clear hS0; go_simp; try with_reducible rfl)
         try simp only [Act.put, List.setIfInBounds_toArray, List.set_cons_zero, List.set_cons_succ]
         refine wpAnyH_ready (rs := [2]) (by kernel_rfl) (by simp) ?_
         refine rdH rfl (fun K hK => ?_) ?_
         · -- 2: call
          go_simp
          go_at_call 72
          refine (sides_any p1 p2 _ (by omega) (by omega) (by omega) (by omega)).mono ?_
          rintro e w7 ⟨rfl, hb8⟩
          dsimp only
          replace bel_1 := bB bel_1 hb8
          replace ra_2 := rB ra_2 hb8
          replace rb_3 := rB rb_3 hb8
          replace rc_4 := rB rc_4 hb8
          replace rd_5 := rB rd_5 hb8
          replace ba_6 := kB ba_6 hb8
          replace bb_7 := kB bb_7 hb8
          replace bp_8 := kB bp_8 hb8
          refine hK.out _ _ bp_8.out (fun _ => ?_); clear hK K
          try simp only [Act.put, List.setIfInBounds_toArray, List.set_cons_zero, List.set_cons_succ]
          refine wpAnyH_ready (rs := [5]) (by kernel_rfl) (by simp) ?_
          refine rdH rfl (fun K hK => ?_) ?_
          · -- 5: call
           go_simp
           go_at_call 72
           refine (sides_any p3 p4 _ (by omega) (by omega) (by omega) (by omega)).mono ?_
           rintro e w9 ⟨rfl, hb10⟩
           dsimp only
           replace bel_1 := bB bel_1 hb10
           replace ra_2 := rB ra_2 hb10
           replace rb_3 := rB rb_3 hb10
           replace rc_4 := rB rc_4 hb10
           replace rd_5 := rB rd_5 hb10
           replace ba_6 := kB ba_6 hb10
           replace bb_7 := kB bb_7 hb10
           replace bp_8 := kB bp_8 hb10
           refine hK.out _ _ bp_8.out (fun _ => ?_); clear hK K
           try simp only [Act.put, List.setIfInBounds_toArray, List.set_cons_zero, List.set_cons_succ]
           refine' tkH 6 bp_8.out ?hyR11 ?_
           case hyR11 => (rintro _ -; go_simp; try with_reducible rfl)
           try simp only [Act.put, List.setIfInBounds_toArray, List.set_cons_zero, List.set_cons_succ]
           refine wpAnyH_done (by kernel_rfl) ?_ _
           go_wp2
           go_ret
           exact ⟨rfl, bel_1.out⟩
          exact AllReadyH.nil
         exact AllReadyH.nil
       · rw [if_pos hk]
         have hkb : (p2 - p1 != p4 - p3) = true := by simpa using hk
         clear hk
         go_enter Tryz.func24, Tryz.ntmps24
         have bel_1 := Lib.hid (show Below w.heap.size w w from Below.refl _ w)
         have ra_2 := Lib.hid (h1)
         clear h1
         have rb_3 := Lib.hid (h2)
         clear h2
         have rc_4 := Lib.hid (h3)
         clear h3
         have rd_5 := Lib.hid (h4)
         clear h4
         obtain ⟨o_, ho_⟩ : ∃ o, o = ((.cells #[.int .i64 c, .slice A n k, .slice B m j] 24) : Obj) := ⟨_, rfl⟩
         replace bel_1 := bA bel_1 o_
         replace ra_2 := rA ra_2 o_
         replace rb_3 := rA rb_3 o_
         replace rc_4 := rA rc_4 o_
         replace rd_5 := rA rd_5 o_
         subst ho_
         have ba_6 := Lib.hid (Blk.new w 24 #[.int .i64 c, .slice A n k, .slice B m j])
         obtain ⟨o_, ho_⟩ : ∃ o, o = ((.cells #[.int .i64 d, .slice C n2 k2, .slice D m2 j2] 24) : Obj) := ⟨_, rfl⟩
         replace bel_1 := bA bel_1 o_
         replace ra_2 := rA ra_2 o_
         replace rb_3 := rA rb_3 o_
         replace rc_4 := rA rc_4 o_
         replace rd_5 := rA rd_5 o_
         replace ba_6 := kA ba_6 o_
         subst ho_
         have nb_ := Blk.new (w.alloc (.cells #[.int .i64 c, .slice A n k, .slice B m j] 24)) 24 #[.int .i64 d, .slice C n2 k2, .slice D m2 j2]
         simp only [World.size_alloc] at nb_
         have bb_7 := Lib.hid nb_; clear nb_
         obtain ⟨o_, ho_⟩ : ∃ o, o = ((.cells #[.int .i64 p1, .int .i64 p2, .int .i64 p3, .int .i64 p4] 28) : Obj) := ⟨_, rfl⟩
         replace bel_1 := bA bel_1 o_
         replace ra_2 := rA ra_2 o_
         replace rb_3 := rA rb_3 o_
         replace rc_4 := rA rc_4 o_
         replace rd_5 := rA rd_5 o_
         replace ba_6 := kA ba_6 o_
         replace bb_7 := kA bb_7 o_
         subst ho_
         have nb_ := Blk.new ((w.alloc (.cells #[.int .i64 c, .slice A n k, .slice B m j] 24)).alloc (.cells #[.int .i64 d, .slice C n2 k2, .slice D m2 j2] 24)) 28 #[.int .i64 p1, .int .i64 p2, .int .i64 p3, .int .i64 p4]
         simp only [World.size_alloc] at nb_
         have bp_8 := Lib.hid nb_; clear nb_
         obtain ⟨z_9, z_10, z_11⟩ := at3 ba_6
         obtain ⟨z_12, z_13, z_14⟩ := at3 bb_7
         obtain ⟨z_15, z_16, z_17, z_18⟩ := at4 bp_8
         have hc := checkOutlines_any c A B n k m j ws ts d C D n2 k2 m2 j2 ws2 ts2 _ ra_2.out rb_3.out hn hm rc_4.out rd_5.out hn2 hm2
         rw [E1.out] at hc
         try dsimp only at hc
         have HC := Lib.hid hc; clear hc
         go_wp2_with fail
         refine HC.out.mono ?_
         rintro e w_19 ⟨rfl, hb⟩
         clear HC
         clear z_9 z_10 z_11 z_12 z_13 z_14 z_15 z_16 z_17 z_18
         replace bel_1 := bB bel_1 hb
         replace ra_2 := rB ra_2 hb
         replace rb_3 := rB rb_3 hb
         replace rc_4 := rB rc_4 hb
         replace rd_5 := rB rd_5 hb
         replace ba_6 := kB ba_6 hb
         replace bb_7 := kB bb_7 hb
         replace bp_8 := kB bp_8 hb
         clear hb
         obtain ⟨z_20, z_21, z_22⟩ := at3 ba_6
         obtain ⟨z_23, z_24, z_25⟩ := at3 bb_7
         obtain ⟨z_26, z_27, z_28, z_29⟩ := at4 bp_8
         have hc := isStretch_is p1 p2 c _ E2.out (w_19)
         have HC := Lib.hid hc; clear hc
         go_wp2_with fail
         refine HC.out.mono ?_
         rintro e w_30 ⟨rfl, hb⟩
         clear HC
         clear z_20 z_21 z_22 z_23 z_24 z_25 z_26 z_27 z_28 z_29
         replace bel_1 := bB bel_1 hb
         replace ra_2 := rB ra_2 hb
         replace rb_3 := rB rb_3 hb
         replace rc_4 := rB rc_4 hb
         replace rd_5 := rB rd_5 hb
         replace ba_6 := kB ba_6 hb
         replace bb_7 := kB bb_7 hb
         replace bp_8 := kB bp_8 hb
         clear hb
         obtain ⟨z_31, z_32, z_33⟩ := at3 ba_6
         obtain ⟨z_34, z_35, z_36⟩ := at3 bb_7
         obtain ⟨z_37, z_38, z_39, z_40⟩ := at4 bp_8
         have hc := isStretch_is p3 p4 d _ E3.out (w_30)
         have HC := Lib.hid hc; clear hc
         go_wp2_with fail
         refine HC.out.mono ?_
         rintro e w_41 ⟨rfl, hb⟩
         clear HC
         clear z_31 z_32 z_33 z_34 z_35 z_36 z_37 z_38 z_39 z_40
         replace bel_1 := bB bel_1 hb
         replace ra_2 := rB ra_2 hb
         replace rb_3 := rB rb_3 hb
         replace rc_4 := rB rc_4 hb
         replace rd_5 := rB rd_5 hb
         replace ba_6 := kB ba_6 hb
         replace bb_7 := kB bb_7 hb
         replace bp_8 := kB bp_8 hb
         clear hb
         obtain ⟨z_42, z_43, z_44⟩ := at3 ba_6
         obtain ⟨z_45, z_46, z_47⟩ := at3 bb_7
         obtain ⟨z_48, z_49, z_50, z_51⟩ := at4 bp_8
         go_wp2_with fail
         clear z_42 z_43 z_44 z_45 z_46 z_47 z_48 z_49 z_50 z_51
         replace bel_1 := bD bel_1
         replace ra_2 := rD ra_2
         replace rb_3 := rD rb_3
         replace rc_4 := rD rc_4
         replace rd_5 := rD rd_5
         replace ba_6 := kD ba_6
         replace bb_7 := kD bb_7
         replace bp_8 := kD bp_8
         refine wp_region_held_drew (S := (fun W' => Blk W' (w.heap.size + 1 + 1) 28 #[.int .i64 p1, .int .i64 p2, .int .i64 p3, .int .i64 p4])) (by kernel_rfl) bp_8.out (fun _ => ?_)
         obtain ⟨w12, hw13⟩ : ∃ w', w' = (w_41.drew) := ⟨_, rfl⟩
         rw [← hw13] at bel_1 ra_2 rb_3 rc_4 rd_5 ba_6 bb_7 bp_8
         rw [← hw13]
         clear hw13
         refine' tkH 0 bp_8.out ?hyR14 ?_
         case hyR14 => (rintro _ -; go_simp; try with_reducible rfl)
         refine' tkH 1 bp_8.out ?hyR15 ?_
         case hyR15 => (rintro W' hS0; have hc0 := Blk.nth hS0 0; have hc1 := Blk.nth hS0 1; clear hS0; go_simp; try with_reducible rfl)
         refine' tkH 3 bp_8.out ?hyR16 ?_
         case hyR16 => (rintro _ -; go_simp; try with_reducible rfl)
         refine' tkH 4 bp_8.out ?hyR17 ?_
         case hyR17 => (rintro W' hS0; have hc0 := Blk.nth hS0 2; have hc1 := Blk.nth hS0 3; clear hS0; go_simp; try with_reducible rfl)
         try simp only [Act.put, List.setIfInBounds_toArray, List.set_cons_zero, List.set_cons_succ]
         refine wpAnyH_ready (rs := [2]) (by kernel_rfl) (by simp) ?_
         refine rdH rfl (fun K hK => ?_) ?_
         · -- 2: call
          go_simp
          go_at_call 72
          refine (sides_any p1 p2 _ (by omega) (by omega) (by omega) (by omega)).mono ?_
          rintro e w18 ⟨rfl, hb19⟩
          dsimp only
          replace bel_1 := bB bel_1 hb19
          replace ra_2 := rB ra_2 hb19
          replace rb_3 := rB rb_3 hb19
          replace rc_4 := rB rc_4 hb19
          replace rd_5 := rB rd_5 hb19
          replace ba_6 := kB ba_6 hb19
          replace bb_7 := kB bb_7 hb19
          replace bp_8 := kB bp_8 hb19
          refine hK.out _ _ bp_8.out (fun _ => ?_); clear hK K
          try simp only [Act.put, List.setIfInBounds_toArray, List.set_cons_zero, List.set_cons_succ]
          refine wpAnyH_ready (rs := [5]) (by kernel_rfl) (by simp) ?_
          refine rdH rfl (fun K hK => ?_) ?_
          · -- 5: call
           go_simp
           go_at_call 72
           refine (sides_any p3 p4 _ (by omega) (by omega) (by omega) (by omega)).mono ?_
           rintro e w20 ⟨rfl, hb21⟩
           dsimp only
           replace bel_1 := bB bel_1 hb21
           replace ra_2 := rB ra_2 hb21
           replace rb_3 := rB rb_3 hb21
           replace rc_4 := rB rc_4 hb21
           replace rd_5 := rB rd_5 hb21
           replace ba_6 := kB ba_6 hb21
           replace bb_7 := kB bb_7 hb21
           replace bp_8 := kB bp_8 hb21
           refine hK.out _ _ bp_8.out (fun _ => ?_); clear hK K
           try simp only [Act.put, List.setIfInBounds_toArray, List.set_cons_zero, List.set_cons_succ]
           refine' tkH 6 bp_8.out ?hyR22 ?_
           case hyR22 => (rintro _ -; go_simp; try with_reducible rfl)
           try simp only [Act.put, List.setIfInBounds_toArray, List.set_cons_zero, List.set_cons_succ]
           refine wpAnyH_done (by kernel_rfl) ?_ _
           go_wp2
           go_ret
           exact ⟨rfl, bel_1.out⟩
          exact AllReadyH.nil
         exact AllReadyH.nil
 · rw [if_pos h0]
   have hne : (q != 0) = true := by simpa using h0
   clear h0
   go_enter Tryz.func24, Tryz.ntmps24
   have bel_1 := Lib.hid (show Below w.heap.size w w from Below.refl _ w)
   have ra_2 := Lib.hid (h1)
   clear h1
   have rb_3 := Lib.hid (h2)
   clear h2
   have rc_4 := Lib.hid (h3)
   clear h3
   have rd_5 := Lib.hid (h4)
   clear h4
   obtain ⟨o_, ho_⟩ : ∃ o, o = ((.cells #[.int .i64 c, .slice A n k, .slice B m j] 24) : Obj) := ⟨_, rfl⟩
   replace bel_1 := bA bel_1 o_
   replace ra_2 := rA ra_2 o_
   replace rb_3 := rA rb_3 o_
   replace rc_4 := rA rc_4 o_
   replace rd_5 := rA rd_5 o_
   subst ho_
   have ba_6 := Lib.hid (Blk.new w 24 #[.int .i64 c, .slice A n k, .slice B m j])
   obtain ⟨o_, ho_⟩ : ∃ o, o = ((.cells #[.int .i64 d, .slice C n2 k2, .slice D m2 j2] 24) : Obj) := ⟨_, rfl⟩
   replace bel_1 := bA bel_1 o_
   replace ra_2 := rA ra_2 o_
   replace rb_3 := rA rb_3 o_
   replace rc_4 := rA rc_4 o_
   replace rd_5 := rA rd_5 o_
   replace ba_6 := kA ba_6 o_
   subst ho_
   have nb_ := Blk.new (w.alloc (.cells #[.int .i64 c, .slice A n k, .slice B m j] 24)) 24 #[.int .i64 d, .slice C n2 k2, .slice D m2 j2]
   simp only [World.size_alloc] at nb_
   have bb_7 := Lib.hid nb_; clear nb_
   obtain ⟨o_, ho_⟩ : ∃ o, o = ((.cells #[.int .i64 p1, .int .i64 p2, .int .i64 p3, .int .i64 p4] 28) : Obj) := ⟨_, rfl⟩
   replace bel_1 := bA bel_1 o_
   replace ra_2 := rA ra_2 o_
   replace rb_3 := rA rb_3 o_
   replace rc_4 := rA rc_4 o_
   replace rd_5 := rA rd_5 o_
   replace ba_6 := kA ba_6 o_
   replace bb_7 := kA bb_7 o_
   subst ho_
   have nb_ := Blk.new ((w.alloc (.cells #[.int .i64 c, .slice A n k, .slice B m j] 24)).alloc (.cells #[.int .i64 d, .slice C n2 k2, .slice D m2 j2] 24)) 28 #[.int .i64 p1, .int .i64 p2, .int .i64 p3, .int .i64 p4]
   simp only [World.size_alloc] at nb_
   have bp_8 := Lib.hid nb_; clear nb_
   obtain ⟨z_9, z_10, z_11⟩ := at3 ba_6
   obtain ⟨z_12, z_13, z_14⟩ := at3 bb_7
   obtain ⟨z_15, z_16, z_17, z_18⟩ := at4 bp_8
   have hc := checkOutlines_any c A B n k m j ws ts d C D n2 k2 m2 j2 ws2 ts2 _ ra_2.out rb_3.out hn hm rc_4.out rd_5.out hn2 hm2
   rw [E1.out] at hc
   try dsimp only at hc
   have HC := Lib.hid hc; clear hc
   go_wp2_with fail
   refine HC.out.mono ?_
   rintro e w_19 ⟨rfl, hb⟩
   clear HC
   clear z_9 z_10 z_11 z_12 z_13 z_14 z_15 z_16 z_17 z_18
   replace bel_1 := bB bel_1 hb
   replace ra_2 := rB ra_2 hb
   replace rb_3 := rB rb_3 hb
   replace rc_4 := rB rc_4 hb
   replace rd_5 := rB rd_5 hb
   replace ba_6 := kB ba_6 hb
   replace bb_7 := kB bb_7 hb
   replace bp_8 := kB bp_8 hb
   clear hb
   obtain ⟨z_20, z_21, z_22⟩ := at3 ba_6
   obtain ⟨z_23, z_24, z_25⟩ := at3 bb_7
   obtain ⟨z_26, z_27, z_28, z_29⟩ := at4 bp_8
   go_wp2
   go_ret
   exact ⟨rfl, bel_1.out⟩
end Go.Proofs.YtaoanagmgheicaaGreat
