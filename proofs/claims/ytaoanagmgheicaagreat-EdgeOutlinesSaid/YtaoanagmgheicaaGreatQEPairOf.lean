import Derived.Test.YtaoanagmgheicaaGreatQEPair
set_option maxHeartbeats 2000000
set_option linter.unusedSimpArgs false
set_option linter.unusedVariables false
namespace Go.Proofs.YtaoanagmgheicaaGreat
open Go.RowKit
theorem chkP_lens {a b : Otl} {p : Prg} (h : chkP a b p = 0) : a.ws.length ≤ 400 ∧ a.ts.length ≤ 400 ∧ b.ws.length ≤ 400 ∧ b.ts.length ≤ 400 := by
 obtain ⟨oa, ob, -⟩ := chkP_ok h
 obtain ⟨a1, a2, a3, a4⟩ := chkO_ok oa
 obtain ⟨b1, b2, b3, b4⟩ := chkO_ok ob
 exact ⟨(chk_ok a3).2.2.1, (chk_ok a4).2.2.1, (chk_ok b3).2.2.1, (chk_ok b4).2.2.1⟩
set_option maxRecDepth 100000 in
theorem areLarge_any (c : Int) (A B : Option Addr) (n k m j : Nat) (ws ts : List Bnd) (d : Int) (C D : Option Addr) (n2 k2 m2 j2 : Nat) (ws2 ts2 : List Bnd) (w : World) (hl : ws.length = n ∧ ts.length = m ∧ ws2.length = n2 ∧ ts2.length = m2) (h4 : ws.length ≤ 400 ∧ ts.length ≤ 400 ∧ ws2.length ≤ 400 ∧ ts2.length ≤ 400) :
 Calls Tryz.prog 114 #[.agg #[.int .i64 c, .slice A n k, .slice B m j], .agg #[.int .i64 d, .slice C n2 k2, .slice D m2 j2]] w fun e w' => e = .returned (.bool (large ⟨c, ws, ts⟩ ⟨d, ws2, ts2⟩)) ∧ Below w.heap.size w w' := by
 obtain ⟨l1, l2, l3, l4⟩ := hl
 obtain ⟨g1, g2, g3, g4⟩ := h4
 rw [l1] at g1; rw [l2] at g2; rw [l3] at g3; rw [l4] at g4
 have hq : large ⟨c, ws, ts⟩ ⟨d, ws2, ts2⟩ = (decide (400 < n + n2) || decide (400 < m + m2)) := by unfold large; rw [← l1, ← l2, ← l3, ← l4]
 rw [hq]
 clear hq l1 l2 l3 l4
 by_cases h1 : n + n2 ≤ 400
 · by_cases h2 : m + m2 ≤ 400
   · have e : (decide (400 < n + n2) || decide (400 < m + m2)) = false := by simp; omega
     rw [e]; clear e
     go_enter Tryz.func114, Tryz.ntmps114
     obtain ⟨ba_1, bb_2, bel_3⟩ := ent2 w #[.int .i64 c, .slice A n k, .slice B m j] 24 #[.int .i64 d, .slice C n2 k2, .slice D m2 j2] 24
     obtain ⟨z_4, z_5, z_6⟩ := at3 ba_1
     obtain ⟨z_7, z_8, z_9⟩ := at3 bb_2
     go_wp2
     go_ret
     exact ⟨ret_bool (Bool.eq_iff_iff.2 (by simp; try omega)), bel_3.out⟩
   · have e : (decide (400 < n + n2) || decide (400 < m + m2)) = true := by simp; omega
     rw [e]; clear e
     go_enter Tryz.func114, Tryz.ntmps114
     obtain ⟨ba_1, bb_2, bel_3⟩ := ent2 w #[.int .i64 c, .slice A n k, .slice B m j] 24 #[.int .i64 d, .slice C n2 k2, .slice D m2 j2] 24
     obtain ⟨z_4, z_5, z_6⟩ := at3 ba_1
     obtain ⟨z_7, z_8, z_9⟩ := at3 bb_2
     go_wp2
     go_ret
     exact ⟨ret_bool (Bool.eq_iff_iff.2 (by simp; try omega)), bel_3.out⟩
 · have e : (decide (400 < n + n2) || decide (400 < m + m2)) = true := by simp; omega
   rw [e]; clear e
   go_enter Tryz.func114, Tryz.ntmps114
   obtain ⟨ba_1, bb_2, bel_3⟩ := ent2 w #[.int .i64 c, .slice A n k, .slice B m j] 24 #[.int .i64 d, .slice C n2 k2, .slice D m2 j2] 24
   obtain ⟨z_4, z_5, z_6⟩ := at3 ba_1
   obtain ⟨z_7, z_8, z_9⟩ := at3 bb_2
   go_wp2
   go_ret
   exact ⟨ret_bool (Bool.eq_iff_iff.2 (by simp; try omega)), bel_3.out⟩
set_option maxRecDepth 100000 in
theorem pairOf_yes (c : Int) (A B : Option Addr) (n k m j : Nat) (ws ts : List Bnd) (d : Int) (C D : Option Addr) (n2 k2 m2 j2 : Nat) (ws2 ts2 : List Bnd) (p1 p2 p3 p4 : Int) (w : World) (h1 : RdB w A n k ws) (h2 : RdB w B m j ts) (hn : n ≤ maxLen) (hm : m ≤ maxLen) (h3 : RdB w C n2 k2 ws2) (h4 : RdB w D m2 j2 ts2) (hn2 : n2 ≤ maxLen) (hm2 : m2 ≤ maxLen) (h0 : asked ⟨c, ws, ts⟩ ⟨d, ws2, ts2⟩ ⟨p1, p2, p3, p4⟩ = 0) :
 Calls Tryz.prog 76 #[.agg #[.int .i64 c, .slice A n k, .slice B m j], .agg #[.int .i64 d, .slice C n2 k2, .slice D m2 j2], .agg #[.int .i64 p1, .int .i64 p2, .int .i64 p3, .int .i64 p4]] w fun e w' => e = .returned (.tuple #[.agg #[.int .i64 c, .slice A n k, .slice B m j, .int .i64 d, .slice C n2 k2, .slice D m2 j2, .int .i64 p1, .int .i64 p2, .int .i64 p3, .int .i64 p4], .int .i64 0]) ∧ Below w.heap.size w w' := by
 unfold asked at h0
 split at h0
 · rename_i h1; exact absurd h0 h1
 · rename_i h1
   split at h0
   · cases h0
   · rename_i h2
     have E1 := Lib.hid (show chkP ⟨c, ws, ts⟩ ⟨d, ws2, ts2⟩ ⟨p1, p2, p3, p4⟩ = 0 by simpa using h1); have E2 := Lib.hid (show large ⟨c, ws, ts⟩ ⟨d, ws2, ts2⟩ = false by simpa using h2); clear h0 h1 h2
     go_enter Tryz.func76, Tryz.ntmps76
     have bel_1 := Lib.hid (show Below w.heap.size w w from Below.refl _ w)
     have ra_2 := Lib.hid (h1)
     clear h1
     have rb_3 := Lib.hid (h2)
     clear h2
     have rc_4 := Lib.hid (h3)
     clear h3
     have rd_5 := Lib.hid (h4)
     clear h4
     obtain ⟨o_, ho_⟩ : ∃ o, o = ((.cells #[.int .i64 c, .slice A n k, .slice B m j] 24) : Obj) := ⟨_, rfl⟩
     replace bel_1 := bA bel_1 o_
     replace ra_2 := rA ra_2 o_
     replace rb_3 := rA rb_3 o_
     replace rc_4 := rA rc_4 o_
     replace rd_5 := rA rd_5 o_
     subst ho_
     have ba_6 := Lib.hid (Blk.new w 24 #[.int .i64 c, .slice A n k, .slice B m j])
     obtain ⟨o_, ho_⟩ : ∃ o, o = ((.cells #[.int .i64 d, .slice C n2 k2, .slice D m2 j2] 24) : Obj) := ⟨_, rfl⟩
     replace bel_1 := bA bel_1 o_
     replace ra_2 := rA ra_2 o_
     replace rb_3 := rA rb_3 o_
     replace rc_4 := rA rc_4 o_
     replace rd_5 := rA rd_5 o_
     replace ba_6 := kA ba_6 o_
     subst ho_
     have nb_ := Blk.new (w.alloc (.cells #[.int .i64 c, .slice A n k, .slice B m j] 24)) 24 #[.int .i64 d, .slice C n2 k2, .slice D m2 j2]
     simp only [World.size_alloc] at nb_
     have bb_7 := Lib.hid nb_; clear nb_
     obtain ⟨o_, ho_⟩ : ∃ o, o = ((.cells #[.int .i64 p1, .int .i64 p2, .int .i64 p3, .int .i64 p4] 28) : Obj) := ⟨_, rfl⟩
     replace bel_1 := bA bel_1 o_
     replace ra_2 := rA ra_2 o_
     replace rb_3 := rA rb_3 o_
     replace rc_4 := rA rc_4 o_
     replace rd_5 := rA rd_5 o_
     replace ba_6 := kA ba_6 o_
     replace bb_7 := kA bb_7 o_
     subst ho_
     have nb_ := Blk.new ((w.alloc (.cells #[.int .i64 c, .slice A n k, .slice B m j] 24)).alloc (.cells #[.int .i64 d, .slice C n2 k2, .slice D m2 j2] 24)) 28 #[.int .i64 p1, .int .i64 p2, .int .i64 p3, .int .i64 p4]
     simp only [World.size_alloc] at nb_
     have bp_8 := Lib.hid nb_; clear nb_
     obtain ⟨o_, ho_⟩ : ∃ o, o = ((.cells #[.int .i64 0, .slice none 0 0, .slice none 0 0, .int .i64 0, .slice none 0 0, .slice none 0 0, .int .i64 0, .int .i64 0, .int .i64 0, .int .i64 0] 101) : Obj) := ⟨_, rfl⟩
     replace bel_1 := bA bel_1 o_
     replace ra_2 := rA ra_2 o_
     replace rb_3 := rA rb_3 o_
     replace rc_4 := rA rc_4 o_
     replace rd_5 := rA rd_5 o_
     replace ba_6 := kA ba_6 o_
     replace bb_7 := kA bb_7 o_
     replace bp_8 := kA bp_8 o_
     subst ho_
     have nb_ := Blk.new (((w.alloc (.cells #[.int .i64 c, .slice A n k, .slice B m j] 24)).alloc (.cells #[.int .i64 d, .slice C n2 k2, .slice D m2 j2] 24)).alloc (.cells #[.int .i64 p1, .int .i64 p2, .int .i64 p3, .int .i64 p4] 28)) 101 #[.int .i64 0, .slice none 0 0, .slice none 0 0, .int .i64 0, .slice none 0 0, .slice none 0 0, .int .i64 0, .int .i64 0, .int .i64 0, .int .i64 0]
     simp only [World.size_alloc] at nb_
     have bz_9 := Lib.hid nb_; clear nb_
     have la := ra_2.out.len
     have lb := rb_3.out.len
     have lc := rc_4.out.len
     have ld := rd_5.out.len
     obtain ⟨z_10, z_11, z_12⟩ := at3 ba_6
     obtain ⟨z_13, z_14, z_15⟩ := at3 bb_7
     obtain ⟨z_16, z_17, z_18, z_19⟩ := at4 bp_8
     obtain ⟨z_20, z_21, z_22, z_23, z_24, z_25, z_26, z_27, z_28, z_29⟩ := at10 bz_9
     have hc := CheckPairing_any c A B n k m j ws ts d C D n2 k2 m2 j2 ws2 ts2 p1 p2 p3 p4 _ ra_2.out rb_3.out hn hm rc_4.out rd_5.out hn2 hm2
     rw [E1.out] at hc
     try dsimp only at hc
     have HC := Lib.hid hc; clear hc
     go_wp2_with fail
     refine HC.out.mono ?_
     rintro e w_30 ⟨rfl, hb⟩
     clear HC
     clear z_10 z_11 z_12 z_13 z_14 z_15 z_16 z_17 z_18 z_19 z_20 z_21 z_22 z_23 z_24 z_25 z_26 z_27 z_28 z_29
     have hb_31 := Lib.hid hb
     clear hb
     replace ba_6 := kH ba_6 hb_31
     obtain ⟨z_32, z_33, z_34⟩ := at3 ba_6
     replace bb_7 := kH bb_7 hb_31
     obtain ⟨z_35, z_36, z_37⟩ := at3 bb_7
     replace bp_8 := kH bp_8 hb_31
     obtain ⟨z_38, z_39, z_40, z_41⟩ := at4 bp_8
     replace bz_9 := kH bz_9 hb_31
     obtain ⟨z_42, z_43, z_44, z_45, z_46, z_47, z_48, z_49, z_50, z_51⟩ := at10 bz_9
     have hc := areLarge_any c A B n k m j ws ts d C D n2 k2 m2 j2 ws2 ts2 (w_30) ⟨la, lb, lc, ld⟩ (chkP_lens E1.out)
     rw [E2.out] at hc
     try dsimp only at hc
     have HC := Lib.hid hc; clear hc
     go_wp2_with fail
     refine HC.out.mono ?_
     rintro e w_52 ⟨rfl, hb⟩
     clear HC
     clear z_32 z_33 z_34 z_35 z_36 z_37 z_38 z_39 z_40 z_41 z_42 z_43 z_44 z_45 z_46 z_47 z_48 z_49 z_50 z_51
     have hb_53 := Lib.hid hb
     clear hb
     replace ba_6 := kH ba_6 hb_53
     obtain ⟨z_54, z_55, z_56⟩ := at3 ba_6
     replace bb_7 := kH bb_7 hb_53
     obtain ⟨z_57, z_58, z_59⟩ := at3 bb_7
     replace bp_8 := kH bp_8 hb_53
     obtain ⟨z_60, z_61, z_62, z_63⟩ := at4 bp_8
     replace bz_9 := kH bz_9 hb_53
     obtain ⟨z_64, z_65, z_66, z_67, z_68, z_69, z_70, z_71, z_72, z_73⟩ := at10 bz_9
     clear la lb lc ld
     have fz_74 : (w_52).frozen? ⟨w.heap.size + 1 + 1 + 1, 0, none⟩ = false := Blk.frozen bz_9.out 0
     have fz_75 : (w_52).frozen? ⟨w.heap.size + 1 + 1 + 1, 1, none⟩ = false := Blk.frozen bz_9.out 1
     have fz_76 : (w_52).frozen? ⟨w.heap.size + 1 + 1 + 1, 2, none⟩ = false := Blk.frozen bz_9.out 2
     have fz_77 : (w_52).frozen? ⟨w.heap.size + 1 + 1 + 1, 3, none⟩ = false := Blk.frozen bz_9.out 3
     have fz_78 : (w_52).frozen? ⟨w.heap.size + 1 + 1 + 1, 4, none⟩ = false := Blk.frozen bz_9.out 4
     have fz_79 : (w_52).frozen? ⟨w.heap.size + 1 + 1 + 1, 5, none⟩ = false := Blk.frozen bz_9.out 5
     have fz_80 : (w_52).frozen? ⟨w.heap.size + 1 + 1 + 1, 6, none⟩ = false := Blk.frozen bz_9.out 6
     have fz_81 : (w_52).frozen? ⟨w.heap.size + 1 + 1 + 1, 7, none⟩ = false := Blk.frozen bz_9.out 7
     have fz_82 : (w_52).frozen? ⟨w.heap.size + 1 + 1 + 1, 8, none⟩ = false := Blk.frozen bz_9.out 8
     have fz_83 : (w_52).frozen? ⟨w.heap.size + 1 + 1 + 1, 9, none⟩ = false := Blk.frozen bz_9.out 9
     replace bel_1 := bH (bH bel_1 hb_31) hb_53
     have bl_84 := bel_1.out
     go_wp2
     refine bodyPost_ret (v := .tuple #[.agg #[.int .i64 c, .slice A n k, .slice B m j, .int .i64 d, .slice C n2 k2, .slice D m2 j2, .int .i64 p1, .int .i64 p2, .int .i64 p3, .int .i64 p4], .int .i64 0]) (by simp [results, Tryz.results76, go_sem, z_54, z_55, z_56, z_57, z_58, z_59, z_60, z_61, z_62, z_63, z_64, z_65, z_66, z_67, z_68, z_69, z_70, z_71, z_72, z_73, fz_74, fz_75, fz_76, fz_77, fz_78, fz_79, fz_80, fz_81, fz_82, fz_83]) rfl ⟨rfl, (by have hsz_ := Below.size bl_84; repeat' (first | with_reducible exact bl_84 | with_reducible exact Below.refl _ _ | with_reducible refine Below.alloc ?_ ?_ _ | with_reducible refine Below.setCell ?_ ?_ _ | with_reducible refine Below.drew ?_ | with_reducible refine below_setRow ?_ ?_ _ | omega | (simp; done) | (simp; omega)))⟩
set_option maxRecDepth 100000 in
theorem pairOf_no (c : Int) (A B : Option Addr) (n k m j : Nat) (ws ts : List Bnd) (d : Int) (C D : Option Addr) (n2 k2 m2 j2 : Nat) (ws2 ts2 : List Bnd) (p1 p2 p3 p4 : Int) (w : World) (h1 : RdB w A n k ws) (h2 : RdB w B m j ts) (hn : n ≤ maxLen) (hm : m ≤ maxLen) (h3 : RdB w C n2 k2 ws2) (h4 : RdB w D m2 j2 ts2) (hn2 : n2 ≤ maxLen) (hm2 : m2 ≤ maxLen) (q : Int) (h0 : asked ⟨c, ws, ts⟩ ⟨d, ws2, ts2⟩ ⟨p1, p2, p3, p4⟩ = q) (hne : q ≠ 0) :
 Calls Tryz.prog 76 #[.agg #[.int .i64 c, .slice A n k, .slice B m j], .agg #[.int .i64 d, .slice C n2 k2, .slice D m2 j2], .agg #[.int .i64 p1, .int .i64 p2, .int .i64 p3, .int .i64 p4]] w fun e w' => e = .returned (.tuple #[.agg #[.int .i64 0, .slice none 0 0, .slice none 0 0, .int .i64 0, .slice none 0 0, .slice none 0 0, .int .i64 0, .int .i64 0, .int .i64 0, .int .i64 0], .int .i64 q]) ∧ Below w.heap.size w w' := by
 unfold asked at h0
 split at h0
 · have E1 := Lib.hid h0; clear h0
   have hq : (q != 0) = true := by simpa using hne
   clear hne
   rename_i h1; clear h1
   go_enter Tryz.func76, Tryz.ntmps76
   have bel_1 := Lib.hid (show Below w.heap.size w w from Below.refl _ w)
   have ra_2 := Lib.hid (h1)
   clear h1
   have rb_3 := Lib.hid (h2)
   clear h2
   have rc_4 := Lib.hid (h3)
   clear h3
   have rd_5 := Lib.hid (h4)
   clear h4
   obtain ⟨o_, ho_⟩ : ∃ o, o = ((.cells #[.int .i64 c, .slice A n k, .slice B m j] 24) : Obj) := ⟨_, rfl⟩
   replace bel_1 := bA bel_1 o_
   replace ra_2 := rA ra_2 o_
   replace rb_3 := rA rb_3 o_
   replace rc_4 := rA rc_4 o_
   replace rd_5 := rA rd_5 o_
   subst ho_
   have ba_6 := Lib.hid (Blk.new w 24 #[.int .i64 c, .slice A n k, .slice B m j])
   obtain ⟨o_, ho_⟩ : ∃ o, o = ((.cells #[.int .i64 d, .slice C n2 k2, .slice D m2 j2] 24) : Obj) := ⟨_, rfl⟩
   replace bel_1 := bA bel_1 o_
   replace ra_2 := rA ra_2 o_
   replace rb_3 := rA rb_3 o_
   replace rc_4 := rA rc_4 o_
   replace rd_5 := rA rd_5 o_
   replace ba_6 := kA ba_6 o_
   subst ho_
   have nb_ := Blk.new (w.alloc (.cells #[.int .i64 c, .slice A n k, .slice B m j] 24)) 24 #[.int .i64 d, .slice C n2 k2, .slice D m2 j2]
   simp only [World.size_alloc] at nb_
   have bb_7 := Lib.hid nb_; clear nb_
   obtain ⟨o_, ho_⟩ : ∃ o, o = ((.cells #[.int .i64 p1, .int .i64 p2, .int .i64 p3, .int .i64 p4] 28) : Obj) := ⟨_, rfl⟩
   replace bel_1 := bA bel_1 o_
   replace ra_2 := rA ra_2 o_
   replace rb_3 := rA rb_3 o_
   replace rc_4 := rA rc_4 o_
   replace rd_5 := rA rd_5 o_
   replace ba_6 := kA ba_6 o_
   replace bb_7 := kA bb_7 o_
   subst ho_
   have nb_ := Blk.new ((w.alloc (.cells #[.int .i64 c, .slice A n k, .slice B m j] 24)).alloc (.cells #[.int .i64 d, .slice C n2 k2, .slice D m2 j2] 24)) 28 #[.int .i64 p1, .int .i64 p2, .int .i64 p3, .int .i64 p4]
   simp only [World.size_alloc] at nb_
   have bp_8 := Lib.hid nb_; clear nb_
   obtain ⟨o_, ho_⟩ : ∃ o, o = ((.cells #[.int .i64 0, .slice none 0 0, .slice none 0 0, .int .i64 0, .slice none 0 0, .slice none 0 0, .int .i64 0, .int .i64 0, .int .i64 0, .int .i64 0] 101) : Obj) := ⟨_, rfl⟩
   replace bel_1 := bA bel_1 o_
   replace ra_2 := rA ra_2 o_
   replace rb_3 := rA rb_3 o_
   replace rc_4 := rA rc_4 o_
   replace rd_5 := rA rd_5 o_
   replace ba_6 := kA ba_6 o_
   replace bb_7 := kA bb_7 o_
   replace bp_8 := kA bp_8 o_
   subst ho_
   have nb_ := Blk.new (((w.alloc (.cells #[.int .i64 c, .slice A n k, .slice B m j] 24)).alloc (.cells #[.int .i64 d, .slice C n2 k2, .slice D m2 j2] 24)).alloc (.cells #[.int .i64 p1, .int .i64 p2, .int .i64 p3, .int .i64 p4] 28)) 101 #[.int .i64 0, .slice none 0 0, .slice none 0 0, .int .i64 0, .slice none 0 0, .slice none 0 0, .int .i64 0, .int .i64 0, .int .i64 0, .int .i64 0]
   simp only [World.size_alloc] at nb_
   have bz_9 := Lib.hid nb_; clear nb_
   have la := ra_2.out.len
   have lb := rb_3.out.len
   have lc := rc_4.out.len
   have ld := rd_5.out.len
   obtain ⟨z_10, z_11, z_12⟩ := at3 ba_6
   obtain ⟨z_13, z_14, z_15⟩ := at3 bb_7
   obtain ⟨z_16, z_17, z_18, z_19⟩ := at4 bp_8
   obtain ⟨z_20, z_21, z_22, z_23, z_24, z_25, z_26, z_27, z_28, z_29⟩ := at10 bz_9
   have hc := CheckPairing_any c A B n k m j ws ts d C D n2 k2 m2 j2 ws2 ts2 p1 p2 p3 p4 _ ra_2.out rb_3.out hn hm rc_4.out rd_5.out hn2 hm2
   rw [E1.out] at hc
   try dsimp only at hc
   have HC := Lib.hid hc; clear hc
   go_wp2_with fail
   refine HC.out.mono ?_
   rintro e w_30 ⟨rfl, hb⟩
   clear HC
   clear z_10 z_11 z_12 z_13 z_14 z_15 z_16 z_17 z_18 z_19 z_20 z_21 z_22 z_23 z_24 z_25 z_26 z_27 z_28 z_29
   have hb_31 := Lib.hid hb
   clear hb
   replace ba_6 := kH ba_6 hb_31
   obtain ⟨z_32, z_33, z_34⟩ := at3 ba_6
   replace bb_7 := kH bb_7 hb_31
   obtain ⟨z_35, z_36, z_37⟩ := at3 bb_7
   replace bp_8 := kH bp_8 hb_31
   obtain ⟨z_38, z_39, z_40, z_41⟩ := at4 bp_8
   replace bz_9 := kH bz_9 hb_31
   obtain ⟨z_42, z_43, z_44, z_45, z_46, z_47, z_48, z_49, z_50, z_51⟩ := at10 bz_9
   have fz_52 : (w_30).frozen? ⟨w.heap.size + 1 + 1 + 1, 0, none⟩ = false := Blk.frozen bz_9.out 0
   have fz_53 : (w_30).frozen? ⟨w.heap.size + 1 + 1 + 1, 1, none⟩ = false := Blk.frozen bz_9.out 1
   have fz_54 : (w_30).frozen? ⟨w.heap.size + 1 + 1 + 1, 2, none⟩ = false := Blk.frozen bz_9.out 2
   have fz_55 : (w_30).frozen? ⟨w.heap.size + 1 + 1 + 1, 3, none⟩ = false := Blk.frozen bz_9.out 3
   have fz_56 : (w_30).frozen? ⟨w.heap.size + 1 + 1 + 1, 4, none⟩ = false := Blk.frozen bz_9.out 4
   have fz_57 : (w_30).frozen? ⟨w.heap.size + 1 + 1 + 1, 5, none⟩ = false := Blk.frozen bz_9.out 5
   have fz_58 : (w_30).frozen? ⟨w.heap.size + 1 + 1 + 1, 6, none⟩ = false := Blk.frozen bz_9.out 6
   have fz_59 : (w_30).frozen? ⟨w.heap.size + 1 + 1 + 1, 7, none⟩ = false := Blk.frozen bz_9.out 7
   have fz_60 : (w_30).frozen? ⟨w.heap.size + 1 + 1 + 1, 8, none⟩ = false := Blk.frozen bz_9.out 8
   have fz_61 : (w_30).frozen? ⟨w.heap.size + 1 + 1 + 1, 9, none⟩ = false := Blk.frozen bz_9.out 9
   replace bel_1 := bH bel_1 hb_31
   have bl_62 := bel_1.out
   go_wp2
   refine bodyPost_ret (v := .tuple #[.agg #[.int .i64 0, .slice none 0 0, .slice none 0 0, .int .i64 0, .slice none 0 0, .slice none 0 0, .int .i64 0, .int .i64 0, .int .i64 0, .int .i64 0], .int .i64 q]) (by simp [results, Tryz.results76, go_sem, z_32, z_33, z_34, z_35, z_36, z_37, z_38, z_39, z_40, z_41, z_42, z_43, z_44, z_45, z_46, z_47, z_48, z_49, z_50, z_51, fz_52, fz_53, fz_54, fz_55, fz_56, fz_57, fz_58, fz_59, fz_60, fz_61]) rfl ⟨rfl, (by have hsz_ := Below.size bl_62; repeat' (first | with_reducible exact bl_62 | with_reducible exact Below.refl _ _ | with_reducible refine Below.alloc ?_ ?_ _ | with_reducible refine Below.setCell ?_ ?_ _ | with_reducible refine Below.drew ?_ | with_reducible refine below_setRow ?_ ?_ _ | omega | (simp; done) | (simp; omega)))⟩
 · rename_i h1
   split at h0
   · rename_i h2
     subst h0
     have E1 := Lib.hid (show chkP ⟨c, ws, ts⟩ ⟨d, ws2, ts2⟩ ⟨p1, p2, p3, p4⟩ = 0 by simpa using h1); have E2 := Lib.hid h2; clear hne h1 h2
     go_enter Tryz.func76, Tryz.ntmps76
     have bel_1 := Lib.hid (show Below w.heap.size w w from Below.refl _ w)
     have ra_2 := Lib.hid (h1)
     clear h1
     have rb_3 := Lib.hid (h2)
     clear h2
     have rc_4 := Lib.hid (h3)
     clear h3
     have rd_5 := Lib.hid (h4)
     clear h4
     obtain ⟨o_, ho_⟩ : ∃ o, o = ((.cells #[.int .i64 c, .slice A n k, .slice B m j] 24) : Obj) := ⟨_, rfl⟩
     replace bel_1 := bA bel_1 o_
     replace ra_2 := rA ra_2 o_
     replace rb_3 := rA rb_3 o_
     replace rc_4 := rA rc_4 o_
     replace rd_5 := rA rd_5 o_
     subst ho_
     have ba_6 := Lib.hid (Blk.new w 24 #[.int .i64 c, .slice A n k, .slice B m j])
     obtain ⟨o_, ho_⟩ : ∃ o, o = ((.cells #[.int .i64 d, .slice C n2 k2, .slice D m2 j2] 24) : Obj) := ⟨_, rfl⟩
     replace bel_1 := bA bel_1 o_
     replace ra_2 := rA ra_2 o_
     replace rb_3 := rA rb_3 o_
     replace rc_4 := rA rc_4 o_
     replace rd_5 := rA rd_5 o_
     replace ba_6 := kA ba_6 o_
     subst ho_
     have nb_ := Blk.new (w.alloc (.cells #[.int .i64 c, .slice A n k, .slice B m j] 24)) 24 #[.int .i64 d, .slice C n2 k2, .slice D m2 j2]
     simp only [World.size_alloc] at nb_
     have bb_7 := Lib.hid nb_; clear nb_
     obtain ⟨o_, ho_⟩ : ∃ o, o = ((.cells #[.int .i64 p1, .int .i64 p2, .int .i64 p3, .int .i64 p4] 28) : Obj) := ⟨_, rfl⟩
     replace bel_1 := bA bel_1 o_
     replace ra_2 := rA ra_2 o_
     replace rb_3 := rA rb_3 o_
     replace rc_4 := rA rc_4 o_
     replace rd_5 := rA rd_5 o_
     replace ba_6 := kA ba_6 o_
     replace bb_7 := kA bb_7 o_
     subst ho_
     have nb_ := Blk.new ((w.alloc (.cells #[.int .i64 c, .slice A n k, .slice B m j] 24)).alloc (.cells #[.int .i64 d, .slice C n2 k2, .slice D m2 j2] 24)) 28 #[.int .i64 p1, .int .i64 p2, .int .i64 p3, .int .i64 p4]
     simp only [World.size_alloc] at nb_
     have bp_8 := Lib.hid nb_; clear nb_
     obtain ⟨o_, ho_⟩ : ∃ o, o = ((.cells #[.int .i64 0, .slice none 0 0, .slice none 0 0, .int .i64 0, .slice none 0 0, .slice none 0 0, .int .i64 0, .int .i64 0, .int .i64 0, .int .i64 0] 101) : Obj) := ⟨_, rfl⟩
     replace bel_1 := bA bel_1 o_
     replace ra_2 := rA ra_2 o_
     replace rb_3 := rA rb_3 o_
     replace rc_4 := rA rc_4 o_
     replace rd_5 := rA rd_5 o_
     replace ba_6 := kA ba_6 o_
     replace bb_7 := kA bb_7 o_
     replace bp_8 := kA bp_8 o_
     subst ho_
     have nb_ := Blk.new (((w.alloc (.cells #[.int .i64 c, .slice A n k, .slice B m j] 24)).alloc (.cells #[.int .i64 d, .slice C n2 k2, .slice D m2 j2] 24)).alloc (.cells #[.int .i64 p1, .int .i64 p2, .int .i64 p3, .int .i64 p4] 28)) 101 #[.int .i64 0, .slice none 0 0, .slice none 0 0, .int .i64 0, .slice none 0 0, .slice none 0 0, .int .i64 0, .int .i64 0, .int .i64 0, .int .i64 0]
     simp only [World.size_alloc] at nb_
     have bz_9 := Lib.hid nb_; clear nb_
     have la := ra_2.out.len
     have lb := rb_3.out.len
     have lc := rc_4.out.len
     have ld := rd_5.out.len
     obtain ⟨z_10, z_11, z_12⟩ := at3 ba_6
     obtain ⟨z_13, z_14, z_15⟩ := at3 bb_7
     obtain ⟨z_16, z_17, z_18, z_19⟩ := at4 bp_8
     obtain ⟨z_20, z_21, z_22, z_23, z_24, z_25, z_26, z_27, z_28, z_29⟩ := at10 bz_9
     have hc := CheckPairing_any c A B n k m j ws ts d C D n2 k2 m2 j2 ws2 ts2 p1 p2 p3 p4 _ ra_2.out rb_3.out hn hm rc_4.out rd_5.out hn2 hm2
     rw [E1.out] at hc
     try dsimp only at hc
     have HC := Lib.hid hc; clear hc
     go_wp2_with fail
     refine HC.out.mono ?_
     rintro e w_30 ⟨rfl, hb⟩
     clear HC
     clear z_10 z_11 z_12 z_13 z_14 z_15 z_16 z_17 z_18 z_19 z_20 z_21 z_22 z_23 z_24 z_25 z_26 z_27 z_28 z_29
     have hb_31 := Lib.hid hb
     clear hb
     replace ba_6 := kH ba_6 hb_31
     obtain ⟨z_32, z_33, z_34⟩ := at3 ba_6
     replace bb_7 := kH bb_7 hb_31
     obtain ⟨z_35, z_36, z_37⟩ := at3 bb_7
     replace bp_8 := kH bp_8 hb_31
     obtain ⟨z_38, z_39, z_40, z_41⟩ := at4 bp_8
     replace bz_9 := kH bz_9 hb_31
     obtain ⟨z_42, z_43, z_44, z_45, z_46, z_47, z_48, z_49, z_50, z_51⟩ := at10 bz_9
     have hc := areLarge_any c A B n k m j ws ts d C D n2 k2 m2 j2 ws2 ts2 (w_30) ⟨la, lb, lc, ld⟩ (chkP_lens E1.out)
     rw [E2.out] at hc
     try dsimp only at hc
     have HC := Lib.hid hc; clear hc
     go_wp2_with fail
     refine HC.out.mono ?_
     rintro e w_52 ⟨rfl, hb⟩
     clear HC
     clear z_32 z_33 z_34 z_35 z_36 z_37 z_38 z_39 z_40 z_41 z_42 z_43 z_44 z_45 z_46 z_47 z_48 z_49 z_50 z_51
     have hb_53 := Lib.hid hb
     clear hb
     replace ba_6 := kH ba_6 hb_53
     obtain ⟨z_54, z_55, z_56⟩ := at3 ba_6
     replace bb_7 := kH bb_7 hb_53
     obtain ⟨z_57, z_58, z_59⟩ := at3 bb_7
     replace bp_8 := kH bp_8 hb_53
     obtain ⟨z_60, z_61, z_62, z_63⟩ := at4 bp_8
     replace bz_9 := kH bz_9 hb_53
     obtain ⟨z_64, z_65, z_66, z_67, z_68, z_69, z_70, z_71, z_72, z_73⟩ := at10 bz_9
     clear la lb lc ld
     have fz_74 : (w_52).frozen? ⟨w.heap.size + 1 + 1 + 1, 0, none⟩ = false := Blk.frozen bz_9.out 0
     have fz_75 : (w_52).frozen? ⟨w.heap.size + 1 + 1 + 1, 1, none⟩ = false := Blk.frozen bz_9.out 1
     have fz_76 : (w_52).frozen? ⟨w.heap.size + 1 + 1 + 1, 2, none⟩ = false := Blk.frozen bz_9.out 2
     have fz_77 : (w_52).frozen? ⟨w.heap.size + 1 + 1 + 1, 3, none⟩ = false := Blk.frozen bz_9.out 3
     have fz_78 : (w_52).frozen? ⟨w.heap.size + 1 + 1 + 1, 4, none⟩ = false := Blk.frozen bz_9.out 4
     have fz_79 : (w_52).frozen? ⟨w.heap.size + 1 + 1 + 1, 5, none⟩ = false := Blk.frozen bz_9.out 5
     have fz_80 : (w_52).frozen? ⟨w.heap.size + 1 + 1 + 1, 6, none⟩ = false := Blk.frozen bz_9.out 6
     have fz_81 : (w_52).frozen? ⟨w.heap.size + 1 + 1 + 1, 7, none⟩ = false := Blk.frozen bz_9.out 7
     have fz_82 : (w_52).frozen? ⟨w.heap.size + 1 + 1 + 1, 8, none⟩ = false := Blk.frozen bz_9.out 8
     have fz_83 : (w_52).frozen? ⟨w.heap.size + 1 + 1 + 1, 9, none⟩ = false := Blk.frozen bz_9.out 9
     replace bel_1 := bH (bH bel_1 hb_31) hb_53
     have bl_84 := bel_1.out
     go_wp2
     refine bodyPost_ret (v := .tuple #[.agg #[.int .i64 0, .slice none 0 0, .slice none 0 0, .int .i64 0, .slice none 0 0, .slice none 0 0, .int .i64 0, .int .i64 0, .int .i64 0, .int .i64 0], .int .i64 2]) (by simp [results, Tryz.results76, go_sem, z_54, z_55, z_56, z_57, z_58, z_59, z_60, z_61, z_62, z_63, z_64, z_65, z_66, z_67, z_68, z_69, z_70, z_71, z_72, z_73, fz_74, fz_75, fz_76, fz_77, fz_78, fz_79, fz_80, fz_81, fz_82, fz_83]) rfl ⟨rfl, (by have hsz_ := Below.size bl_84; repeat' (first | with_reducible exact bl_84 | with_reducible exact Below.refl _ _ | with_reducible refine Below.alloc ?_ ?_ _ | with_reducible refine Below.setCell ?_ ?_ _ | with_reducible refine Below.drew ?_ | with_reducible refine below_setRow ?_ ?_ _ | omega | (simp; done) | (simp; omega)))⟩
   · exact absurd h0.symm hne
end Go.Proofs.YtaoanagmgheicaaGreat
