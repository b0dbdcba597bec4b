import Derived.Test.YtaoanagmgheicaaGreatSEMap
set_option linter.unusedSimpArgs false
set_option linter.unusedVariables false
namespace Go.Proofs.YtaoanagmgheicaaGreat
open Go.RowKit Go.Shelf
theorem chkOO_lens {a b : Otl} (h : chkOO a b = 0) : a.ws.length ≤ 400 ∧ a.ts.length ≤ 400 ∧ b.ws.length ≤ 400 ∧ b.ts.length ≤ 400 := by
 obtain ⟨oa, ob⟩ := chkOO_ok h
 obtain ⟨a1, a2, a3, a4⟩ := chkO_ok oa
 obtain ⟨b1, b2, b3, b4⟩ := chkO_ok ob
 exact ⟨(chk_ok a3).2.2.1, (chk_ok a4).2.2.1, (chk_ok b3).2.2.1, (chk_ok b4).2.2.1⟩
set_option maxRecDepth 100000 in
set_option maxHeartbeats 4000000 in
theorem outlinesOf_yes (c : Int) (A B : Option Addr) (n k m j : Nat) (ws ts : List Bnd) (d : Int) (C D : Option Addr) (n2 k2 m2 j2 : Nat) (ws2 ts2 : List Bnd) (w : World) (h1 : RdB w A n k ws) (h2 : RdB w B m j ts) (hn : n ≤ maxLen) (hm : m ≤ maxLen) (h3 : RdB w C n2 k2 ws2) (h4 : RdB w D m2 j2 ts2) (hn2 : n2 ≤ maxLen) (hm2 : m2 ≤ maxLen) (h0 : both ⟨c, ws, ts⟩ ⟨d, ws2, ts2⟩ = 0) :
 Calls Tryz.prog 96 #[.agg #[.int .i64 c, .slice A n k, .slice B m j], .agg #[.int .i64 d, .slice C n2 k2, .slice D m2 j2]] w fun e w' => e = .returned (.tuple #[.agg #[.int .i64 c, .slice A n k, .slice B m j, .int .i64 d, .slice C n2 k2, .slice D m2 j2], .int .i64 0]) ∧ Below w.heap.size w w' := by
 unfold both at h0
 split at h0
 · rename_i h1; exact absurd h0 h1
 · rename_i h1
   split at h0
   · cases h0
   · rename_i h2
     have hoo : chkOO ⟨c, ws, ts⟩ ⟨d, ws2, ts2⟩ = 0 := by simpa using h1
     have HL4 := Lib.hid (chkOO_lens hoo)
     have E1 := Lib.hid hoo; have E2 := Lib.hid (show large ⟨c, ws, ts⟩ ⟨d, ws2, ts2⟩ = false by simpa using h2); clear h0 h1 h2 hoo
     go_enter Tryz.func96, Tryz.ntmps96
     have bel_1 := Lib.hid (show Below w.heap.size w w from Below.refl _ w)
     have ra_2 := Lib.hid (h1)
     clear h1
     have rb_3 := Lib.hid (h2)
     clear h2
     have rc_4 := Lib.hid (h3)
     clear h3
     have rd_5 := Lib.hid (h4)
     clear h4
     obtain ⟨o_, ho_⟩ : ∃ o, o = ((.cells #[.int .i64 c, .slice A n k, .slice B m j] 24) : Obj) := ⟨_, rfl⟩
     replace bel_1 := bA bel_1 o_
     replace ra_2 := rA ra_2 o_
     replace rb_3 := rA rb_3 o_
     replace rc_4 := rA rc_4 o_
     replace rd_5 := rA rd_5 o_
     subst ho_
     have ba_6 := Lib.hid (Blk.new w 24 #[.int .i64 c, .slice A n k, .slice B m j])
     obtain ⟨o_, ho_⟩ : ∃ o, o = ((.cells #[.int .i64 d, .slice C n2 k2, .slice D m2 j2] 24) : Obj) := ⟨_, rfl⟩
     replace bel_1 := bA bel_1 o_
     replace ra_2 := rA ra_2 o_
     replace rb_3 := rA rb_3 o_
     replace rc_4 := rA rc_4 o_
     replace rd_5 := rA rd_5 o_
     replace ba_6 := kA ba_6 o_
     subst ho_
     have nb_ := Blk.new (w.alloc (.cells #[.int .i64 c, .slice A n k, .slice B m j] 24)) 24 #[.int .i64 d, .slice C n2 k2, .slice D m2 j2]
     simp only [World.size_alloc] at nb_
     have bb_7 := Lib.hid nb_; clear nb_
     obtain ⟨o_, ho_⟩ : ∃ o, o = ((.cells #[.int .i64 0, .slice none 0 0, .slice none 0 0, .int .i64 0, .slice none 0 0, .slice none 0 0] 99) : Obj) := ⟨_, rfl⟩
     replace bel_1 := bA bel_1 o_
     replace ra_2 := rA ra_2 o_
     replace rb_3 := rA rb_3 o_
     replace rc_4 := rA rc_4 o_
     replace rd_5 := rA rd_5 o_
     replace ba_6 := kA ba_6 o_
     replace bb_7 := kA bb_7 o_
     subst ho_
     have nb_ := Blk.new ((w.alloc (.cells #[.int .i64 c, .slice A n k, .slice B m j] 24)).alloc (.cells #[.int .i64 d, .slice C n2 k2, .slice D m2 j2] 24)) 99 #[.int .i64 0, .slice none 0 0, .slice none 0 0, .int .i64 0, .slice none 0 0, .slice none 0 0]
     simp only [World.size_alloc] at nb_
     have bz_8 := Lib.hid nb_; clear nb_
     have la := ra_2.out.len
     have lb := rb_3.out.len
     have lc := rc_4.out.len
     have ld := rd_5.out.len
     obtain ⟨z_9, z_10, z_11⟩ := at3 ba_6
     obtain ⟨z_12, z_13, z_14⟩ := at3 bb_7
     obtain ⟨z_15, z_16, z_17, z_18, z_19, z_20⟩ := at6 bz_8
     have hc := checkOutlines_any c A B n k m j ws ts d C D n2 k2 m2 j2 ws2 ts2 _ ra_2.out rb_3.out hn hm rc_4.out rd_5.out hn2 hm2
     rw [E1.out] at hc
     try dsimp only at hc
     have HC := Lib.hid hc; clear hc
     go_wp2_with fail
     refine HC.out.mono ?_
     rintro e w_21 ⟨rfl, hb⟩
     clear HC
     clear z_9 z_10 z_11 z_12 z_13 z_14 z_15 z_16 z_17 z_18 z_19 z_20
     replace bel_1 := bB bel_1 hb
     replace ra_2 := rB ra_2 hb
     replace rb_3 := rB rb_3 hb
     replace rc_4 := rB rc_4 hb
     replace rd_5 := rB rd_5 hb
     replace ba_6 := kB ba_6 hb
     replace bb_7 := kB bb_7 hb
     replace bz_8 := kB bz_8 hb
     clear hb
     obtain ⟨z_22, z_23, z_24⟩ := at3 ba_6
     obtain ⟨z_25, z_26, z_27⟩ := at3 bb_7
     obtain ⟨z_28, z_29, z_30, z_31, z_32, z_33⟩ := at6 bz_8
     have hc := areLarge_any c A B n k m j ws ts d C D n2 k2 m2 j2 ws2 ts2 (w_21) ⟨la, lb, lc, ld⟩ HL4.out
     rw [E2.out] at hc
     try dsimp only at hc
     have HC := Lib.hid hc; clear hc
     go_wp2_with fail
     refine HC.out.mono ?_
     rintro e w_34 ⟨rfl, hb⟩
     clear HC
     clear z_22 z_23 z_24 z_25 z_26 z_27 z_28 z_29 z_30 z_31 z_32 z_33
     replace bel_1 := bB bel_1 hb
     replace ra_2 := rB ra_2 hb
     replace rb_3 := rB rb_3 hb
     replace rc_4 := rB rc_4 hb
     replace rd_5 := rB rd_5 hb
     replace ba_6 := kB ba_6 hb
     replace bb_7 := kB bb_7 hb
     replace bz_8 := kB bz_8 hb
     clear hb
     obtain ⟨z_35, z_36, z_37⟩ := at3 ba_6
     obtain ⟨z_38, z_39, z_40⟩ := at3 bb_7
     obtain ⟨z_41, z_42, z_43, z_44, z_45, z_46⟩ := at6 bz_8
     clear la lb lc ld
     have fz_47 : (w_34).frozen? ⟨w.heap.size + 1 + 1, 0, none⟩ = false := Blk.frozen bz_8.out 0
     have fz_48 : (w_34).frozen? ⟨w.heap.size + 1 + 1, 1, none⟩ = false := Blk.frozen bz_8.out 1
     have fz_49 : (w_34).frozen? ⟨w.heap.size + 1 + 1, 2, none⟩ = false := Blk.frozen bz_8.out 2
     have fz_50 : (w_34).frozen? ⟨w.heap.size + 1 + 1, 3, none⟩ = false := Blk.frozen bz_8.out 3
     have fz_51 : (w_34).frozen? ⟨w.heap.size + 1 + 1, 4, none⟩ = false := Blk.frozen bz_8.out 4
     have fz_52 : (w_34).frozen? ⟨w.heap.size + 1 + 1, 5, none⟩ = false := Blk.frozen bz_8.out 5
     have bl_53 := bel_1.out
     go_wp2
     refine bodyPost_ret (v := .tuple #[.agg #[.int .i64 c, .slice A n k, .slice B m j, .int .i64 d, .slice C n2 k2, .slice D m2 j2], .int .i64 0]) (by simp [results, Tryz.results96, go_sem, z_35, z_36, z_37, z_38, z_39, z_40, z_41, z_42, z_43, z_44, z_45, z_46, fz_47, fz_48, fz_49, fz_50, fz_51, fz_52]) rfl ⟨rfl, (by have hsz_ := Below.size bl_53; repeat' (first | with_reducible exact bl_53 | with_reducible exact Below.refl _ _ | with_reducible refine Below.alloc ?_ ?_ _ | with_reducible refine Below.setCell ?_ ?_ _ | with_reducible refine Below.drew ?_ | with_reducible refine below_setRow ?_ ?_ _ | omega | (simp; done) | (simp; omega)))⟩
set_option maxRecDepth 100000 in
set_option maxHeartbeats 4000000 in
theorem outlinesOf_no (c : Int) (A B : Option Addr) (n k m j : Nat) (ws ts : List Bnd) (d : Int) (C D : Option Addr) (n2 k2 m2 j2 : Nat) (ws2 ts2 : List Bnd) (w : World) (h1 : RdB w A n k ws) (h2 : RdB w B m j ts) (hn : n ≤ maxLen) (hm : m ≤ maxLen) (h3 : RdB w C n2 k2 ws2) (h4 : RdB w D m2 j2 ts2) (hn2 : n2 ≤ maxLen) (hm2 : m2 ≤ maxLen) (q : Int) (h0 : both ⟨c, ws, ts⟩ ⟨d, ws2, ts2⟩ = q) (hne : q ≠ 0) :
 Calls Tryz.prog 96 #[.agg #[.int .i64 c, .slice A n k, .slice B m j], .agg #[.int .i64 d, .slice C n2 k2, .slice D m2 j2]] w fun e w' => e = .returned (.tuple #[.agg #[.int .i64 0, .slice none 0 0, .slice none 0 0, .int .i64 0, .slice none 0 0, .slice none 0 0], .int .i64 q]) ∧ Below w.heap.size w w' := by
 unfold both at h0
 split at h0
 · have E1 := Lib.hid h0; clear h0
   have hq : (q != 0) = true := by simpa using hne
   clear hne
   rename_i h1; clear h1
   go_enter Tryz.func96, Tryz.ntmps96
   have bel_1 := Lib.hid (show Below w.heap.size w w from Below.refl _ w)
   have ra_2 := Lib.hid (h1)
   clear h1
   have rb_3 := Lib.hid (h2)
   clear h2
   have rc_4 := Lib.hid (h3)
   clear h3
   have rd_5 := Lib.hid (h4)
   clear h4
   obtain ⟨o_, ho_⟩ : ∃ o, o = ((.cells #[.int .i64 c, .slice A n k, .slice B m j] 24) : Obj) := ⟨_, rfl⟩
   replace bel_1 := bA bel_1 o_
   replace ra_2 := rA ra_2 o_
   replace rb_3 := rA rb_3 o_
   replace rc_4 := rA rc_4 o_
   replace rd_5 := rA rd_5 o_
   subst ho_
   have ba_6 := Lib.hid (Blk.new w 24 #[.int .i64 c, .slice A n k, .slice B m j])
   obtain ⟨o_, ho_⟩ : ∃ o, o = ((.cells #[.int .i64 d, .slice C n2 k2, .slice D m2 j2] 24) : Obj) := ⟨_, rfl⟩
   replace bel_1 := bA bel_1 o_
   replace ra_2 := rA ra_2 o_
   replace rb_3 := rA rb_3 o_
   replace rc_4 := rA rc_4 o_
   replace rd_5 := rA rd_5 o_
   replace ba_6 := kA ba_6 o_
   subst ho_
   have nb_ := Blk.new (w.alloc (.cells #[.int .i64 c, .slice A n k, .slice B m j] 24)) 24 #[.int .i64 d, .slice C n2 k2, .slice D m2 j2]
   simp only [World.size_alloc] at nb_
   have bb_7 := Lib.hid nb_; clear nb_
   obtain ⟨o_, ho_⟩ : ∃ o, o = ((.cells #[.int .i64 0, .slice none 0 0, .slice none 0 0, .int .i64 0, .slice none 0 0, .slice none 0 0] 99) : Obj) := ⟨_, rfl⟩
   replace bel_1 := bA bel_1 o_
   replace ra_2 := rA ra_2 o_
   replace rb_3 := rA rb_3 o_
   replace rc_4 := rA rc_4 o_
   replace rd_5 := rA rd_5 o_
   replace ba_6 := kA ba_6 o_
   replace bb_7 := kA bb_7 o_
   subst ho_
   have nb_ := Blk.new ((w.alloc (.cells #[.int .i64 c, .slice A n k, .slice B m j] 24)).alloc (.cells #[.int .i64 d, .slice C n2 k2, .slice D m2 j2] 24)) 99 #[.int .i64 0, .slice none 0 0, .slice none 0 0, .int .i64 0, .slice none 0 0, .slice none 0 0]
   simp only [World.size_alloc] at nb_
   have bz_8 := Lib.hid nb_; clear nb_
   have la := ra_2.out.len
   have lb := rb_3.out.len
   have lc := rc_4.out.len
   have ld := rd_5.out.len
   obtain ⟨z_9, z_10, z_11⟩ := at3 ba_6
   obtain ⟨z_12, z_13, z_14⟩ := at3 bb_7
   obtain ⟨z_15, z_16, z_17, z_18, z_19, z_20⟩ := at6 bz_8
   have hc := checkOutlines_any c A B n k m j ws ts d C D n2 k2 m2 j2 ws2 ts2 _ ra_2.out rb_3.out hn hm rc_4.out rd_5.out hn2 hm2
   rw [E1.out] at hc
   try dsimp only at hc
   have HC := Lib.hid hc; clear hc
   go_wp2_with fail
   refine HC.out.mono ?_
   rintro e w_21 ⟨rfl, hb⟩
   clear HC
   clear z_9 z_10 z_11 z_12 z_13 z_14 z_15 z_16 z_17 z_18 z_19 z_20
   replace bel_1 := bB bel_1 hb
   replace ra_2 := rB ra_2 hb
   replace rb_3 := rB rb_3 hb
   replace rc_4 := rB rc_4 hb
   replace rd_5 := rB rd_5 hb
   replace ba_6 := kB ba_6 hb
   replace bb_7 := kB bb_7 hb
   replace bz_8 := kB bz_8 hb
   clear hb
   obtain ⟨z_22, z_23, z_24⟩ := at3 ba_6
   obtain ⟨z_25, z_26, z_27⟩ := at3 bb_7
   obtain ⟨z_28, z_29, z_30, z_31, z_32, z_33⟩ := at6 bz_8
   have fz_34 : (w_21).frozen? ⟨w.heap.size + 1 + 1, 0, none⟩ = false := Blk.frozen bz_8.out 0
   have fz_35 : (w_21).frozen? ⟨w.heap.size + 1 + 1, 1, none⟩ = false := Blk.frozen bz_8.out 1
   have fz_36 : (w_21).frozen? ⟨w.heap.size + 1 + 1, 2, none⟩ = false := Blk.frozen bz_8.out 2
   have fz_37 : (w_21).frozen? ⟨w.heap.size + 1 + 1, 3, none⟩ = false := Blk.frozen bz_8.out 3
   have fz_38 : (w_21).frozen? ⟨w.heap.size + 1 + 1, 4, none⟩ = false := Blk.frozen bz_8.out 4
   have fz_39 : (w_21).frozen? ⟨w.heap.size + 1 + 1, 5, none⟩ = false := Blk.frozen bz_8.out 5
   have bl_40 := bel_1.out
   go_wp2
   refine bodyPost_ret (v := .tuple #[.agg #[.int .i64 0, .slice none 0 0, .slice none 0 0, .int .i64 0, .slice none 0 0, .slice none 0 0], .int .i64 q]) (by simp [results, Tryz.results96, go_sem, z_22, z_23, z_24, z_25, z_26, z_27, z_28, z_29, z_30, z_31, z_32, z_33, fz_34, fz_35, fz_36, fz_37, fz_38, fz_39]) rfl ⟨rfl, (by have hsz_ := Below.size bl_40; repeat' (first | with_reducible exact bl_40 | with_reducible exact Below.refl _ _ | with_reducible refine Below.alloc ?_ ?_ _ | with_reducible refine Below.setCell ?_ ?_ _ | with_reducible refine Below.drew ?_ | with_reducible refine below_setRow ?_ ?_ _ | omega | (simp; done) | (simp; omega)))⟩
 · rename_i h1
   split at h0
   · rename_i h2
     subst h0
     have hoo : chkOO ⟨c, ws, ts⟩ ⟨d, ws2, ts2⟩ = 0 := by simpa using h1
     have HL4 := Lib.hid (chkOO_lens hoo)
     have E1 := Lib.hid hoo; have E2 := Lib.hid h2; clear hne h1 h2 hoo
     go_enter Tryz.func96, Tryz.ntmps96
     have bel_1 := Lib.hid (show Below w.heap.size w w from Below.refl _ w)
     have ra_2 := Lib.hid (h1)
     clear h1
     have rb_3 := Lib.hid (h2)
     clear h2
     have rc_4 := Lib.hid (h3)
     clear h3
     have rd_5 := Lib.hid (h4)
     clear h4
     obtain ⟨o_, ho_⟩ : ∃ o, o = ((.cells #[.int .i64 c, .slice A n k, .slice B m j] 24) : Obj) := ⟨_, rfl⟩
     replace bel_1 := bA bel_1 o_
     replace ra_2 := rA ra_2 o_
     replace rb_3 := rA rb_3 o_
     replace rc_4 := rA rc_4 o_
     replace rd_5 := rA rd_5 o_
     subst ho_
     have ba_6 := Lib.hid (Blk.new w 24 #[.int .i64 c, .slice A n k, .slice B m j])
     obtain ⟨o_, ho_⟩ : ∃ o, o = ((.cells #[.int .i64 d, .slice C n2 k2, .slice D m2 j2] 24) : Obj) := ⟨_, rfl⟩
     replace bel_1 := bA bel_1 o_
     replace ra_2 := rA ra_2 o_
     replace rb_3 := rA rb_3 o_
     replace rc_4 := rA rc_4 o_
     replace rd_5 := rA rd_5 o_
     replace ba_6 := kA ba_6 o_
     subst ho_
     have nb_ := Blk.new (w.alloc (.cells #[.int .i64 c, .slice A n k, .slice B m j] 24)) 24 #[.int .i64 d, .slice C n2 k2, .slice D m2 j2]
     simp only [World.size_alloc] at nb_
     have bb_7 := Lib.hid nb_; clear nb_
     obtain ⟨o_, ho_⟩ : ∃ o, o = ((.cells #[.int .i64 0, .slice none 0 0, .slice none 0 0, .int .i64 0, .slice none 0 0, .slice none 0 0] 99) : Obj) := ⟨_, rfl⟩
     replace bel_1 := bA bel_1 o_
     replace ra_2 := rA ra_2 o_
     replace rb_3 := rA rb_3 o_
     replace rc_4 := rA rc_4 o_
     replace rd_5 := rA rd_5 o_
     replace ba_6 := kA ba_6 o_
     replace bb_7 := kA bb_7 o_
     subst ho_
     have nb_ := Blk.new ((w.alloc (.cells #[.int .i64 c, .slice A n k, .slice B m j] 24)).alloc (.cells #[.int .i64 d, .slice C n2 k2, .slice D m2 j2] 24)) 99 #[.int .i64 0, .slice none 0 0, .slice none 0 0, .int .i64 0, .slice none 0 0, .slice none 0 0]
     simp only [World.size_alloc] at nb_
     have bz_8 := Lib.hid nb_; clear nb_
     have la := ra_2.out.len
     have lb := rb_3.out.len
     have lc := rc_4.out.len
     have ld := rd_5.out.len
     obtain ⟨z_9, z_10, z_11⟩ := at3 ba_6
     obtain ⟨z_12, z_13, z_14⟩ := at3 bb_7
     obtain ⟨z_15, z_16, z_17, z_18, z_19, z_20⟩ := at6 bz_8
     have hc := checkOutlines_any c A B n k m j ws ts d C D n2 k2 m2 j2 ws2 ts2 _ ra_2.out rb_3.out hn hm rc_4.out rd_5.out hn2 hm2
     rw [E1.out] at hc
     try dsimp only at hc
     have HC := Lib.hid hc; clear hc
     go_wp2_with fail
     refine HC.out.mono ?_
     rintro e w_21 ⟨rfl, hb⟩
     clear HC
     clear z_9 z_10 z_11 z_12 z_13 z_14 z_15 z_16 z_17 z_18 z_19 z_20
     replace bel_1 := bB bel_1 hb
     replace ra_2 := rB ra_2 hb
     replace rb_3 := rB rb_3 hb
     replace rc_4 := rB rc_4 hb
     replace rd_5 := rB rd_5 hb
     replace ba_6 := kB ba_6 hb
     replace bb_7 := kB bb_7 hb
     replace bz_8 := kB bz_8 hb
     clear hb
     obtain ⟨z_22, z_23, z_24⟩ := at3 ba_6
     obtain ⟨z_25, z_26, z_27⟩ := at3 bb_7
     obtain ⟨z_28, z_29, z_30, z_31, z_32, z_33⟩ := at6 bz_8
     have hc := areLarge_any c A B n k m j ws ts d C D n2 k2 m2 j2 ws2 ts2 (w_21) ⟨la, lb, lc, ld⟩ HL4.out
     rw [E2.out] at hc
     try dsimp only at hc
     have HC := Lib.hid hc; clear hc
     go_wp2_with fail
     refine HC.out.mono ?_
     rintro e w_34 ⟨rfl, hb⟩
     clear HC
     clear z_22 z_23 z_24 z_25 z_26 z_27 z_28 z_29 z_30 z_31 z_32 z_33
     replace bel_1 := bB bel_1 hb
     replace ra_2 := rB ra_2 hb
     replace rb_3 := rB rb_3 hb
     replace rc_4 := rB rc_4 hb
     replace rd_5 := rB rd_5 hb
     replace ba_6 := kB ba_6 hb
     replace bb_7 := kB bb_7 hb
     replace bz_8 := kB bz_8 hb
     clear hb
     obtain ⟨z_35, z_36, z_37⟩ := at3 ba_6
     obtain ⟨z_38, z_39, z_40⟩ := at3 bb_7
     obtain ⟨z_41, z_42, z_43, z_44, z_45, z_46⟩ := at6 bz_8
     clear la lb lc ld
     have fz_47 : (w_34).frozen? ⟨w.heap.size + 1 + 1, 0, none⟩ = false := Blk.frozen bz_8.out 0
     have fz_48 : (w_34).frozen? ⟨w.heap.size + 1 + 1, 1, none⟩ = false := Blk.frozen bz_8.out 1
     have fz_49 : (w_34).frozen? ⟨w.heap.size + 1 + 1, 2, none⟩ = false := Blk.frozen bz_8.out 2
     have fz_50 : (w_34).frozen? ⟨w.heap.size + 1 + 1, 3, none⟩ = false := Blk.frozen bz_8.out 3
     have fz_51 : (w_34).frozen? ⟨w.heap.size + 1 + 1, 4, none⟩ = false := Blk.frozen bz_8.out 4
     have fz_52 : (w_34).frozen? ⟨w.heap.size + 1 + 1, 5, none⟩ = false := Blk.frozen bz_8.out 5
     have bl_53 := bel_1.out
     go_wp2
     refine bodyPost_ret (v := .tuple #[.agg #[.int .i64 0, .slice none 0 0, .slice none 0 0, .int .i64 0, .slice none 0 0, .slice none 0 0], .int .i64 2]) (by simp [results, Tryz.results96, go_sem, z_35, z_36, z_37, z_38, z_39, z_40, z_41, z_42, z_43, z_44, z_45, z_46, fz_47, fz_48, fz_49, fz_50, fz_51, fz_52]) rfl ⟨rfl, (by have hsz_ := Below.size bl_53; repeat' (first | with_reducible exact bl_53 | with_reducible exact Below.refl _ _ | with_reducible refine Below.alloc ?_ ?_ _ | with_reducible refine Below.setCell ?_ ?_ _ | with_reducible refine Below.drew ?_ | with_reducible refine below_setRow ?_ ?_ _ | omega | (simp; done) | (simp; omega)))⟩
   · exact absurd h0.symm hne
set_option maxRecDepth 100000 in
set_option maxHeartbeats 4000000 in
theorem most_any (c : Int) (A B : Option Addr) (n k m j : Nat) (d : Int) (C D : Option Addr) (n2 k2 m2 j2 : Nat) (w : World) :
 Calls Tryz.prog 100 #[.agg #[.int .i64 c, .slice A n k, .slice B m j, .int .i64 d, .slice C n2 k2, .slice D m2 j2]] w fun e w' => e = .returned (.int .i64 (min c d)) ∧ Below w.heap.size w w' := by
  go_enter Tryz.func100, Tryz.ntmps100
  have bel_1 := Lib.hid (show Below w.heap.size w w from Below.refl _ w)
  obtain ⟨o_, ho_⟩ : ∃ o, o = ((.cells #[.int .i64 c, .slice A n k, .slice B m j, .int .i64 d, .slice C n2 k2, .slice D m2 j2] 99) : Obj) := ⟨_, rfl⟩
  replace bel_1 := bA bel_1 o_
  subst ho_
  have bo_2 := Lib.hid (Blk.new w 99 #[.int .i64 c, .slice A n k, .slice B m j, .int .i64 d, .slice C n2 k2, .slice D m2 j2])
  obtain ⟨z_3, z_4, z_5, z_6, z_7, z_8⟩ := at6 bo_2
  go_wp2
  go_ret
  exact ⟨ret_int (by omega), bel_1.out⟩
theorem meeting_any (c : Int) (A B : Option Addr) (n k m j : Nat) (d : Int) (C D : Option Addr) (n2 k2 m2 j2 : Nat) (s : Int) (w : World) :
 Calls Tryz.prog 98 #[.agg #[.int .i64 c, .slice A n k, .slice B m j, .int .i64 d, .slice C n2 k2, .slice D m2 j2], .int .i64 s] w fun e w' => ∃ g, e = .returned (.func (.func 136) #[] #[.pointer (some ⟨g, 0, none⟩), .pointer (some ⟨g + 1, 0, none⟩)]) ∧
  (Blk w' g 99 #[.int .i64 c, .slice A n k, .slice B m j, .int .i64 d, .slice C n2 k2, .slice D m2 j2] ∧ Blk w' (g + 1) 3 #[.int .i64 s]) ∧ Below w.heap.size w w' := by
 refine (callsIn_wide.1 (meeting_in 9 c A B n k m j d C D n2 k2 m2 j2 s w)).mono ?_
 rintro e w' ⟨rfl, rfl⟩
 refine ⟨w.heap.size, rfl, ⟨(Blk.new w _ _).alloc _, ?_⟩, ((Below.refl _ w).alloc (Nat.le_refl _) _).alloc (by simp) _⟩
 have h := Blk.new (w.alloc (.cells #[.int .i64 c, .slice A n k, .slice B m j, .int .i64 d, .slice C n2 k2, .slice D m2 j2] 99)) 3 #[.int .i64 s]
 rwa [World.size_alloc] at h
end Go.Proofs.YtaoanagmgheicaaGreat
