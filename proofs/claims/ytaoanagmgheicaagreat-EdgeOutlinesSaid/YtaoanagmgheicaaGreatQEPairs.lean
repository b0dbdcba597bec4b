import Derived.Test.YtaoanagmgheicaaGreatQEIter
set_option maxHeartbeats 4000000
set_option linter.unusedSimpArgs false
set_option linter.unusedVariables false
namespace Go.Proofs.YtaoanagmgheicaaGreat
open Go.RowKit Go.Shelf
theorem chkOO_lens {a b : Otl} (h : chkOO a b = 0) : a.ws.length ≤ 400 ∧ a.ts.length ≤ 400 ∧ b.ws.length ≤ 400 ∧ b.ts.length ≤ 400 := by
 obtain ⟨oa, ob⟩ := chkOO_ok h
 obtain ⟨a1, a2, a3, a4⟩ := chkO_ok oa
 obtain ⟨b1, b2, b3, b4⟩ := chkO_ok ob
 exact ⟨(chk_ok a3).2.2.1, (chk_ok a4).2.2.1, (chk_ok b3).2.2.1, (chk_ok b4).2.2.1⟩
set_option maxRecDepth 100000 in
theorem outlinesOf_yes (c : Int) (A B : Option Addr) (n k m j : Nat) (ws ts : List Bnd) (d : Int) (C D : Option Addr) (n2 k2 m2 j2 : Nat) (ws2 ts2 : List Bnd) (w : World) (h1 : RdB w A n k ws) (h2 : RdB w B m j ts) (hn : n ≤ maxLen) (hm : m ≤ maxLen) (h3 : RdB w C n2 k2 ws2) (h4 : RdB w D m2 j2 ts2) (hn2 : n2 ≤ maxLen) (hm2 : m2 ≤ maxLen) (h0 : both ⟨c, ws, ts⟩ ⟨d, ws2, ts2⟩ = 0) :
 Calls Tryz.prog 96 #[.agg #[.int .i64 c, .slice A n k, .slice B m j], .agg #[.int .i64 d, .slice C n2 k2, .slice D m2 j2]] w fun e w' => e = .returned (.tuple #[.agg #[.int .i64 c, .slice A n k, .slice B m j, .int .i64 d, .slice C n2 k2, .slice D m2 j2], .int .i64 0]) ∧ Below w.heap.size w w' := by
 unfold both at h0
 split at h0
 · rename_i h1; exact absurd h0 h1
 · rename_i h1
   split at h0
   · cases h0
   · rename_i h2
     have hoo : chkOO ⟨c, ws, ts⟩ ⟨d, ws2, ts2⟩ = 0 := by simpa using h1
     have HL4 := Lib.hid (chkOO_lens hoo)
     have E1 := Lib.hid hoo; have E2 := Lib.hid (show large ⟨c, ws, ts⟩ ⟨d, ws2, ts2⟩ = false by simpa using h2); clear h0 h1 h2 hoo
     go_enter Tryz.func96, Tryz.ntmps96
     obtain ⟨ba_1, bb_2, bz_3, bel_4⟩ := ent3 w #[.int .i64 c, .slice A n k, .slice B m j] 24 #[.int .i64 d, .slice C n2 k2, .slice D m2 j2] 24 #[.int .i64 0, .slice none 0 0, .slice none 0 0, .int .i64 0, .slice none 0 0, .slice none 0 0] 99
     have ra_5 := rI h1 bel_4
     have rb_6 := rI h2 bel_4
     have rc_7 := rI h3 bel_4
     have rd_8 := rI h4 bel_4
     clear h1 h2 h3 h4
     have la := ra_5.out.len
     have lb := rb_6.out.len
     have lc := rc_7.out.len
     have ld := rd_8.out.len
     obtain ⟨z_9, z_10, z_11⟩ := at3 ba_1
     obtain ⟨z_12, z_13, z_14⟩ := at3 bb_2
     obtain ⟨z_15, z_16, z_17, z_18, z_19, z_20⟩ := at6 bz_3
     have hc := checkOutlines_any c A B n k m j ws ts d C D n2 k2 m2 j2 ws2 ts2 _ ra_5.out rb_6.out hn hm rc_7.out rd_8.out hn2 hm2
     rw [E1.out] at hc
     try dsimp only at hc
     have HC := Lib.hid hc; clear hc
     go_wp2_with fail
     refine HC.out.mono ?_
     rintro e w_21 ⟨rfl, hb⟩
     clear HC
     clear z_9 z_10 z_11 z_12 z_13 z_14 z_15 z_16 z_17 z_18 z_19 z_20
     have hb_22 := Lib.hid hb
     clear hb
     replace ba_1 := kH ba_1 hb_22
     obtain ⟨z_23, z_24, z_25⟩ := at3 ba_1
     replace bb_2 := kH bb_2 hb_22
     obtain ⟨z_26, z_27, z_28⟩ := at3 bb_2
     replace bz_3 := kH bz_3 hb_22
     obtain ⟨z_29, z_30, z_31, z_32, z_33, z_34⟩ := at6 bz_3
     have hc := areLarge_any c A B n k m j ws ts d C D n2 k2 m2 j2 ws2 ts2 (w_21) ⟨la, lb, lc, ld⟩ HL4.out
     rw [E2.out] at hc
     try dsimp only at hc
     have HC := Lib.hid hc; clear hc
     go_wp2_with fail
     refine HC.out.mono ?_
     rintro e w_35 ⟨rfl, hb⟩
     clear HC
     clear z_23 z_24 z_25 z_26 z_27 z_28 z_29 z_30 z_31 z_32 z_33 z_34
     have hb_36 := Lib.hid hb
     clear hb
     replace ba_1 := kH ba_1 hb_36
     obtain ⟨z_37, z_38, z_39⟩ := at3 ba_1
     replace bb_2 := kH bb_2 hb_36
     obtain ⟨z_40, z_41, z_42⟩ := at3 bb_2
     replace bz_3 := kH bz_3 hb_36
     obtain ⟨z_43, z_44, z_45, z_46, z_47, z_48⟩ := at6 bz_3
     clear la lb lc ld
     have fz_49 : (w_35).frozen? ⟨w.heap.size + 1 + 1, 0, none⟩ = false := Blk.frozen bz_3.out 0
     have fz_50 : (w_35).frozen? ⟨w.heap.size + 1 + 1, 1, none⟩ = false := Blk.frozen bz_3.out 1
     have fz_51 : (w_35).frozen? ⟨w.heap.size + 1 + 1, 2, none⟩ = false := Blk.frozen bz_3.out 2
     have fz_52 : (w_35).frozen? ⟨w.heap.size + 1 + 1, 3, none⟩ = false := Blk.frozen bz_3.out 3
     have fz_53 : (w_35).frozen? ⟨w.heap.size + 1 + 1, 4, none⟩ = false := Blk.frozen bz_3.out 4
     have fz_54 : (w_35).frozen? ⟨w.heap.size + 1 + 1, 5, none⟩ = false := Blk.frozen bz_3.out 5
     replace bel_4 := bH (bH bel_4 hb_22) hb_36
     have bl_55 := bel_4.out
     go_wp2
     refine bodyPost_ret (v := .tuple #[.agg #[.int .i64 c, .slice A n k, .slice B m j, .int .i64 d, .slice C n2 k2, .slice D m2 j2], .int .i64 0]) (by simp [results, Tryz.results96, go_sem, z_37, z_38, z_39, z_40, z_41, z_42, z_43, z_44, z_45, z_46, z_47, z_48, fz_49, fz_50, fz_51, fz_52, fz_53, fz_54]) rfl ⟨rfl, (by have hsz_ := Below.size bl_55; repeat' (first | with_reducible exact bl_55 | with_reducible exact Below.refl _ _ | with_reducible refine Below.alloc ?_ ?_ _ | with_reducible refine Below.setCell ?_ ?_ _ | with_reducible refine Below.drew ?_ | with_reducible refine below_setRow ?_ ?_ _ | omega | (simp; done) | (simp; omega)))⟩
set_option maxRecDepth 100000 in
theorem outlinesOf_no (c : Int) (A B : Option Addr) (n k m j : Nat) (ws ts : List Bnd) (d : Int) (C D : Option Addr) (n2 k2 m2 j2 : Nat) (ws2 ts2 : List Bnd) (w : World) (h1 : RdB w A n k ws) (h2 : RdB w B m j ts) (hn : n ≤ maxLen) (hm : m ≤ maxLen) (h3 : RdB w C n2 k2 ws2) (h4 : RdB w D m2 j2 ts2) (hn2 : n2 ≤ maxLen) (hm2 : m2 ≤ maxLen) (q : Int) (h0 : both ⟨c, ws, ts⟩ ⟨d, ws2, ts2⟩ = q) (hne : q ≠ 0) :
 Calls Tryz.prog 96 #[.agg #[.int .i64 c, .slice A n k, .slice B m j], .agg #[.int .i64 d, .slice C n2 k2, .slice D m2 j2]] w fun e w' => e = .returned (.tuple #[.agg #[.int .i64 0, .slice none 0 0, .slice none 0 0, .int .i64 0, .slice none 0 0, .slice none 0 0], .int .i64 q]) ∧ Below w.heap.size w w' := by
 unfold both at h0
 split at h0
 · have E1 := Lib.hid h0; clear h0
   have hq : (q != 0) = true := by simpa using hne
   clear hne
   rename_i h1; clear h1
   go_enter Tryz.func96, Tryz.ntmps96
   obtain ⟨ba_1, bb_2, bz_3, bel_4⟩ := ent3 w #[.int .i64 c, .slice A n k, .slice B m j] 24 #[.int .i64 d, .slice C n2 k2, .slice D m2 j2] 24 #[.int .i64 0, .slice none 0 0, .slice none 0 0, .int .i64 0, .slice none 0 0, .slice none 0 0] 99
   have ra_5 := rI h1 bel_4
   have rb_6 := rI h2 bel_4
   have rc_7 := rI h3 bel_4
   have rd_8 := rI h4 bel_4
   clear h1 h2 h3 h4
   have la := ra_5.out.len
   have lb := rb_6.out.len
   have lc := rc_7.out.len
   have ld := rd_8.out.len
   obtain ⟨z_9, z_10, z_11⟩ := at3 ba_1
   obtain ⟨z_12, z_13, z_14⟩ := at3 bb_2
   obtain ⟨z_15, z_16, z_17, z_18, z_19, z_20⟩ := at6 bz_3
   have hc := checkOutlines_any c A B n k m j ws ts d C D n2 k2 m2 j2 ws2 ts2 _ ra_5.out rb_6.out hn hm rc_7.out rd_8.out hn2 hm2
   rw [E1.out] at hc
   try dsimp only at hc
   have HC := Lib.hid hc; clear hc
   go_wp2_with fail
   refine HC.out.mono ?_
   rintro e w_21 ⟨rfl, hb⟩
   clear HC
   clear z_9 z_10 z_11 z_12 z_13 z_14 z_15 z_16 z_17 z_18 z_19 z_20
   have hb_22 := Lib.hid hb
   clear hb
   replace ba_1 := kH ba_1 hb_22
   obtain ⟨z_23, z_24, z_25⟩ := at3 ba_1
   replace bb_2 := kH bb_2 hb_22
   obtain ⟨z_26, z_27, z_28⟩ := at3 bb_2
   replace bz_3 := kH bz_3 hb_22
   obtain ⟨z_29, z_30, z_31, z_32, z_33, z_34⟩ := at6 bz_3
   have fz_35 : (w_21).frozen? ⟨w.heap.size + 1 + 1, 0, none⟩ = false := Blk.frozen bz_3.out 0
   have fz_36 : (w_21).frozen? ⟨w.heap.size + 1 + 1, 1, none⟩ = false := Blk.frozen bz_3.out 1
   have fz_37 : (w_21).frozen? ⟨w.heap.size + 1 + 1, 2, none⟩ = false := Blk.frozen bz_3.out 2
   have fz_38 : (w_21).frozen? ⟨w.heap.size + 1 + 1, 3, none⟩ = false := Blk.frozen bz_3.out 3
   have fz_39 : (w_21).frozen? ⟨w.heap.size + 1 + 1, 4, none⟩ = false := Blk.frozen bz_3.out 4
   have fz_40 : (w_21).frozen? ⟨w.heap.size + 1 + 1, 5, none⟩ = false := Blk.frozen bz_3.out 5
   replace bel_4 := bH bel_4 hb_22
   have bl_41 := bel_4.out
   go_wp2
   refine bodyPost_ret (v := .tuple #[.agg #[.int .i64 0, .slice none 0 0, .slice none 0 0, .int .i64 0, .slice none 0 0, .slice none 0 0], .int .i64 q]) (by simp [results, Tryz.results96, go_sem, z_23, z_24, z_25, z_26, z_27, z_28, z_29, z_30, z_31, z_32, z_33, z_34, fz_35, fz_36, fz_37, fz_38, fz_39, fz_40]) rfl ⟨rfl, (by have hsz_ := Below.size bl_41; repeat' (first | with_reducible exact bl_41 | with_reducible exact Below.refl _ _ | with_reducible refine Below.alloc ?_ ?_ _ | with_reducible refine Below.setCell ?_ ?_ _ | with_reducible refine Below.drew ?_ | with_reducible refine below_setRow ?_ ?_ _ | omega | (simp; done) | (simp; omega)))⟩
 · rename_i h1
   split at h0
   · rename_i h2
     subst h0
     have hoo : chkOO ⟨c, ws, ts⟩ ⟨d, ws2, ts2⟩ = 0 := by simpa using h1
     have HL4 := Lib.hid (chkOO_lens hoo)
     have E1 := Lib.hid hoo; have E2 := Lib.hid h2; clear hne h1 h2 hoo
     go_enter Tryz.func96, Tryz.ntmps96
     obtain ⟨ba_1, bb_2, bz_3, bel_4⟩ := ent3 w #[.int .i64 c, .slice A n k, .slice B m j] 24 #[.int .i64 d, .slice C n2 k2, .slice D m2 j2] 24 #[.int .i64 0, .slice none 0 0, .slice none 0 0, .int .i64 0, .slice none 0 0, .slice none 0 0] 99
     have ra_5 := rI h1 bel_4
     have rb_6 := rI h2 bel_4
     have rc_7 := rI h3 bel_4
     have rd_8 := rI h4 bel_4
     clear h1 h2 h3 h4
     have la := ra_5.out.len
     have lb := rb_6.out.len
     have lc := rc_7.out.len
     have ld := rd_8.out.len
     obtain ⟨z_9, z_10, z_11⟩ := at3 ba_1
     obtain ⟨z_12, z_13, z_14⟩ := at3 bb_2
     obtain ⟨z_15, z_16, z_17, z_18, z_19, z_20⟩ := at6 bz_3
     have hc := checkOutlines_any c A B n k m j ws ts d C D n2 k2 m2 j2 ws2 ts2 _ ra_5.out rb_6.out hn hm rc_7.out rd_8.out hn2 hm2
     rw [E1.out] at hc
     try dsimp only at hc
     have HC := Lib.hid hc; clear hc
     go_wp2_with fail
     refine HC.out.mono ?_
     rintro e w_21 ⟨rfl, hb⟩
     clear HC
     clear z_9 z_10 z_11 z_12 z_13 z_14 z_15 z_16 z_17 z_18 z_19 z_20
     have hb_22 := Lib.hid hb
     clear hb
     replace ba_1 := kH ba_1 hb_22
     obtain ⟨z_23, z_24, z_25⟩ := at3 ba_1
     replace bb_2 := kH bb_2 hb_22
     obtain ⟨z_26, z_27, z_28⟩ := at3 bb_2
     replace bz_3 := kH bz_3 hb_22
     obtain ⟨z_29, z_30, z_31, z_32, z_33, z_34⟩ := at6 bz_3
     have hc := areLarge_any c A B n k m j ws ts d C D n2 k2 m2 j2 ws2 ts2 (w_21) ⟨la, lb, lc, ld⟩ HL4.out
     rw [E2.out] at hc
     try dsimp only at hc
     have HC := Lib.hid hc; clear hc
     go_wp2_with fail
     refine HC.out.mono ?_
     rintro e w_35 ⟨rfl, hb⟩
     clear HC
     clear z_23 z_24 z_25 z_26 z_27 z_28 z_29 z_30 z_31 z_32 z_33 z_34
     have hb_36 := Lib.hid hb
     clear hb
     replace ba_1 := kH ba_1 hb_36
     obtain ⟨z_37, z_38, z_39⟩ := at3 ba_1
     replace bb_2 := kH bb_2 hb_36
     obtain ⟨z_40, z_41, z_42⟩ := at3 bb_2
     replace bz_3 := kH bz_3 hb_36
     obtain ⟨z_43, z_44, z_45, z_46, z_47, z_48⟩ := at6 bz_3
     clear la lb lc ld
     have fz_49 : (w_35).frozen? ⟨w.heap.size + 1 + 1, 0, none⟩ = false := Blk.frozen bz_3.out 0
     have fz_50 : (w_35).frozen? ⟨w.heap.size + 1 + 1, 1, none⟩ = false := Blk.frozen bz_3.out 1
     have fz_51 : (w_35).frozen? ⟨w.heap.size + 1 + 1, 2, none⟩ = false := Blk.frozen bz_3.out 2
     have fz_52 : (w_35).frozen? ⟨w.heap.size + 1 + 1, 3, none⟩ = false := Blk.frozen bz_3.out 3
     have fz_53 : (w_35).frozen? ⟨w.heap.size + 1 + 1, 4, none⟩ = false := Blk.frozen bz_3.out 4
     have fz_54 : (w_35).frozen? ⟨w.heap.size + 1 + 1, 5, none⟩ = false := Blk.frozen bz_3.out 5
     replace bel_4 := bH (bH bel_4 hb_22) hb_36
     have bl_55 := bel_4.out
     go_wp2
     refine bodyPost_ret (v := .tuple #[.agg #[.int .i64 0, .slice none 0 0, .slice none 0 0, .int .i64 0, .slice none 0 0, .slice none 0 0], .int .i64 2]) (by simp [results, Tryz.results96, go_sem, z_37, z_38, z_39, z_40, z_41, z_42, z_43, z_44, z_45, z_46, z_47, z_48, fz_49, fz_50, fz_51, fz_52, fz_53, fz_54]) rfl ⟨rfl, (by have hsz_ := Below.size bl_55; repeat' (first | with_reducible exact bl_55 | with_reducible exact Below.refl _ _ | with_reducible refine Below.alloc ?_ ?_ _ | with_reducible refine Below.setCell ?_ ?_ _ | with_reducible refine Below.drew ?_ | with_reducible refine below_setRow ?_ ?_ _ | omega | (simp; done) | (simp; omega)))⟩
   · exact absurd h0.symm hne
set_option maxRecDepth 100000 in
theorem most_any (c : Int) (A B : Option Addr) (n k m j : Nat) (d : Int) (C D : Option Addr) (n2 k2 m2 j2 : Nat) (w : World) :
 Calls Tryz.prog 100 #[.agg #[.int .i64 c, .slice A n k, .slice B m j, .int .i64 d, .slice C n2 k2, .slice D m2 j2]] w fun e w' => e = .returned (.int .i64 (min c d)) ∧ Below w.heap.size w w' := by
  go_enter Tryz.func100, Tryz.ntmps100
  obtain ⟨bo_1, bel_2⟩ := ent1 w #[.int .i64 c, .slice A n k, .slice B m j, .int .i64 d, .slice C n2 k2, .slice D m2 j2] 99
  obtain ⟨z_3, z_4, z_5, z_6, z_7, z_8⟩ := at6 bo_1
  go_wp2
  go_ret
  exact ⟨ret_int (by omega), bel_2.out⟩
theorem meeting_any (c : Int) (A B : Option Addr) (n k m j : Nat) (d : Int) (C D : Option Addr) (n2 k2 m2 j2 : Nat) (s : Int) (w : World) :
 Calls Tryz.prog 98 #[.agg #[.int .i64 c, .slice A n k, .slice B m j, .int .i64 d, .slice C n2 k2, .slice D m2 j2], .int .i64 s] w fun e w' => ∃ g, e = .returned (.func (.func 136) #[] #[.pointer (some ⟨g, 0, none⟩), .pointer (some ⟨g + 1, 0, none⟩)]) ∧
  (Blk w' g 99 #[.int .i64 c, .slice A n k, .slice B m j, .int .i64 d, .slice C n2 k2, .slice D m2 j2] ∧ Blk w' (g + 1) 3 #[.int .i64 s]) ∧ Below w.heap.size w w' := by
 refine (callsIn_wide.1 (meeting_in 9 c A B n k m j d C D n2 k2 m2 j2 s w)).mono ?_
 rintro e w' ⟨rfl, rfl⟩
 refine ⟨w.heap.size, rfl, ⟨(Blk.new w _ _).alloc _, ?_⟩, ((Below.refl _ w).alloc (Nat.le_refl _) _).alloc (by simp) _⟩
 have h := Blk.new (w.alloc (.cells #[.int .i64 c, .slice A n k, .slice B m j, .int .i64 d, .slice C n2 k2, .slice D m2 j2] 99)) 3 #[.int .i64 s]
 rwa [World.size_alloc] at h
end Go.Proofs.YtaoanagmgheicaaGreat
