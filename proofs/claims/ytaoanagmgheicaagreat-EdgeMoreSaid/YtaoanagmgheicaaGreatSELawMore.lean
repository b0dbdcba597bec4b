import Derived.Test.YtaoanagmgheicaaGreatRows
import Derived.Test.YtaoanagmgheicaaGreatSEOpen
import Derived.Test.YtaoanagmgheicaaGreatSEMoreM
set_option linter.unusedSimpArgs false
set_option linter.unusedVariables false
namespace Go.Proofs.YtaoanagmgheicaaGreat
open Go.ChangeShapes Go.WideShapes Go.ChangeAt Go.RowKit
set_option maxRecDepth 100000 in
set_option maxHeartbeats 4000000 in
theorem em_w (c : Int) (A B : Option Addr) (n k m j : Nat) (ws ts : List Bnd) (d : Int) (C D : Option Addr) (n2 k2 m2 j2 : Nat) (ws2 ts2 : List Bnd) (p1 p2 p3 p4 : Int) (w : World) (h1 : RdB w A n k ws) (h2 : RdB w B m j ts) (hn : n ≤ maxLen) (hm : m ≤ maxLen) (h3 : RdB w C n2 k2 ws2) (h4 : RdB w D m2 j2 ts2) (hn2 : n2 ≤ maxLen) (hm2 : m2 ≤ maxLen) (u : Bool) (xf xt xm xi : Int) (hs : (decide (n ≤ 40) && decide (m ≤ 40) && decide (n2 ≤ 40) && decide (m2 ≤ 40)) = false) :
 Calls Tryz.prog 15 #[.agg #[.int .i64 c, .slice A n k, .slice B m j], .agg #[.int .i64 d, .slice C n2 k2, .slice D m2 j2], .agg #[.int .i64 p1, .int .i64 p2, .int .i64 p3, .int .i64 p4], .bool u, .agg #[.int .i64 xf, .int .i64 xt, .int .i64 xm, .int .i64 xi]] w fun e w' => e = .returned (.bool true) ∧ Below w.heap.size w w' := by
  go_enter Tryz.func15, Tryz.ntmps15
  have bel_1 := Lib.hid (show Below w.heap.size w w from Below.refl _ w)
  have ra_2 := Lib.hid (h1)
  clear h1
  have rb_3 := Lib.hid (h2)
  clear h2
  have rc_4 := Lib.hid (h3)
  clear h3
  have rd_5 := Lib.hid (h4)
  clear h4
  obtain ⟨o_, ho_⟩ : ∃ o, o = ((.cells #[.int .i64 c, .slice A n k, .slice B m j] 24) : Obj) := ⟨_, rfl⟩
  replace bel_1 := bA bel_1 o_
  replace ra_2 := rA ra_2 o_
  replace rb_3 := rA rb_3 o_
  replace rc_4 := rA rc_4 o_
  replace rd_5 := rA rd_5 o_
  subst ho_
  have ba_6 := Lib.hid (Blk.new w 24 #[.int .i64 c, .slice A n k, .slice B m j])
  obtain ⟨o_, ho_⟩ : ∃ o, o = ((.cells #[.int .i64 d, .slice C n2 k2, .slice D m2 j2] 24) : Obj) := ⟨_, rfl⟩
  replace bel_1 := bA bel_1 o_
  replace ra_2 := rA ra_2 o_
  replace rb_3 := rA rb_3 o_
  replace rc_4 := rA rc_4 o_
  replace rd_5 := rA rd_5 o_
  replace ba_6 := kA ba_6 o_
  subst ho_
  have nb_ := Blk.new (w.alloc (.cells #[.int .i64 c, .slice A n k, .slice B m j] 24)) 24 #[.int .i64 d, .slice C n2 k2, .slice D m2 j2]
  simp only [World.size_alloc] at nb_
  have bb_7 := Lib.hid nb_; clear nb_
  obtain ⟨o_, ho_⟩ : ∃ o, o = ((.cells #[.int .i64 p1, .int .i64 p2, .int .i64 p3, .int .i64 p4] 28) : Obj) := ⟨_, rfl⟩
  replace bel_1 := bA bel_1 o_
  replace ra_2 := rA ra_2 o_
  replace rb_3 := rA rb_3 o_
  replace rc_4 := rA rc_4 o_
  replace rd_5 := rA rd_5 o_
  replace ba_6 := kA ba_6 o_
  replace bb_7 := kA bb_7 o_
  subst ho_
  have nb_ := Blk.new ((w.alloc (.cells #[.int .i64 c, .slice A n k, .slice B m j] 24)).alloc (.cells #[.int .i64 d, .slice C n2 k2, .slice D m2 j2] 24)) 28 #[.int .i64 p1, .int .i64 p2, .int .i64 p3, .int .i64 p4]
  simp only [World.size_alloc] at nb_
  have bp_8 := Lib.hid nb_; clear nb_
  obtain ⟨o_, ho_⟩ : ∃ o, o = ((.cells #[.int .i64 xf, .int .i64 xt, .int .i64 xm, .int .i64 xi] 30) : Obj) := ⟨_, rfl⟩
  replace bel_1 := bA bel_1 o_
  replace ra_2 := rA ra_2 o_
  replace rb_3 := rA rb_3 o_
  replace rc_4 := rA rc_4 o_
  replace rd_5 := rA rd_5 o_
  replace ba_6 := kA ba_6 o_
  replace bb_7 := kA bb_7 o_
  replace bp_8 := kA bp_8 o_
  subst ho_
  have nb_ := Blk.new (((w.alloc (.cells #[.int .i64 c, .slice A n k, .slice B m j] 24)).alloc (.cells #[.int .i64 d, .slice C n2 k2, .slice D m2 j2] 24)).alloc (.cells #[.int .i64 p1, .int .i64 p2, .int .i64 p3, .int .i64 p4] 28)) 30 #[.int .i64 xf, .int .i64 xt, .int .i64 xm, .int .i64 xi]
  simp only [World.size_alloc] at nb_
  have bx_9 := Lib.hid nb_; clear nb_
  obtain ⟨z_10, z_11, z_12⟩ := at3 ba_6
  obtain ⟨z_13, z_14, z_15⟩ := at3 bb_7
  obtain ⟨z_16, z_17, z_18, z_19⟩ := at4 bp_8
  obtain ⟨z_20, z_21, z_22, z_23⟩ := at4 bx_9
  clear z_10 z_11 z_12 z_13 z_14 z_15 z_16 z_17 z_18 z_19 z_20 z_21 z_22 z_23
  obtain ⟨o_, ho_⟩ : ∃ o, o = ((.cells #[.int .i64 c, .slice A n k, .slice B m j, .int .i64 d, .slice C n2 k2, .slice D m2 j2] 24) : Obj) := ⟨_, rfl⟩
  replace bel_1 := bA bel_1 o_
  replace ra_2 := rA ra_2 o_
  replace rb_3 := rA rb_3 o_
  replace rc_4 := rA rc_4 o_
  replace rd_5 := rA rd_5 o_
  replace ba_6 := kA ba_6 o_
  replace bb_7 := kA bb_7 o_
  replace bp_8 := kA bp_8 o_
  replace bx_9 := kA bx_9 o_
  subst ho_
  have nb_ := Blk.new ((((w.alloc (.cells #[.int .i64 c, .slice A n k, .slice B m j] 24)).alloc (.cells #[.int .i64 d, .slice C n2 k2, .slice D m2 j2] 24)).alloc (.cells #[.int .i64 p1, .int .i64 p2, .int .i64 p3, .int .i64 p4] 28)).alloc (.cells #[.int .i64 xf, .int .i64 xt, .int .i64 xm, .int .i64 xi] 30)) 24 #[.int .i64 c, .slice A n k, .slice B m j, .int .i64 d, .slice C n2 k2, .slice D m2 j2]
  simp only [World.size_alloc] at nb_
  have bs_24 := Lib.hid nb_; clear nb_
  have hc := (show Calls Tryz.prog 30 #[.slice (some ⟨w.heap.size + 1 + 1 + 1 + 1, 0, none⟩) 2 2] ((((((w.alloc (.cells #[.int .i64 c, .slice A n k, .slice B m j] 24)).alloc (.cells #[.int .i64 d, .slice C n2 k2, .slice D m2 j2] 24)).alloc (.cells #[.int .i64 p1, .int .i64 p2, .int .i64 p3, .int .i64 p4] 28)).alloc (.cells #[.int .i64 xf, .int .i64 xt, .int .i64 xm, .int .i64 xi] 30)).alloc (.cells #[.int .i64 c, .slice A n k, .slice B m j, .int .i64 d, .slice C n2 k2, .slice D m2 j2] 24))) fun e w' => e = .returned (.bool false) ∧ Below ((((((w.alloc (.cells #[.int .i64 c, .slice A n k, .slice B m j] 24)).alloc (.cells #[.int .i64 d, .slice C n2 k2, .slice D m2 j2] 24)).alloc (.cells #[.int .i64 p1, .int .i64 p2, .int .i64 p3, .int .i64 p4] 28)).alloc (.cells #[.int .i64 xf, .int .i64 xt, .int .i64 xm, .int .i64 xi] 30)).alloc (.cells #[.int .i64 c, .slice A n k, .slice B m j, .int .i64 d, .slice C n2 k2, .slice D m2 j2] 24))).heap.size ((((((w.alloc (.cells #[.int .i64 c, .slice A n k, .slice B m j] 24)).alloc (.cells #[.int .i64 d, .slice C n2 k2, .slice D m2 j2] 24)).alloc (.cells #[.int .i64 p1, .int .i64 p2, .int .i64 p3, .int .i64 p4] 28)).alloc (.cells #[.int .i64 xf, .int .i64 xt, .int .i64 xm, .int .i64 xi] 30)).alloc (.cells #[.int .i64 c, .slice A n k, .slice B m j, .int .i64 d, .slice C n2 k2, .slice D m2 j2] 24))) w' from by have h := small3_any c A B n k m j d C D n2 k2 m2 j2 (w.heap.size + 1 + 1 + 1 + 1) ((((((w.alloc (.cells #[.int .i64 c, .slice A n k, .slice B m j] 24)).alloc (.cells #[.int .i64 d, .slice C n2 k2, .slice D m2 j2] 24)).alloc (.cells #[.int .i64 p1, .int .i64 p2, .int .i64 p3, .int .i64 p4] 28)).alloc (.cells #[.int .i64 xf, .int .i64 xt, .int .i64 xm, .int .i64 xi] 30)).alloc (.cells #[.int .i64 c, .slice A n k, .slice B m j, .int .i64 d, .slice C n2 k2, .slice D m2 j2] 24))) bs_24.out; rw [show (decide (n ≤ 40) && decide (m ≤ 40) && decide (n2 ≤ 40) && decide (m2 ≤ 40)) = false from hs] at h; exact h)
  have HC := Lib.hid hc; clear hc
  go_wp2_with fail
  refine HC.out.mono ?_
  rintro e w_25 ⟨rfl, hb⟩
  clear HC
  replace bel_1 := bB bel_1 hb
  replace ra_2 := rB ra_2 hb
  replace rb_3 := rB rb_3 hb
  replace rc_4 := rB rc_4 hb
  replace rd_5 := rB rd_5 hb
  replace ba_6 := kB ba_6 hb
  replace bb_7 := kB bb_7 hb
  replace bp_8 := kB bp_8 hb
  replace bx_9 := kB bx_9 hb
  replace bs_24 := kB bs_24 hb
  clear hb
  obtain ⟨z_26, z_27, z_28⟩ := at3 ba_6
  obtain ⟨z_29, z_30, z_31⟩ := at3 bb_7
  obtain ⟨z_32, z_33, z_34, z_35⟩ := at4 bp_8
  obtain ⟨z_36, z_37, z_38, z_39⟩ := at4 bx_9
  have hc := joined_any (w_25)
  have HC := Lib.hid hc; clear hc
  go_wp2_with fail
  refine HC.out.mono ?_
  rintro e w_40 ⟨rfl, hb⟩
  clear HC
  clear z_26 z_27 z_28 z_29 z_30 z_31 z_32 z_33 z_34 z_35 z_36 z_37 z_38 z_39
  replace bel_1 := bB bel_1 hb
  replace ra_2 := rB ra_2 hb
  replace rb_3 := rB rb_3 hb
  replace rc_4 := rB rc_4 hb
  replace rd_5 := rB rd_5 hb
  replace ba_6 := kB ba_6 hb
  replace bb_7 := kB bb_7 hb
  replace bp_8 := kB bp_8 hb
  replace bx_9 := kB bx_9 hb
  clear hb
  obtain ⟨z_41, z_42, z_43⟩ := at3 ba_6
  obtain ⟨z_44, z_45, z_46⟩ := at3 bb_7
  obtain ⟨z_47, z_48, z_49, z_50⟩ := at4 bp_8
  obtain ⟨z_51, z_52, z_53, z_54⟩ := at4 bx_9
  go_wp2
  go_ret
  exact ⟨rfl, bel_1.out⟩
set_option maxRecDepth 100000 in
set_option maxHeartbeats 4000000 in
theorem em_err (c : Int) (A B : Option Addr) (n k m j : Nat) (ws ts : List Bnd) (d : Int) (C D : Option Addr) (n2 k2 m2 j2 : Nat) (ws2 ts2 : List Bnd) (p1 p2 p3 p4 : Int) (w : World) (h1 : RdB w A n k ws) (h2 : RdB w B m j ts) (hn : n ≤ maxLen) (hm : m ≤ maxLen) (h3 : RdB w C n2 k2 ws2) (h4 : RdB w D m2 j2 ts2) (hn2 : n2 ≤ maxLen) (hm2 : m2 ≤ maxLen) (u : Bool) (xf xt xm xi : Int) (hs : (decide (n ≤ 40) && decide (m ≤ 40) && decide (n2 ≤ 40) && decide (m2 ≤ 40)) = true) (q cc : Int) (wc tc : List Bnd) (HW : Hid (∀ W, RdB W A n k ws → RdB W B m j ts → Calls Tryz.prog 18 #[.agg #[.int .i64 c, .slice A n k, .slice B m j], .bool u, .agg #[.int .i64 xf, .int .i64 xt, .int .i64 xm, .int .i64 xi]] W fun e w' => ∃ E n k F m j, e = .returned (.tuple #[.agg #[.int .i64 cc, .slice E n k, .slice F m j], .int .i64 q]) ∧ RdB w' E n k wc ∧ RdB w' F m j tc ∧ n ≤ maxLen ∧ m ≤ maxLen ∧ Below W.heap.size W w')) (hq : (q != 0) = true) :
 Calls Tryz.prog 15 #[.agg #[.int .i64 c, .slice A n k, .slice B m j], .agg #[.int .i64 d, .slice C n2 k2, .slice D m2 j2], .agg #[.int .i64 p1, .int .i64 p2, .int .i64 p3, .int .i64 p4], .bool u, .agg #[.int .i64 xf, .int .i64 xt, .int .i64 xm, .int .i64 xi]] w fun e w' => e = .returned (.bool true) ∧ Below w.heap.size w w' := by
  go_enter Tryz.func15, Tryz.ntmps15
  have bel_1 := Lib.hid (show Below w.heap.size w w from Below.refl _ w)
  have ra_2 := Lib.hid (h1)
  clear h1
  have rb_3 := Lib.hid (h2)
  clear h2
  have rc_4 := Lib.hid (h3)
  clear h3
  have rd_5 := Lib.hid (h4)
  clear h4
  obtain ⟨o_, ho_⟩ : ∃ o, o = ((.cells #[.int .i64 c, .slice A n k, .slice B m j] 24) : Obj) := ⟨_, rfl⟩
  replace bel_1 := bA bel_1 o_
  replace ra_2 := rA ra_2 o_
  replace rb_3 := rA rb_3 o_
  replace rc_4 := rA rc_4 o_
  replace rd_5 := rA rd_5 o_
  subst ho_
  have ba_6 := Lib.hid (Blk.new w 24 #[.int .i64 c, .slice A n k, .slice B m j])
  obtain ⟨o_, ho_⟩ : ∃ o, o = ((.cells #[.int .i64 d, .slice C n2 k2, .slice D m2 j2] 24) : Obj) := ⟨_, rfl⟩
  replace bel_1 := bA bel_1 o_
  replace ra_2 := rA ra_2 o_
  replace rb_3 := rA rb_3 o_
  replace rc_4 := rA rc_4 o_
  replace rd_5 := rA rd_5 o_
  replace ba_6 := kA ba_6 o_
  subst ho_
  have nb_ := Blk.new (w.alloc (.cells #[.int .i64 c, .slice A n k, .slice B m j] 24)) 24 #[.int .i64 d, .slice C n2 k2, .slice D m2 j2]
  simp only [World.size_alloc] at nb_
  have bb_7 := Lib.hid nb_; clear nb_
  obtain ⟨o_, ho_⟩ : ∃ o, o = ((.cells #[.int .i64 p1, .int .i64 p2, .int .i64 p3, .int .i64 p4] 28) : Obj) := ⟨_, rfl⟩
  replace bel_1 := bA bel_1 o_
  replace ra_2 := rA ra_2 o_
  replace rb_3 := rA rb_3 o_
  replace rc_4 := rA rc_4 o_
  replace rd_5 := rA rd_5 o_
  replace ba_6 := kA ba_6 o_
  replace bb_7 := kA bb_7 o_
  subst ho_
  have nb_ := Blk.new ((w.alloc (.cells #[.int .i64 c, .slice A n k, .slice B m j] 24)).alloc (.cells #[.int .i64 d, .slice C n2 k2, .slice D m2 j2] 24)) 28 #[.int .i64 p1, .int .i64 p2, .int .i64 p3, .int .i64 p4]
  simp only [World.size_alloc] at nb_
  have bp_8 := Lib.hid nb_; clear nb_
  obtain ⟨o_, ho_⟩ : ∃ o, o = ((.cells #[.int .i64 xf, .int .i64 xt, .int .i64 xm, .int .i64 xi] 30) : Obj) := ⟨_, rfl⟩
  replace bel_1 := bA bel_1 o_
  replace ra_2 := rA ra_2 o_
  replace rb_3 := rA rb_3 o_
  replace rc_4 := rA rc_4 o_
  replace rd_5 := rA rd_5 o_
  replace ba_6 := kA ba_6 o_
  replace bb_7 := kA bb_7 o_
  replace bp_8 := kA bp_8 o_
  subst ho_
  have nb_ := Blk.new (((w.alloc (.cells #[.int .i64 c, .slice A n k, .slice B m j] 24)).alloc (.cells #[.int .i64 d, .slice C n2 k2, .slice D m2 j2] 24)).alloc (.cells #[.int .i64 p1, .int .i64 p2, .int .i64 p3, .int .i64 p4] 28)) 30 #[.int .i64 xf, .int .i64 xt, .int .i64 xm, .int .i64 xi]
  simp only [World.size_alloc] at nb_
  have bx_9 := Lib.hid nb_; clear nb_
  obtain ⟨z_10, z_11, z_12⟩ := at3 ba_6
  obtain ⟨z_13, z_14, z_15⟩ := at3 bb_7
  obtain ⟨z_16, z_17, z_18, z_19⟩ := at4 bp_8
  obtain ⟨z_20, z_21, z_22, z_23⟩ := at4 bx_9
  clear z_10 z_11 z_12 z_13 z_14 z_15 z_16 z_17 z_18 z_19 z_20 z_21 z_22 z_23
  obtain ⟨o_, ho_⟩ : ∃ o, o = ((.cells #[.int .i64 c, .slice A n k, .slice B m j, .int .i64 d, .slice C n2 k2, .slice D m2 j2] 24) : Obj) := ⟨_, rfl⟩
  replace bel_1 := bA bel_1 o_
  replace ra_2 := rA ra_2 o_
  replace rb_3 := rA rb_3 o_
  replace rc_4 := rA rc_4 o_
  replace rd_5 := rA rd_5 o_
  replace ba_6 := kA ba_6 o_
  replace bb_7 := kA bb_7 o_
  replace bp_8 := kA bp_8 o_
  replace bx_9 := kA bx_9 o_
  subst ho_
  have nb_ := Blk.new ((((w.alloc (.cells #[.int .i64 c, .slice A n k, .slice B m j] 24)).alloc (.cells #[.int .i64 d, .slice C n2 k2, .slice D m2 j2] 24)).alloc (.cells #[.int .i64 p1, .int .i64 p2, .int .i64 p3, .int .i64 p4] 28)).alloc (.cells #[.int .i64 xf, .int .i64 xt, .int .i64 xm, .int .i64 xi] 30)) 24 #[.int .i64 c, .slice A n k, .slice B m j, .int .i64 d, .slice C n2 k2, .slice D m2 j2]
  simp only [World.size_alloc] at nb_
  have bs_24 := Lib.hid nb_; clear nb_
  have hc := (show Calls Tryz.prog 30 #[.slice (some ⟨w.heap.size + 1 + 1 + 1 + 1, 0, none⟩) 2 2] ((((((w.alloc (.cells #[.int .i64 c, .slice A n k, .slice B m j] 24)).alloc (.cells #[.int .i64 d, .slice C n2 k2, .slice D m2 j2] 24)).alloc (.cells #[.int .i64 p1, .int .i64 p2, .int .i64 p3, .int .i64 p4] 28)).alloc (.cells #[.int .i64 xf, .int .i64 xt, .int .i64 xm, .int .i64 xi] 30)).alloc (.cells #[.int .i64 c, .slice A n k, .slice B m j, .int .i64 d, .slice C n2 k2, .slice D m2 j2] 24))) fun e w' => e = .returned (.bool true) ∧ Below ((((((w.alloc (.cells #[.int .i64 c, .slice A n k, .slice B m j] 24)).alloc (.cells #[.int .i64 d, .slice C n2 k2, .slice D m2 j2] 24)).alloc (.cells #[.int .i64 p1, .int .i64 p2, .int .i64 p3, .int .i64 p4] 28)).alloc (.cells #[.int .i64 xf, .int .i64 xt, .int .i64 xm, .int .i64 xi] 30)).alloc (.cells #[.int .i64 c, .slice A n k, .slice B m j, .int .i64 d, .slice C n2 k2, .slice D m2 j2] 24))).heap.size ((((((w.alloc (.cells #[.int .i64 c, .slice A n k, .slice B m j] 24)).alloc (.cells #[.int .i64 d, .slice C n2 k2, .slice D m2 j2] 24)).alloc (.cells #[.int .i64 p1, .int .i64 p2, .int .i64 p3, .int .i64 p4] 28)).alloc (.cells #[.int .i64 xf, .int .i64 xt, .int .i64 xm, .int .i64 xi] 30)).alloc (.cells #[.int .i64 c, .slice A n k, .slice B m j, .int .i64 d, .slice C n2 k2, .slice D m2 j2] 24))) w' from by have h := small3_any c A B n k m j d C D n2 k2 m2 j2 (w.heap.size + 1 + 1 + 1 + 1) ((((((w.alloc (.cells #[.int .i64 c, .slice A n k, .slice B m j] 24)).alloc (.cells #[.int .i64 d, .slice C n2 k2, .slice D m2 j2] 24)).alloc (.cells #[.int .i64 p1, .int .i64 p2, .int .i64 p3, .int .i64 p4] 28)).alloc (.cells #[.int .i64 xf, .int .i64 xt, .int .i64 xm, .int .i64 xi] 30)).alloc (.cells #[.int .i64 c, .slice A n k, .slice B m j, .int .i64 d, .slice C n2 k2, .slice D m2 j2] 24))) bs_24.out; rw [show (decide (n ≤ 40) && decide (m ≤ 40) && decide (n2 ≤ 40) && decide (m2 ≤ 40)) = true from hs] at h; exact h)
  have HC := Lib.hid hc; clear hc
  go_wp2_with fail
  refine HC.out.mono ?_
  rintro e w_25 ⟨rfl, hb⟩
  clear HC
  replace bel_1 := bB bel_1 hb
  replace ra_2 := rB ra_2 hb
  replace rb_3 := rB rb_3 hb
  replace rc_4 := rB rc_4 hb
  replace rd_5 := rB rd_5 hb
  replace ba_6 := kB ba_6 hb
  replace bb_7 := kB bb_7 hb
  replace bp_8 := kB bp_8 hb
  replace bx_9 := kB bx_9 hb
  replace bs_24 := kB bs_24 hb
  clear hb
  obtain ⟨z_26, z_27, z_28⟩ := at3 ba_6
  obtain ⟨z_29, z_30, z_31⟩ := at3 bb_7
  obtain ⟨z_32, z_33, z_34, z_35⟩ := at4 bp_8
  obtain ⟨z_36, z_37, z_38, z_39⟩ := at4 bx_9
  have hc := HW.out (w_25) ra_2.out rb_3.out
  have HC := Lib.hid hc; clear hc
  go_wp2_with fail
  refine HC.out.mono ?_
  rintro e w_40 ⟨EC, ec, kc, FC, fc, lc, rfl, hE, hF, hec, hfc, hb⟩
  clear HC
  clear z_26 z_27 z_28 z_29 z_30 z_31 z_32 z_33 z_34 z_35 z_36 z_37 z_38 z_39
  replace bel_1 := bB bel_1 hb
  replace ra_2 := rB ra_2 hb
  replace rb_3 := rB rb_3 hb
  replace rc_4 := rB rc_4 hb
  replace rd_5 := rB rd_5 hb
  replace ba_6 := kB ba_6 hb
  replace bb_7 := kB bb_7 hb
  replace bp_8 := kB bp_8 hb
  replace bx_9 := kB bx_9 hb
  clear hb
  have re_41 := Lib.hid (hE)
  clear hE
  have rf_42 := Lib.hid (hF)
  clear hF
  obtain ⟨z_43, z_44, z_45⟩ := at3 ba_6
  obtain ⟨z_46, z_47, z_48⟩ := at3 bb_7
  obtain ⟨z_49, z_50, z_51, z_52⟩ := at4 bp_8
  obtain ⟨z_53, z_54, z_55, z_56⟩ := at4 bx_9
  obtain ⟨o_, ho_⟩ : ∃ o, o = ((.cells #[.int .i64 cc, .slice EC ec kc, .slice FC fc lc] 24) : Obj) := ⟨_, rfl⟩
  replace bel_1 := bA bel_1 o_
  replace ra_2 := rA ra_2 o_
  replace rb_3 := rA rb_3 o_
  replace rc_4 := rA rc_4 o_
  replace rd_5 := rA rd_5 o_
  replace ba_6 := kA ba_6 o_
  replace bb_7 := kA bb_7 o_
  replace bp_8 := kA bp_8 o_
  replace bx_9 := kA bx_9 o_
  replace re_41 := rA re_41 o_
  replace rf_42 := rA rf_42 o_
  subst ho_
  have bc_57 := Lib.hid (Blk.new w_40 24 #[.int .i64 cc, .slice EC ec kc, .slice FC fc lc])
  obtain ⟨z_58, z_59, z_60⟩ := at3 ba_6
  obtain ⟨z_61, z_62, z_63⟩ := at3 bb_7
  obtain ⟨z_64, z_65, z_66, z_67⟩ := at4 bp_8
  obtain ⟨z_68, z_69, z_70, z_71⟩ := at4 bx_9
  obtain ⟨z_72, z_73, z_74⟩ := at3 bc_57
  have hc := joined_any ((w_40.alloc (.cells #[.int .i64 cc, .slice EC ec kc, .slice FC fc lc] 24)))
  have HC := Lib.hid hc; clear hc
  go_wp2_with fail
  refine HC.out.mono ?_
  rintro e w_75 ⟨rfl, hb⟩
  clear HC
  clear z_43 z_44 z_45 z_46 z_47 z_48 z_49 z_50 z_51 z_52 z_53 z_54 z_55 z_56 z_58 z_59 z_60 z_61 z_62 z_63 z_64 z_65 z_66 z_67 z_68 z_69 z_70 z_71 z_72 z_73 z_74
  replace bel_1 := bB bel_1 hb
  replace ra_2 := rB ra_2 hb
  replace rb_3 := rB rb_3 hb
  replace rc_4 := rB rc_4 hb
  replace rd_5 := rB rd_5 hb
  replace ba_6 := kB ba_6 hb
  replace bb_7 := kB bb_7 hb
  replace bp_8 := kB bp_8 hb
  replace bx_9 := kB bx_9 hb
  replace re_41 := rB re_41 hb
  replace rf_42 := rB rf_42 hb
  replace bc_57 := kB bc_57 hb
  clear hb
  obtain ⟨z_76, z_77, z_78⟩ := at3 ba_6
  obtain ⟨z_79, z_80, z_81⟩ := at3 bb_7
  obtain ⟨z_82, z_83, z_84, z_85⟩ := at4 bp_8
  obtain ⟨z_86, z_87, z_88, z_89⟩ := at4 bx_9
  obtain ⟨z_90, z_91, z_92⟩ := at3 bc_57
  go_wp2
  go_ret
  exact ⟨rfl, bel_1.out⟩
set_option maxRecDepth 100000 in
set_option maxHeartbeats 4000000 in
theorem em_asked (c : Int) (A B : Option Addr) (n k m j : Nat) (ws ts : List Bnd) (d : Int) (C D : Option Addr) (n2 k2 m2 j2 : Nat) (ws2 ts2 : List Bnd) (p1 p2 p3 p4 : Int) (w : World) (h1 : RdB w A n k ws) (h2 : RdB w B m j ts) (hn : n ≤ maxLen) (hm : m ≤ maxLen) (h3 : RdB w C n2 k2 ws2) (h4 : RdB w D m2 j2 ts2) (hn2 : n2 ≤ maxLen) (hm2 : m2 ≤ maxLen) (u : Bool) (xf xt xm xi : Int) (hs : (decide (n ≤ 40) && decide (m ≤ 40) && decide (n2 ≤ 40) && decide (m2 ≤ 40)) = true) (cc : Int) (wc tc : List Bnd) (HW : Hid (∀ W, RdB W A n k ws → RdB W B m j ts → Calls Tryz.prog 18 #[.agg #[.int .i64 c, .slice A n k, .slice B m j], .bool u, .agg #[.int .i64 xf, .int .i64 xt, .int .i64 xm, .int .i64 xi]] W fun e w' => ∃ E n k F m j, e = .returned (.tuple #[.agg #[.int .i64 cc, .slice E n k, .slice F m j], .int .i64 0]) ∧ RdB w' E n k wc ∧ RdB w' F m j tc ∧ n ≤ maxLen ∧ m ≤ maxLen ∧ Below W.heap.size W w')) (q : Int) (hq : (q != 0) = true) (M1 M2 : Bool) (lo hi lo2 hi2 s1 s2 : Int)
 (E1 : Hid (meetsV ⟨c, ws, ts⟩ ⟨d, ws2, ts2⟩ ⟨p1, p2, p3, p4⟩ = (M1, q))) (E2 : Hid (meetsV ⟨cc, wc, tc⟩ ⟨d, ws2, ts2⟩ ⟨p1, p2, p3, p4⟩ = (M2, q))) (E3 : Hid (sharedV ⟨c, ws, ts⟩ ⟨d, ws2, ts2⟩ ⟨p1, p2, p3, p4⟩ = (lo, hi, s1))) (E4 : Hid (sharedV ⟨cc, wc, tc⟩ ⟨d, ws2, ts2⟩ ⟨p1, p2, p3, p4⟩ = (lo2, hi2, s2))) :
 Calls Tryz.prog 15 #[.agg #[.int .i64 c, .slice A n k, .slice B m j], .agg #[.int .i64 d, .slice C n2 k2, .slice D m2 j2], .agg #[.int .i64 p1, .int .i64 p2, .int .i64 p3, .int .i64 p4], .bool u, .agg #[.int .i64 xf, .int .i64 xt, .int .i64 xm, .int .i64 xi]] w fun e w' => e = .returned (.bool true) ∧ Below w.heap.size w w' := by
  go_enter Tryz.func15, Tryz.ntmps15
  have bel_1 := Lib.hid (show Below w.heap.size w w from Below.refl _ w)
  have ra_2 := Lib.hid (h1)
  clear h1
  have rb_3 := Lib.hid (h2)
  clear h2
  have rc_4 := Lib.hid (h3)
  clear h3
  have rd_5 := Lib.hid (h4)
  clear h4
  obtain ⟨o_, ho_⟩ : ∃ o, o = ((.cells #[.int .i64 c, .slice A n k, .slice B m j] 24) : Obj) := ⟨_, rfl⟩
  replace bel_1 := bA bel_1 o_
  replace ra_2 := rA ra_2 o_
  replace rb_3 := rA rb_3 o_
  replace rc_4 := rA rc_4 o_
  replace rd_5 := rA rd_5 o_
  subst ho_
  have ba_6 := Lib.hid (Blk.new w 24 #[.int .i64 c, .slice A n k, .slice B m j])
  obtain ⟨o_, ho_⟩ : ∃ o, o = ((.cells #[.int .i64 d, .slice C n2 k2, .slice D m2 j2] 24) : Obj) := ⟨_, rfl⟩
  replace bel_1 := bA bel_1 o_
  replace ra_2 := rA ra_2 o_
  replace rb_3 := rA rb_3 o_
  replace rc_4 := rA rc_4 o_
  replace rd_5 := rA rd_5 o_
  replace ba_6 := kA ba_6 o_
  subst ho_
  have nb_ := Blk.new (w.alloc (.cells #[.int .i64 c, .slice A n k, .slice B m j] 24)) 24 #[.int .i64 d, .slice C n2 k2, .slice D m2 j2]
  simp only [World.size_alloc] at nb_
  have bb_7 := Lib.hid nb_; clear nb_
  obtain ⟨o_, ho_⟩ : ∃ o, o = ((.cells #[.int .i64 p1, .int .i64 p2, .int .i64 p3, .int .i64 p4] 28) : Obj) := ⟨_, rfl⟩
  replace bel_1 := bA bel_1 o_
  replace ra_2 := rA ra_2 o_
  replace rb_3 := rA rb_3 o_
  replace rc_4 := rA rc_4 o_
  replace rd_5 := rA rd_5 o_
  replace ba_6 := kA ba_6 o_
  replace bb_7 := kA bb_7 o_
  subst ho_
  have nb_ := Blk.new ((w.alloc (.cells #[.int .i64 c, .slice A n k, .slice B m j] 24)).alloc (.cells #[.int .i64 d, .slice C n2 k2, .slice D m2 j2] 24)) 28 #[.int .i64 p1, .int .i64 p2, .int .i64 p3, .int .i64 p4]
  simp only [World.size_alloc] at nb_
  have bp_8 := Lib.hid nb_; clear nb_
  obtain ⟨o_, ho_⟩ : ∃ o, o = ((.cells #[.int .i64 xf, .int .i64 xt, .int .i64 xm, .int .i64 xi] 30) : Obj) := ⟨_, rfl⟩
  replace bel_1 := bA bel_1 o_
  replace ra_2 := rA ra_2 o_
  replace rb_3 := rA rb_3 o_
  replace rc_4 := rA rc_4 o_
  replace rd_5 := rA rd_5 o_
  replace ba_6 := kA ba_6 o_
  replace bb_7 := kA bb_7 o_
  replace bp_8 := kA bp_8 o_
  subst ho_
  have nb_ := Blk.new (((w.alloc (.cells #[.int .i64 c, .slice A n k, .slice B m j] 24)).alloc (.cells #[.int .i64 d, .slice C n2 k2, .slice D m2 j2] 24)).alloc (.cells #[.int .i64 p1, .int .i64 p2, .int .i64 p3, .int .i64 p4] 28)) 30 #[.int .i64 xf, .int .i64 xt, .int .i64 xm, .int .i64 xi]
  simp only [World.size_alloc] at nb_
  have bx_9 := Lib.hid nb_; clear nb_
  obtain ⟨z_10, z_11, z_12⟩ := at3 ba_6
  obtain ⟨z_13, z_14, z_15⟩ := at3 bb_7
  obtain ⟨z_16, z_17, z_18, z_19⟩ := at4 bp_8
  obtain ⟨z_20, z_21, z_22, z_23⟩ := at4 bx_9
  clear z_10 z_11 z_12 z_13 z_14 z_15 z_16 z_17 z_18 z_19 z_20 z_21 z_22 z_23
  obtain ⟨o_, ho_⟩ : ∃ o, o = ((.cells #[.int .i64 c, .slice A n k, .slice B m j, .int .i64 d, .slice C n2 k2, .slice D m2 j2] 24) : Obj) := ⟨_, rfl⟩
  replace bel_1 := bA bel_1 o_
  replace ra_2 := rA ra_2 o_
  replace rb_3 := rA rb_3 o_
  replace rc_4 := rA rc_4 o_
  replace rd_5 := rA rd_5 o_
  replace ba_6 := kA ba_6 o_
  replace bb_7 := kA bb_7 o_
  replace bp_8 := kA bp_8 o_
  replace bx_9 := kA bx_9 o_
  subst ho_
  have nb_ := Blk.new ((((w.alloc (.cells #[.int .i64 c, .slice A n k, .slice B m j] 24)).alloc (.cells #[.int .i64 d, .slice C n2 k2, .slice D m2 j2] 24)).alloc (.cells #[.int .i64 p1, .int .i64 p2, .int .i64 p3, .int .i64 p4] 28)).alloc (.cells #[.int .i64 xf, .int .i64 xt, .int .i64 xm, .int .i64 xi] 30)) 24 #[.int .i64 c, .slice A n k, .slice B m j, .int .i64 d, .slice C n2 k2, .slice D m2 j2]
  simp only [World.size_alloc] at nb_
  have bs_24 := Lib.hid nb_; clear nb_
  have hc := (show Calls Tryz.prog 30 #[.slice (some ⟨w.heap.size + 1 + 1 + 1 + 1, 0, none⟩) 2 2] ((((((w.alloc (.cells #[.int .i64 c, .slice A n k, .slice B m j] 24)).alloc (.cells #[.int .i64 d, .slice C n2 k2, .slice D m2 j2] 24)).alloc (.cells #[.int .i64 p1, .int .i64 p2, .int .i64 p3, .int .i64 p4] 28)).alloc (.cells #[.int .i64 xf, .int .i64 xt, .int .i64 xm, .int .i64 xi] 30)).alloc (.cells #[.int .i64 c, .slice A n k, .slice B m j, .int .i64 d, .slice C n2 k2, .slice D m2 j2] 24))) fun e w' => e = .returned (.bool true) ∧ Below ((((((w.alloc (.cells #[.int .i64 c, .slice A n k, .slice B m j] 24)).alloc (.cells #[.int .i64 d, .slice C n2 k2, .slice D m2 j2] 24)).alloc (.cells #[.int .i64 p1, .int .i64 p2, .int .i64 p3, .int .i64 p4] 28)).alloc (.cells #[.int .i64 xf, .int .i64 xt, .int .i64 xm, .int .i64 xi] 30)).alloc (.cells #[.int .i64 c, .slice A n k, .slice B m j, .int .i64 d, .slice C n2 k2, .slice D m2 j2] 24))).heap.size ((((((w.alloc (.cells #[.int .i64 c, .slice A n k, .slice B m j] 24)).alloc (.cells #[.int .i64 d, .slice C n2 k2, .slice D m2 j2] 24)).alloc (.cells #[.int .i64 p1, .int .i64 p2, .int .i64 p3, .int .i64 p4] 28)).alloc (.cells #[.int .i64 xf, .int .i64 xt, .int .i64 xm, .int .i64 xi] 30)).alloc (.cells #[.int .i64 c, .slice A n k, .slice B m j, .int .i64 d, .slice C n2 k2, .slice D m2 j2] 24))) w' from by have h := small3_any c A B n k m j d C D n2 k2 m2 j2 (w.heap.size + 1 + 1 + 1 + 1) ((((((w.alloc (.cells #[.int .i64 c, .slice A n k, .slice B m j] 24)).alloc (.cells #[.int .i64 d, .slice C n2 k2, .slice D m2 j2] 24)).alloc (.cells #[.int .i64 p1, .int .i64 p2, .int .i64 p3, .int .i64 p4] 28)).alloc (.cells #[.int .i64 xf, .int .i64 xt, .int .i64 xm, .int .i64 xi] 30)).alloc (.cells #[.int .i64 c, .slice A n k, .slice B m j, .int .i64 d, .slice C n2 k2, .slice D m2 j2] 24))) bs_24.out; rw [show (decide (n ≤ 40) && decide (m ≤ 40) && decide (n2 ≤ 40) && decide (m2 ≤ 40)) = true from hs] at h; exact h)
  have HC := Lib.hid hc; clear hc
  go_wp2_with fail
  refine HC.out.mono ?_
  rintro e w_25 ⟨rfl, hb⟩
  clear HC
  replace bel_1 := bB bel_1 hb
  replace ra_2 := rB ra_2 hb
  replace rb_3 := rB rb_3 hb
  replace rc_4 := rB rc_4 hb
  replace rd_5 := rB rd_5 hb
  replace ba_6 := kB ba_6 hb
  replace bb_7 := kB bb_7 hb
  replace bp_8 := kB bp_8 hb
  replace bx_9 := kB bx_9 hb
  replace bs_24 := kB bs_24 hb
  clear hb
  obtain ⟨z_26, z_27, z_28⟩ := at3 ba_6
  obtain ⟨z_29, z_30, z_31⟩ := at3 bb_7
  obtain ⟨z_32, z_33, z_34, z_35⟩ := at4 bp_8
  obtain ⟨z_36, z_37, z_38, z_39⟩ := at4 bx_9
  have hc := HW.out (w_25) ra_2.out rb_3.out
  have HC := Lib.hid hc; clear hc
  go_wp2_with fail
  refine HC.out.mono ?_
  rintro e w_40 ⟨EC, ec, kc, FC, fc, lc, rfl, hE, hF, hec, hfc, hb⟩
  clear HC
  clear z_26 z_27 z_28 z_29 z_30 z_31 z_32 z_33 z_34 z_35 z_36 z_37 z_38 z_39
  replace bel_1 := bB bel_1 hb
  replace ra_2 := rB ra_2 hb
  replace rb_3 := rB rb_3 hb
  replace rc_4 := rB rc_4 hb
  replace rd_5 := rB rd_5 hb
  replace ba_6 := kB ba_6 hb
  replace bb_7 := kB bb_7 hb
  replace bp_8 := kB bp_8 hb
  replace bx_9 := kB bx_9 hb
  clear hb
  have re_41 := Lib.hid (hE)
  clear hE
  have rf_42 := Lib.hid (hF)
  clear hF
  obtain ⟨z_43, z_44, z_45⟩ := at3 ba_6
  obtain ⟨z_46, z_47, z_48⟩ := at3 bb_7
  obtain ⟨z_49, z_50, z_51, z_52⟩ := at4 bp_8
  obtain ⟨z_53, z_54, z_55, z_56⟩ := at4 bx_9
  obtain ⟨o_, ho_⟩ : ∃ o, o = ((.cells #[.int .i64 cc, .slice EC ec kc, .slice FC fc lc] 24) : Obj) := ⟨_, rfl⟩
  replace bel_1 := bA bel_1 o_
  replace ra_2 := rA ra_2 o_
  replace rb_3 := rA rb_3 o_
  replace rc_4 := rA rc_4 o_
  replace rd_5 := rA rd_5 o_
  replace ba_6 := kA ba_6 o_
  replace bb_7 := kA bb_7 o_
  replace bp_8 := kA bp_8 o_
  replace bx_9 := kA bx_9 o_
  replace re_41 := rA re_41 o_
  replace rf_42 := rA rf_42 o_
  subst ho_
  have bc_57 := Lib.hid (Blk.new w_40 24 #[.int .i64 cc, .slice EC ec kc, .slice FC fc lc])
  obtain ⟨z_58, z_59, z_60⟩ := at3 ba_6
  obtain ⟨z_61, z_62, z_63⟩ := at3 bb_7
  obtain ⟨z_64, z_65, z_66, z_67⟩ := at4 bp_8
  obtain ⟨z_68, z_69, z_70, z_71⟩ := at4 bx_9
  obtain ⟨z_72, z_73, z_74⟩ := at3 bc_57
  have hc := Meets_any c A B n k m j ws ts d C D n2 k2 m2 j2 ws2 ts2 p1 p2 p3 p4 _ ra_2.out rb_3.out hn hm rc_4.out rd_5.out hn2 hm2
  rw [E1.out] at hc
  try dsimp only at hc
  have HC := Lib.hid hc; clear hc
  go_wp2_with fail
  refine HC.out.mono ?_
  rintro e w_75 ⟨rfl, hb⟩
  clear HC
  clear z_43 z_44 z_45 z_46 z_47 z_48 z_49 z_50 z_51 z_52 z_53 z_54 z_55 z_56 z_58 z_59 z_60 z_61 z_62 z_63 z_64 z_65 z_66 z_67 z_68 z_69 z_70 z_71 z_72 z_73 z_74
  replace bel_1 := bB bel_1 hb
  replace ra_2 := rB ra_2 hb
  replace rb_3 := rB rb_3 hb
  replace rc_4 := rB rc_4 hb
  replace rd_5 := rB rd_5 hb
  replace ba_6 := kB ba_6 hb
  replace bb_7 := kB bb_7 hb
  replace bp_8 := kB bp_8 hb
  replace bx_9 := kB bx_9 hb
  replace re_41 := rB re_41 hb
  replace rf_42 := rB rf_42 hb
  replace bc_57 := kB bc_57 hb
  clear hb
  obtain ⟨z_76, z_77, z_78⟩ := at3 ba_6
  obtain ⟨z_79, z_80, z_81⟩ := at3 bb_7
  obtain ⟨z_82, z_83, z_84, z_85⟩ := at4 bp_8
  obtain ⟨z_86, z_87, z_88, z_89⟩ := at4 bx_9
  obtain ⟨z_90, z_91, z_92⟩ := at3 bc_57
  have hc := Meets_any cc EC FC ec kc fc lc wc tc d C D n2 k2 m2 j2 ws2 ts2 p1 p2 p3 p4 _ re_41.out rf_42.out hec hfc rc_4.out rd_5.out hn2 hm2
  rw [E2.out] at hc
  try dsimp only at hc
  have HC := Lib.hid hc; clear hc
  go_wp2_with fail
  refine HC.out.mono ?_
  rintro e w_93 ⟨rfl, hb⟩
  clear HC
  clear z_76 z_77 z_78 z_79 z_80 z_81 z_82 z_83 z_84 z_85 z_86 z_87 z_88 z_89 z_90 z_91 z_92
  replace bel_1 := bB bel_1 hb
  replace ra_2 := rB ra_2 hb
  replace rb_3 := rB rb_3 hb
  replace rc_4 := rB rc_4 hb
  replace rd_5 := rB rd_5 hb
  replace ba_6 := kB ba_6 hb
  replace bb_7 := kB bb_7 hb
  replace bp_8 := kB bp_8 hb
  replace bx_9 := kB bx_9 hb
  replace re_41 := rB re_41 hb
  replace rf_42 := rB rf_42 hb
  replace bc_57 := kB bc_57 hb
  clear hb
  obtain ⟨z_94, z_95, z_96⟩ := at3 ba_6
  obtain ⟨z_97, z_98, z_99⟩ := at3 bb_7
  obtain ⟨z_100, z_101, z_102, z_103⟩ := at4 bp_8
  obtain ⟨z_104, z_105, z_106, z_107⟩ := at4 bx_9
  obtain ⟨z_108, z_109, z_110⟩ := at3 bc_57
  have hc := Shared_any c A B n k m j ws ts d C D n2 k2 m2 j2 ws2 ts2 p1 p2 p3 p4 _ ra_2.out rb_3.out hn hm rc_4.out rd_5.out hn2 hm2
  rw [E3.out] at hc
  try dsimp only at hc
  have HC := Lib.hid hc; clear hc
  go_wp2_with fail
  refine HC.out.mono ?_
  rintro e w_111 ⟨rfl, hb⟩
  clear HC
  clear z_94 z_95 z_96 z_97 z_98 z_99 z_100 z_101 z_102 z_103 z_104 z_105 z_106 z_107 z_108 z_109 z_110
  replace bel_1 := bB bel_1 hb
  replace ra_2 := rB ra_2 hb
  replace rb_3 := rB rb_3 hb
  replace rc_4 := rB rc_4 hb
  replace rd_5 := rB rd_5 hb
  replace ba_6 := kB ba_6 hb
  replace bb_7 := kB bb_7 hb
  replace bp_8 := kB bp_8 hb
  replace bx_9 := kB bx_9 hb
  replace re_41 := rB re_41 hb
  replace rf_42 := rB rf_42 hb
  replace bc_57 := kB bc_57 hb
  clear hb
  obtain ⟨z_112, z_113, z_114⟩ := at3 ba_6
  obtain ⟨z_115, z_116, z_117⟩ := at3 bb_7
  obtain ⟨z_118, z_119, z_120, z_121⟩ := at4 bp_8
  obtain ⟨z_122, z_123, z_124, z_125⟩ := at4 bx_9
  obtain ⟨z_126, z_127, z_128⟩ := at3 bc_57
  have hc := Shared_any cc EC FC ec kc fc lc wc tc d C D n2 k2 m2 j2 ws2 ts2 p1 p2 p3 p4 _ re_41.out rf_42.out hec hfc rc_4.out rd_5.out hn2 hm2
  rw [E4.out] at hc
  try dsimp only at hc
  have HC := Lib.hid hc; clear hc
  go_wp2_with fail
  refine HC.out.mono ?_
  rintro e w_129 ⟨rfl, hb⟩
  clear HC
  clear z_112 z_113 z_114 z_115 z_116 z_117 z_118 z_119 z_120 z_121 z_122 z_123 z_124 z_125 z_126 z_127 z_128
  replace bel_1 := bB bel_1 hb
  replace ra_2 := rB ra_2 hb
  replace rb_3 := rB rb_3 hb
  replace rc_4 := rB rc_4 hb
  replace rd_5 := rB rd_5 hb
  replace ba_6 := kB ba_6 hb
  replace bb_7 := kB bb_7 hb
  replace bp_8 := kB bp_8 hb
  replace bx_9 := kB bx_9 hb
  replace re_41 := rB re_41 hb
  replace rf_42 := rB rf_42 hb
  replace bc_57 := kB bc_57 hb
  clear hb
  obtain ⟨z_130, z_131, z_132⟩ := at3 ba_6
  obtain ⟨z_133, z_134, z_135⟩ := at3 bb_7
  obtain ⟨z_136, z_137, z_138, z_139⟩ := at4 bp_8
  obtain ⟨z_140, z_141, z_142, z_143⟩ := at4 bx_9
  obtain ⟨z_144, z_145, z_146⟩ := at3 bc_57
  have hc := joined_any (w_129)
  have HC := Lib.hid hc; clear hc
  go_wp2_with fail
  refine HC.out.mono ?_
  rintro e w_147 ⟨rfl, hb⟩
  clear HC
  clear z_130 z_131 z_132 z_133 z_134 z_135 z_136 z_137 z_138 z_139 z_140 z_141 z_142 z_143 z_144 z_145 z_146
  replace bel_1 := bB bel_1 hb
  replace ra_2 := rB ra_2 hb
  replace rb_3 := rB rb_3 hb
  replace rc_4 := rB rc_4 hb
  replace rd_5 := rB rd_5 hb
  replace ba_6 := kB ba_6 hb
  replace bb_7 := kB bb_7 hb
  replace bp_8 := kB bp_8 hb
  replace bx_9 := kB bx_9 hb
  replace re_41 := rB re_41 hb
  replace rf_42 := rB rf_42 hb
  replace bc_57 := kB bc_57 hb
  clear hb
  obtain ⟨z_148, z_149, z_150⟩ := at3 ba_6
  obtain ⟨z_151, z_152, z_153⟩ := at3 bb_7
  obtain ⟨z_154, z_155, z_156, z_157⟩ := at4 bp_8
  obtain ⟨z_158, z_159, z_160, z_161⟩ := at4 bx_9
  obtain ⟨z_162, z_163, z_164⟩ := at3 bc_57
  go_wp2
  go_ret
  exact ⟨rfl, bel_1.out⟩
set_option maxRecDepth 100000 in
set_option maxHeartbeats 4000000 in
theorem em_no (c : Int) (A B : Option Addr) (n k m j : Nat) (ws ts : List Bnd) (d : Int) (C D : Option Addr) (n2 k2 m2 j2 : Nat) (ws2 ts2 : List Bnd) (p1 p2 p3 p4 : Int) (w : World) (h1 : RdB w A n k ws) (h2 : RdB w B m j ts) (hn : n ≤ maxLen) (hm : m ≤ maxLen) (h3 : RdB w C n2 k2 ws2) (h4 : RdB w D m2 j2 ts2) (hn2 : n2 ≤ maxLen) (hm2 : m2 ≤ maxLen) (u : Bool) (xf xt xm xi : Int) (hs : (decide (n ≤ 40) && decide (m ≤ 40) && decide (n2 ≤ 40) && decide (m2 ≤ 40)) = true) (cc : Int) (wc tc : List Bnd) (HW : Hid (∀ W, RdB W A n k ws → RdB W B m j ts → Calls Tryz.prog 18 #[.agg #[.int .i64 c, .slice A n k, .slice B m j], .bool u, .agg #[.int .i64 xf, .int .i64 xt, .int .i64 xm, .int .i64 xi]] W fun e w' => ∃ E n k F m j, e = .returned (.tuple #[.agg #[.int .i64 cc, .slice E n k, .slice F m j], .int .i64 0]) ∧ RdB w' E n k wc ∧ RdB w' F m j tc ∧ n ≤ maxLen ∧ m ≤ maxLen ∧ Below W.heap.size W w')) (M1 : Bool) (lo hi lo2 hi2 s1 : Int)
 (E1 : Hid (meetsV ⟨c, ws, ts⟩ ⟨d, ws2, ts2⟩ ⟨p1, p2, p3, p4⟩ = (M1, 0))) (E2 : Hid (meetsV ⟨cc, wc, tc⟩ ⟨d, ws2, ts2⟩ ⟨p1, p2, p3, p4⟩ = (false, 0))) (E3 : Hid (sharedV ⟨c, ws, ts⟩ ⟨d, ws2, ts2⟩ ⟨p1, p2, p3, p4⟩ = (lo, hi, s1))) (E4 : Hid (sharedV ⟨cc, wc, tc⟩ ⟨d, ws2, ts2⟩ ⟨p1, p2, p3, p4⟩ = (lo2, hi2, 30))) :
 Calls Tryz.prog 15 #[.agg #[.int .i64 c, .slice A n k, .slice B m j], .agg #[.int .i64 d, .slice C n2 k2, .slice D m2 j2], .agg #[.int .i64 p1, .int .i64 p2, .int .i64 p3, .int .i64 p4], .bool u, .agg #[.int .i64 xf, .int .i64 xt, .int .i64 xm, .int .i64 xi]] w fun e w' => e = .returned (.bool true) ∧ Below w.heap.size w w' := by
  go_enter Tryz.func15, Tryz.ntmps15
  have bel_1 := Lib.hid (show Below w.heap.size w w from Below.refl _ w)
  have ra_2 := Lib.hid (h1)
  clear h1
  have rb_3 := Lib.hid (h2)
  clear h2
  have rc_4 := Lib.hid (h3)
  clear h3
  have rd_5 := Lib.hid (h4)
  clear h4
  obtain ⟨o_, ho_⟩ : ∃ o, o = ((.cells #[.int .i64 c, .slice A n k, .slice B m j] 24) : Obj) := ⟨_, rfl⟩
  replace bel_1 := bA bel_1 o_
  replace ra_2 := rA ra_2 o_
  replace rb_3 := rA rb_3 o_
  replace rc_4 := rA rc_4 o_
  replace rd_5 := rA rd_5 o_
  subst ho_
  have ba_6 := Lib.hid (Blk.new w 24 #[.int .i64 c, .slice A n k, .slice B m j])
  obtain ⟨o_, ho_⟩ : ∃ o, o = ((.cells #[.int .i64 d, .slice C n2 k2, .slice D m2 j2] 24) : Obj) := ⟨_, rfl⟩
  replace bel_1 := bA bel_1 o_
  replace ra_2 := rA ra_2 o_
  replace rb_3 := rA rb_3 o_
  replace rc_4 := rA rc_4 o_
  replace rd_5 := rA rd_5 o_
  replace ba_6 := kA ba_6 o_
  subst ho_
  have nb_ := Blk.new (w.alloc (.cells #[.int .i64 c, .slice A n k, .slice B m j] 24)) 24 #[.int .i64 d, .slice C n2 k2, .slice D m2 j2]
  simp only [World.size_alloc] at nb_
  have bb_7 := Lib.hid nb_; clear nb_
  obtain ⟨o_, ho_⟩ : ∃ o, o = ((.cells #[.int .i64 p1, .int .i64 p2, .int .i64 p3, .int .i64 p4] 28) : Obj) := ⟨_, rfl⟩
  replace bel_1 := bA bel_1 o_
  replace ra_2 := rA ra_2 o_
  replace rb_3 := rA rb_3 o_
  replace rc_4 := rA rc_4 o_
  replace rd_5 := rA rd_5 o_
  replace ba_6 := kA ba_6 o_
  replace bb_7 := kA bb_7 o_
  subst ho_
  have nb_ := Blk.new ((w.alloc (.cells #[.int .i64 c, .slice A n k, .slice B m j] 24)).alloc (.cells #[.int .i64 d, .slice C n2 k2, .slice D m2 j2] 24)) 28 #[.int .i64 p1, .int .i64 p2, .int .i64 p3, .int .i64 p4]
  simp only [World.size_alloc] at nb_
  have bp_8 := Lib.hid nb_; clear nb_
  obtain ⟨o_, ho_⟩ : ∃ o, o = ((.cells #[.int .i64 xf, .int .i64 xt, .int .i64 xm, .int .i64 xi] 30) : Obj) := ⟨_, rfl⟩
  replace bel_1 := bA bel_1 o_
  replace ra_2 := rA ra_2 o_
  replace rb_3 := rA rb_3 o_
  replace rc_4 := rA rc_4 o_
  replace rd_5 := rA rd_5 o_
  replace ba_6 := kA ba_6 o_
  replace bb_7 := kA bb_7 o_
  replace bp_8 := kA bp_8 o_
  subst ho_
  have nb_ := Blk.new (((w.alloc (.cells #[.int .i64 c, .slice A n k, .slice B m j] 24)).alloc (.cells #[.int .i64 d, .slice C n2 k2, .slice D m2 j2] 24)).alloc (.cells #[.int .i64 p1, .int .i64 p2, .int .i64 p3, .int .i64 p4] 28)) 30 #[.int .i64 xf, .int .i64 xt, .int .i64 xm, .int .i64 xi]
  simp only [World.size_alloc] at nb_
  have bx_9 := Lib.hid nb_; clear nb_
  obtain ⟨z_10, z_11, z_12⟩ := at3 ba_6
  obtain ⟨z_13, z_14, z_15⟩ := at3 bb_7
  obtain ⟨z_16, z_17, z_18, z_19⟩ := at4 bp_8
  obtain ⟨z_20, z_21, z_22, z_23⟩ := at4 bx_9
  clear z_10 z_11 z_12 z_13 z_14 z_15 z_16 z_17 z_18 z_19 z_20 z_21 z_22 z_23
  obtain ⟨o_, ho_⟩ : ∃ o, o = ((.cells #[.int .i64 c, .slice A n k, .slice B m j, .int .i64 d, .slice C n2 k2, .slice D m2 j2] 24) : Obj) := ⟨_, rfl⟩
  replace bel_1 := bA bel_1 o_
  replace ra_2 := rA ra_2 o_
  replace rb_3 := rA rb_3 o_
  replace rc_4 := rA rc_4 o_
  replace rd_5 := rA rd_5 o_
  replace ba_6 := kA ba_6 o_
  replace bb_7 := kA bb_7 o_
  replace bp_8 := kA bp_8 o_
  replace bx_9 := kA bx_9 o_
  subst ho_
  have nb_ := Blk.new ((((w.alloc (.cells #[.int .i64 c, .slice A n k, .slice B m j] 24)).alloc (.cells #[.int .i64 d, .slice C n2 k2, .slice D m2 j2] 24)).alloc (.cells #[.int .i64 p1, .int .i64 p2, .int .i64 p3, .int .i64 p4] 28)).alloc (.cells #[.int .i64 xf, .int .i64 xt, .int .i64 xm, .int .i64 xi] 30)) 24 #[.int .i64 c, .slice A n k, .slice B m j, .int .i64 d, .slice C n2 k2, .slice D m2 j2]
  simp only [World.size_alloc] at nb_
  have bs_24 := Lib.hid nb_; clear nb_
  have hc := (show Calls Tryz.prog 30 #[.slice (some ⟨w.heap.size + 1 + 1 + 1 + 1, 0, none⟩) 2 2] ((((((w.alloc (.cells #[.int .i64 c, .slice A n k, .slice B m j] 24)).alloc (.cells #[.int .i64 d, .slice C n2 k2, .slice D m2 j2] 24)).alloc (.cells #[.int .i64 p1, .int .i64 p2, .int .i64 p3, .int .i64 p4] 28)).alloc (.cells #[.int .i64 xf, .int .i64 xt, .int .i64 xm, .int .i64 xi] 30)).alloc (.cells #[.int .i64 c, .slice A n k, .slice B m j, .int .i64 d, .slice C n2 k2, .slice D m2 j2] 24))) fun e w' => e = .returned (.bool true) ∧ Below ((((((w.alloc (.cells #[.int .i64 c, .slice A n k, .slice B m j] 24)).alloc (.cells #[.int .i64 d, .slice C n2 k2, .slice D m2 j2] 24)).alloc (.cells #[.int .i64 p1, .int .i64 p2, .int .i64 p3, .int .i64 p4] 28)).alloc (.cells #[.int .i64 xf, .int .i64 xt, .int .i64 xm, .int .i64 xi] 30)).alloc (.cells #[.int .i64 c, .slice A n k, .slice B m j, .int .i64 d, .slice C n2 k2, .slice D m2 j2] 24))).heap.size ((((((w.alloc (.cells #[.int .i64 c, .slice A n k, .slice B m j] 24)).alloc (.cells #[.int .i64 d, .slice C n2 k2, .slice D m2 j2] 24)).alloc (.cells #[.int .i64 p1, .int .i64 p2, .int .i64 p3, .int .i64 p4] 28)).alloc (.cells #[.int .i64 xf, .int .i64 xt, .int .i64 xm, .int .i64 xi] 30)).alloc (.cells #[.int .i64 c, .slice A n k, .slice B m j, .int .i64 d, .slice C n2 k2, .slice D m2 j2] 24))) w' from by have h := small3_any c A B n k m j d C D n2 k2 m2 j2 (w.heap.size + 1 + 1 + 1 + 1) ((((((w.alloc (.cells #[.int .i64 c, .slice A n k, .slice B m j] 24)).alloc (.cells #[.int .i64 d, .slice C n2 k2, .slice D m2 j2] 24)).alloc (.cells #[.int .i64 p1, .int .i64 p2, .int .i64 p3, .int .i64 p4] 28)).alloc (.cells #[.int .i64 xf, .int .i64 xt, .int .i64 xm, .int .i64 xi] 30)).alloc (.cells #[.int .i64 c, .slice A n k, .slice B m j, .int .i64 d, .slice C n2 k2, .slice D m2 j2] 24))) bs_24.out; rw [show (decide (n ≤ 40) && decide (m ≤ 40) && decide (n2 ≤ 40) && decide (m2 ≤ 40)) = true from hs] at h; exact h)
  have HC := Lib.hid hc; clear hc
  go_wp2_with fail
  refine HC.out.mono ?_
  rintro e w_25 ⟨rfl, hb⟩
  clear HC
  replace bel_1 := bB bel_1 hb
  replace ra_2 := rB ra_2 hb
  replace rb_3 := rB rb_3 hb
  replace rc_4 := rB rc_4 hb
  replace rd_5 := rB rd_5 hb
  replace ba_6 := kB ba_6 hb
  replace bb_7 := kB bb_7 hb
  replace bp_8 := kB bp_8 hb
  replace bx_9 := kB bx_9 hb
  replace bs_24 := kB bs_24 hb
  clear hb
  obtain ⟨z_26, z_27, z_28⟩ := at3 ba_6
  obtain ⟨z_29, z_30, z_31⟩ := at3 bb_7
  obtain ⟨z_32, z_33, z_34, z_35⟩ := at4 bp_8
  obtain ⟨z_36, z_37, z_38, z_39⟩ := at4 bx_9
  have hc := HW.out (w_25) ra_2.out rb_3.out
  have HC := Lib.hid hc; clear hc
  go_wp2_with fail
  refine HC.out.mono ?_
  rintro e w_40 ⟨EC, ec, kc, FC, fc, lc, rfl, hE, hF, hec, hfc, hb⟩
  clear HC
  clear z_26 z_27 z_28 z_29 z_30 z_31 z_32 z_33 z_34 z_35 z_36 z_37 z_38 z_39
  replace bel_1 := bB bel_1 hb
  replace ra_2 := rB ra_2 hb
  replace rb_3 := rB rb_3 hb
  replace rc_4 := rB rc_4 hb
  replace rd_5 := rB rd_5 hb
  replace ba_6 := kB ba_6 hb
  replace bb_7 := kB bb_7 hb
  replace bp_8 := kB bp_8 hb
  replace bx_9 := kB bx_9 hb
  clear hb
  have re_41 := Lib.hid (hE)
  clear hE
  have rf_42 := Lib.hid (hF)
  clear hF
  obtain ⟨z_43, z_44, z_45⟩ := at3 ba_6
  obtain ⟨z_46, z_47, z_48⟩ := at3 bb_7
  obtain ⟨z_49, z_50, z_51, z_52⟩ := at4 bp_8
  obtain ⟨z_53, z_54, z_55, z_56⟩ := at4 bx_9
  obtain ⟨o_, ho_⟩ : ∃ o, o = ((.cells #[.int .i64 cc, .slice EC ec kc, .slice FC fc lc] 24) : Obj) := ⟨_, rfl⟩
  replace bel_1 := bA bel_1 o_
  replace ra_2 := rA ra_2 o_
  replace rb_3 := rA rb_3 o_
  replace rc_4 := rA rc_4 o_
  replace rd_5 := rA rd_5 o_
  replace ba_6 := kA ba_6 o_
  replace bb_7 := kA bb_7 o_
  replace bp_8 := kA bp_8 o_
  replace bx_9 := kA bx_9 o_
  replace re_41 := rA re_41 o_
  replace rf_42 := rA rf_42 o_
  subst ho_
  have bc_57 := Lib.hid (Blk.new w_40 24 #[.int .i64 cc, .slice EC ec kc, .slice FC fc lc])
  obtain ⟨z_58, z_59, z_60⟩ := at3 ba_6
  obtain ⟨z_61, z_62, z_63⟩ := at3 bb_7
  obtain ⟨z_64, z_65, z_66, z_67⟩ := at4 bp_8
  obtain ⟨z_68, z_69, z_70, z_71⟩ := at4 bx_9
  obtain ⟨z_72, z_73, z_74⟩ := at3 bc_57
  have hc := Meets_any c A B n k m j ws ts d C D n2 k2 m2 j2 ws2 ts2 p1 p2 p3 p4 _ ra_2.out rb_3.out hn hm rc_4.out rd_5.out hn2 hm2
  rw [E1.out] at hc
  try dsimp only at hc
  have HC := Lib.hid hc; clear hc
  go_wp2_with fail
  refine HC.out.mono ?_
  rintro e w_75 ⟨rfl, hb⟩
  clear HC
  clear z_43 z_44 z_45 z_46 z_47 z_48 z_49 z_50 z_51 z_52 z_53 z_54 z_55 z_56 z_58 z_59 z_60 z_61 z_62 z_63 z_64 z_65 z_66 z_67 z_68 z_69 z_70 z_71 z_72 z_73 z_74
  replace bel_1 := bB bel_1 hb
  replace ra_2 := rB ra_2 hb
  replace rb_3 := rB rb_3 hb
  replace rc_4 := rB rc_4 hb
  replace rd_5 := rB rd_5 hb
  replace ba_6 := kB ba_6 hb
  replace bb_7 := kB bb_7 hb
  replace bp_8 := kB bp_8 hb
  replace bx_9 := kB bx_9 hb
  replace re_41 := rB re_41 hb
  replace rf_42 := rB rf_42 hb
  replace bc_57 := kB bc_57 hb
  clear hb
  obtain ⟨z_76, z_77, z_78⟩ := at3 ba_6
  obtain ⟨z_79, z_80, z_81⟩ := at3 bb_7
  obtain ⟨z_82, z_83, z_84, z_85⟩ := at4 bp_8
  obtain ⟨z_86, z_87, z_88, z_89⟩ := at4 bx_9
  obtain ⟨z_90, z_91, z_92⟩ := at3 bc_57
  have hc := Meets_any cc EC FC ec kc fc lc wc tc d C D n2 k2 m2 j2 ws2 ts2 p1 p2 p3 p4 _ re_41.out rf_42.out hec hfc rc_4.out rd_5.out hn2 hm2
  rw [E2.out] at hc
  try dsimp only at hc
  have HC := Lib.hid hc; clear hc
  go_wp2_with fail
  refine HC.out.mono ?_
  rintro e w_93 ⟨rfl, hb⟩
  clear HC
  clear z_76 z_77 z_78 z_79 z_80 z_81 z_82 z_83 z_84 z_85 z_86 z_87 z_88 z_89 z_90 z_91 z_92
  replace bel_1 := bB bel_1 hb
  replace ra_2 := rB ra_2 hb
  replace rb_3 := rB rb_3 hb
  replace rc_4 := rB rc_4 hb
  replace rd_5 := rB rd_5 hb
  replace ba_6 := kB ba_6 hb
  replace bb_7 := kB bb_7 hb
  replace bp_8 := kB bp_8 hb
  replace bx_9 := kB bx_9 hb
  replace re_41 := rB re_41 hb
  replace rf_42 := rB rf_42 hb
  replace bc_57 := kB bc_57 hb
  clear hb
  obtain ⟨z_94, z_95, z_96⟩ := at3 ba_6
  obtain ⟨z_97, z_98, z_99⟩ := at3 bb_7
  obtain ⟨z_100, z_101, z_102, z_103⟩ := at4 bp_8
  obtain ⟨z_104, z_105, z_106, z_107⟩ := at4 bx_9
  obtain ⟨z_108, z_109, z_110⟩ := at3 bc_57
  have hc := Shared_any c A B n k m j ws ts d C D n2 k2 m2 j2 ws2 ts2 p1 p2 p3 p4 _ ra_2.out rb_3.out hn hm rc_4.out rd_5.out hn2 hm2
  rw [E3.out] at hc
  try dsimp only at hc
  have HC := Lib.hid hc; clear hc
  go_wp2_with fail
  refine HC.out.mono ?_
  rintro e w_111 ⟨rfl, hb⟩
  clear HC
  clear z_94 z_95 z_96 z_97 z_98 z_99 z_100 z_101 z_102 z_103 z_104 z_105 z_106 z_107 z_108 z_109 z_110
  replace bel_1 := bB bel_1 hb
  replace ra_2 := rB ra_2 hb
  replace rb_3 := rB rb_3 hb
  replace rc_4 := rB rc_4 hb
  replace rd_5 := rB rd_5 hb
  replace ba_6 := kB ba_6 hb
  replace bb_7 := kB bb_7 hb
  replace bp_8 := kB bp_8 hb
  replace bx_9 := kB bx_9 hb
  replace re_41 := rB re_41 hb
  replace rf_42 := rB rf_42 hb
  replace bc_57 := kB bc_57 hb
  clear hb
  obtain ⟨z_112, z_113, z_114⟩ := at3 ba_6
  obtain ⟨z_115, z_116, z_117⟩ := at3 bb_7
  obtain ⟨z_118, z_119, z_120, z_121⟩ := at4 bp_8
  obtain ⟨z_122, z_123, z_124, z_125⟩ := at4 bx_9
  obtain ⟨z_126, z_127, z_128⟩ := at3 bc_57
  have hc := Shared_any cc EC FC ec kc fc lc wc tc d C D n2 k2 m2 j2 ws2 ts2 p1 p2 p3 p4 _ re_41.out rf_42.out hec hfc rc_4.out rd_5.out hn2 hm2
  rw [E4.out] at hc
  try dsimp only at hc
  have HC := Lib.hid hc; clear hc
  go_wp2_with fail
  refine HC.out.mono ?_
  rintro e w_129 ⟨rfl, hb⟩
  clear HC
  clear z_112 z_113 z_114 z_115 z_116 z_117 z_118 z_119 z_120 z_121 z_122 z_123 z_124 z_125 z_126 z_127 z_128
  replace bel_1 := bB bel_1 hb
  replace ra_2 := rB ra_2 hb
  replace rb_3 := rB rb_3 hb
  replace rc_4 := rB rc_4 hb
  replace rd_5 := rB rd_5 hb
  replace ba_6 := kB ba_6 hb
  replace bb_7 := kB bb_7 hb
  replace bp_8 := kB bp_8 hb
  replace bx_9 := kB bx_9 hb
  replace re_41 := rB re_41 hb
  replace rf_42 := rB rf_42 hb
  replace bc_57 := kB bc_57 hb
  clear hb
  obtain ⟨z_130, z_131, z_132⟩ := at3 ba_6
  obtain ⟨z_133, z_134, z_135⟩ := at3 bb_7
  obtain ⟨z_136, z_137, z_138, z_139⟩ := at4 bp_8
  obtain ⟨z_140, z_141, z_142, z_143⟩ := at4 bx_9
  obtain ⟨z_144, z_145, z_146⟩ := at3 bc_57
  have hc := joined_any (w_129)
  have HC := Lib.hid hc; clear hc
  go_wp2_with fail
  refine HC.out.mono ?_
  rintro e w_147 ⟨rfl, hb⟩
  clear HC
  clear z_130 z_131 z_132 z_133 z_134 z_135 z_136 z_137 z_138 z_139 z_140 z_141 z_142 z_143 z_144 z_145 z_146
  replace bel_1 := bB bel_1 hb
  replace ra_2 := rB ra_2 hb
  replace rb_3 := rB rb_3 hb
  replace rc_4 := rB rc_4 hb
  replace rd_5 := rB rd_5 hb
  replace ba_6 := kB ba_6 hb
  replace bb_7 := kB bb_7 hb
  replace bp_8 := kB bp_8 hb
  replace bx_9 := kB bx_9 hb
  replace re_41 := rB re_41 hb
  replace rf_42 := rB rf_42 hb
  replace bc_57 := kB bc_57 hb
  clear hb
  obtain ⟨z_148, z_149, z_150⟩ := at3 ba_6
  obtain ⟨z_151, z_152, z_153⟩ := at3 bb_7
  obtain ⟨z_154, z_155, z_156, z_157⟩ := at4 bp_8
  obtain ⟨z_158, z_159, z_160, z_161⟩ := at4 bx_9
  obtain ⟨z_162, z_163, z_164⟩ := at3 bc_57
  go_wp2
  go_ret
  exact ⟨rfl, bel_1.out⟩
set_option maxRecDepth 100000 in
set_option maxHeartbeats 4000000 in
theorem em_yes (c : Int) (A B : Option Addr) (n k m j : Nat) (ws ts : List Bnd) (d : Int) (C D : Option Addr) (n2 k2 m2 j2 : Nat) (ws2 ts2 : List Bnd) (p1 p2 p3 p4 : Int) (w : World) (h1 : RdB w A n k ws) (h2 : RdB w B m j ts) (hn : n ≤ maxLen) (hm : m ≤ maxLen) (h3 : RdB w C n2 k2 ws2) (h4 : RdB w D m2 j2 ts2) (hn2 : n2 ≤ maxLen) (hm2 : m2 ≤ maxLen) (u : Bool) (xf xt xm xi : Int) (hs : (decide (n ≤ 40) && decide (m ≤ 40) && decide (n2 ≤ 40) && decide (m2 ≤ 40)) = true) (cc : Int) (wc tc : List Bnd) (HW : Hid (∀ W, RdB W A n k ws → RdB W B m j ts → Calls Tryz.prog 18 #[.agg #[.int .i64 c, .slice A n k, .slice B m j], .bool u, .agg #[.int .i64 xf, .int .i64 xt, .int .i64 xm, .int .i64 xi]] W fun e w' => ∃ E n k F m j, e = .returned (.tuple #[.agg #[.int .i64 cc, .slice E n k, .slice F m j], .int .i64 0]) ∧ RdB w' E n k wc ∧ RdB w' F m j tc ∧ n ≤ maxLen ∧ m ≤ maxLen ∧ Below W.heap.size W w')) (lo hi lo2 hi2 : Int) (g1 : lo ≤ lo2) (g2 : hi2 ≤ hi)
 (E1 : Hid (meetsV ⟨c, ws, ts⟩ ⟨d, ws2, ts2⟩ ⟨p1, p2, p3, p4⟩ = (true, 0))) (E2 : Hid (meetsV ⟨cc, wc, tc⟩ ⟨d, ws2, ts2⟩ ⟨p1, p2, p3, p4⟩ = (true, 0))) (E3 : Hid (sharedV ⟨c, ws, ts⟩ ⟨d, ws2, ts2⟩ ⟨p1, p2, p3, p4⟩ = (lo, hi, 0))) (E4 : Hid (sharedV ⟨cc, wc, tc⟩ ⟨d, ws2, ts2⟩ ⟨p1, p2, p3, p4⟩ = (lo2, hi2, 0))) :
 Calls Tryz.prog 15 #[.agg #[.int .i64 c, .slice A n k, .slice B m j], .agg #[.int .i64 d, .slice C n2 k2, .slice D m2 j2], .agg #[.int .i64 p1, .int .i64 p2, .int .i64 p3, .int .i64 p4], .bool u, .agg #[.int .i64 xf, .int .i64 xt, .int .i64 xm, .int .i64 xi]] w fun e w' => e = .returned (.bool true) ∧ Below w.heap.size w w' := by
  go_enter Tryz.func15, Tryz.ntmps15
  have bel_1 := Lib.hid (show Below w.heap.size w w from Below.refl _ w)
  have ra_2 := Lib.hid (h1)
  clear h1
  have rb_3 := Lib.hid (h2)
  clear h2
  have rc_4 := Lib.hid (h3)
  clear h3
  have rd_5 := Lib.hid (h4)
  clear h4
  obtain ⟨o_, ho_⟩ : ∃ o, o = ((.cells #[.int .i64 c, .slice A n k, .slice B m j] 24) : Obj) := ⟨_, rfl⟩
  replace bel_1 := bA bel_1 o_
  replace ra_2 := rA ra_2 o_
  replace rb_3 := rA rb_3 o_
  replace rc_4 := rA rc_4 o_
  replace rd_5 := rA rd_5 o_
  subst ho_
  have ba_6 := Lib.hid (Blk.new w 24 #[.int .i64 c, .slice A n k, .slice B m j])
  obtain ⟨o_, ho_⟩ : ∃ o, o = ((.cells #[.int .i64 d, .slice C n2 k2, .slice D m2 j2] 24) : Obj) := ⟨_, rfl⟩
  replace bel_1 := bA bel_1 o_
  replace ra_2 := rA ra_2 o_
  replace rb_3 := rA rb_3 o_
  replace rc_4 := rA rc_4 o_
  replace rd_5 := rA rd_5 o_
  replace ba_6 := kA ba_6 o_
  subst ho_
  have nb_ := Blk.new (w.alloc (.cells #[.int .i64 c, .slice A n k, .slice B m j] 24)) 24 #[.int .i64 d, .slice C n2 k2, .slice D m2 j2]
  simp only [World.size_alloc] at nb_
  have bb_7 := Lib.hid nb_; clear nb_
  obtain ⟨o_, ho_⟩ : ∃ o, o = ((.cells #[.int .i64 p1, .int .i64 p2, .int .i64 p3, .int .i64 p4] 28) : Obj) := ⟨_, rfl⟩
  replace bel_1 := bA bel_1 o_
  replace ra_2 := rA ra_2 o_
  replace rb_3 := rA rb_3 o_
  replace rc_4 := rA rc_4 o_
  replace rd_5 := rA rd_5 o_
  replace ba_6 := kA ba_6 o_
  replace bb_7 := kA bb_7 o_
  subst ho_
  have nb_ := Blk.new ((w.alloc (.cells #[.int .i64 c, .slice A n k, .slice B m j] 24)).alloc (.cells #[.int .i64 d, .slice C n2 k2, .slice D m2 j2] 24)) 28 #[.int .i64 p1, .int .i64 p2, .int .i64 p3, .int .i64 p4]
  simp only [World.size_alloc] at nb_
  have bp_8 := Lib.hid nb_; clear nb_
  obtain ⟨o_, ho_⟩ : ∃ o, o = ((.cells #[.int .i64 xf, .int .i64 xt, .int .i64 xm, .int .i64 xi] 30) : Obj) := ⟨_, rfl⟩
  replace bel_1 := bA bel_1 o_
  replace ra_2 := rA ra_2 o_
  replace rb_3 := rA rb_3 o_
  replace rc_4 := rA rc_4 o_
  replace rd_5 := rA rd_5 o_
  replace ba_6 := kA ba_6 o_
  replace bb_7 := kA bb_7 o_
  replace bp_8 := kA bp_8 o_
  subst ho_
  have nb_ := Blk.new (((w.alloc (.cells #[.int .i64 c, .slice A n k, .slice B m j] 24)).alloc (.cells #[.int .i64 d, .slice C n2 k2, .slice D m2 j2] 24)).alloc (.cells #[.int .i64 p1, .int .i64 p2, .int .i64 p3, .int .i64 p4] 28)) 30 #[.int .i64 xf, .int .i64 xt, .int .i64 xm, .int .i64 xi]
  simp only [World.size_alloc] at nb_
  have bx_9 := Lib.hid nb_; clear nb_
  obtain ⟨z_10, z_11, z_12⟩ := at3 ba_6
  obtain ⟨z_13, z_14, z_15⟩ := at3 bb_7
  obtain ⟨z_16, z_17, z_18, z_19⟩ := at4 bp_8
  obtain ⟨z_20, z_21, z_22, z_23⟩ := at4 bx_9
  clear z_10 z_11 z_12 z_13 z_14 z_15 z_16 z_17 z_18 z_19 z_20 z_21 z_22 z_23
  obtain ⟨o_, ho_⟩ : ∃ o, o = ((.cells #[.int .i64 c, .slice A n k, .slice B m j, .int .i64 d, .slice C n2 k2, .slice D m2 j2] 24) : Obj) := ⟨_, rfl⟩
  replace bel_1 := bA bel_1 o_
  replace ra_2 := rA ra_2 o_
  replace rb_3 := rA rb_3 o_
  replace rc_4 := rA rc_4 o_
  replace rd_5 := rA rd_5 o_
  replace ba_6 := kA ba_6 o_
  replace bb_7 := kA bb_7 o_
  replace bp_8 := kA bp_8 o_
  replace bx_9 := kA bx_9 o_
  subst ho_
  have nb_ := Blk.new ((((w.alloc (.cells #[.int .i64 c, .slice A n k, .slice B m j] 24)).alloc (.cells #[.int .i64 d, .slice C n2 k2, .slice D m2 j2] 24)).alloc (.cells #[.int .i64 p1, .int .i64 p2, .int .i64 p3, .int .i64 p4] 28)).alloc (.cells #[.int .i64 xf, .int .i64 xt, .int .i64 xm, .int .i64 xi] 30)) 24 #[.int .i64 c, .slice A n k, .slice B m j, .int .i64 d, .slice C n2 k2, .slice D m2 j2]
  simp only [World.size_alloc] at nb_
  have bs_24 := Lib.hid nb_; clear nb_
  have hc := (show Calls Tryz.prog 30 #[.slice (some ⟨w.heap.size + 1 + 1 + 1 + 1, 0, none⟩) 2 2] ((((((w.alloc (.cells #[.int .i64 c, .slice A n k, .slice B m j] 24)).alloc (.cells #[.int .i64 d, .slice C n2 k2, .slice D m2 j2] 24)).alloc (.cells #[.int .i64 p1, .int .i64 p2, .int .i64 p3, .int .i64 p4] 28)).alloc (.cells #[.int .i64 xf, .int .i64 xt, .int .i64 xm, .int .i64 xi] 30)).alloc (.cells #[.int .i64 c, .slice A n k, .slice B m j, .int .i64 d, .slice C n2 k2, .slice D m2 j2] 24))) fun e w' => e = .returned (.bool true) ∧ Below ((((((w.alloc (.cells #[.int .i64 c, .slice A n k, .slice B m j] 24)).alloc (.cells #[.int .i64 d, .slice C n2 k2, .slice D m2 j2] 24)).alloc (.cells #[.int .i64 p1, .int .i64 p2, .int .i64 p3, .int .i64 p4] 28)).alloc (.cells #[.int .i64 xf, .int .i64 xt, .int .i64 xm, .int .i64 xi] 30)).alloc (.cells #[.int .i64 c, .slice A n k, .slice B m j, .int .i64 d, .slice C n2 k2, .slice D m2 j2] 24))).heap.size ((((((w.alloc (.cells #[.int .i64 c, .slice A n k, .slice B m j] 24)).alloc (.cells #[.int .i64 d, .slice C n2 k2, .slice D m2 j2] 24)).alloc (.cells #[.int .i64 p1, .int .i64 p2, .int .i64 p3, .int .i64 p4] 28)).alloc (.cells #[.int .i64 xf, .int .i64 xt, .int .i64 xm, .int .i64 xi] 30)).alloc (.cells #[.int .i64 c, .slice A n k, .slice B m j, .int .i64 d, .slice C n2 k2, .slice D m2 j2] 24))) w' from by have h := small3_any c A B n k m j d C D n2 k2 m2 j2 (w.heap.size + 1 + 1 + 1 + 1) ((((((w.alloc (.cells #[.int .i64 c, .slice A n k, .slice B m j] 24)).alloc (.cells #[.int .i64 d, .slice C n2 k2, .slice D m2 j2] 24)).alloc (.cells #[.int .i64 p1, .int .i64 p2, .int .i64 p3, .int .i64 p4] 28)).alloc (.cells #[.int .i64 xf, .int .i64 xt, .int .i64 xm, .int .i64 xi] 30)).alloc (.cells #[.int .i64 c, .slice A n k, .slice B m j, .int .i64 d, .slice C n2 k2, .slice D m2 j2] 24))) bs_24.out; rw [show (decide (n ≤ 40) && decide (m ≤ 40) && decide (n2 ≤ 40) && decide (m2 ≤ 40)) = true from hs] at h; exact h)
  have HC := Lib.hid hc; clear hc
  go_wp2_with fail
  refine HC.out.mono ?_
  rintro e w_25 ⟨rfl, hb⟩
  clear HC
  replace bel_1 := bB bel_1 hb
  replace ra_2 := rB ra_2 hb
  replace rb_3 := rB rb_3 hb
  replace rc_4 := rB rc_4 hb
  replace rd_5 := rB rd_5 hb
  replace ba_6 := kB ba_6 hb
  replace bb_7 := kB bb_7 hb
  replace bp_8 := kB bp_8 hb
  replace bx_9 := kB bx_9 hb
  replace bs_24 := kB bs_24 hb
  clear hb
  obtain ⟨z_26, z_27, z_28⟩ := at3 ba_6
  obtain ⟨z_29, z_30, z_31⟩ := at3 bb_7
  obtain ⟨z_32, z_33, z_34, z_35⟩ := at4 bp_8
  obtain ⟨z_36, z_37, z_38, z_39⟩ := at4 bx_9
  have hc := HW.out (w_25) ra_2.out rb_3.out
  have HC := Lib.hid hc; clear hc
  go_wp2_with fail
  refine HC.out.mono ?_
  rintro e w_40 ⟨EC, ec, kc, FC, fc, lc, rfl, hE, hF, hec, hfc, hb⟩
  clear HC
  clear z_26 z_27 z_28 z_29 z_30 z_31 z_32 z_33 z_34 z_35 z_36 z_37 z_38 z_39
  replace bel_1 := bB bel_1 hb
  replace ra_2 := rB ra_2 hb
  replace rb_3 := rB rb_3 hb
  replace rc_4 := rB rc_4 hb
  replace rd_5 := rB rd_5 hb
  replace ba_6 := kB ba_6 hb
  replace bb_7 := kB bb_7 hb
  replace bp_8 := kB bp_8 hb
  replace bx_9 := kB bx_9 hb
  clear hb
  have re_41 := Lib.hid (hE)
  clear hE
  have rf_42 := Lib.hid (hF)
  clear hF
  obtain ⟨z_43, z_44, z_45⟩ := at3 ba_6
  obtain ⟨z_46, z_47, z_48⟩ := at3 bb_7
  obtain ⟨z_49, z_50, z_51, z_52⟩ := at4 bp_8
  obtain ⟨z_53, z_54, z_55, z_56⟩ := at4 bx_9
  obtain ⟨o_, ho_⟩ : ∃ o, o = ((.cells #[.int .i64 cc, .slice EC ec kc, .slice FC fc lc] 24) : Obj) := ⟨_, rfl⟩
  replace bel_1 := bA bel_1 o_
  replace ra_2 := rA ra_2 o_
  replace rb_3 := rA rb_3 o_
  replace rc_4 := rA rc_4 o_
  replace rd_5 := rA rd_5 o_
  replace ba_6 := kA ba_6 o_
  replace bb_7 := kA bb_7 o_
  replace bp_8 := kA bp_8 o_
  replace bx_9 := kA bx_9 o_
  replace re_41 := rA re_41 o_
  replace rf_42 := rA rf_42 o_
  subst ho_
  have bc_57 := Lib.hid (Blk.new w_40 24 #[.int .i64 cc, .slice EC ec kc, .slice FC fc lc])
  obtain ⟨z_58, z_59, z_60⟩ := at3 ba_6
  obtain ⟨z_61, z_62, z_63⟩ := at3 bb_7
  obtain ⟨z_64, z_65, z_66, z_67⟩ := at4 bp_8
  obtain ⟨z_68, z_69, z_70, z_71⟩ := at4 bx_9
  obtain ⟨z_72, z_73, z_74⟩ := at3 bc_57
  have hc := Meets_any c A B n k m j ws ts d C D n2 k2 m2 j2 ws2 ts2 p1 p2 p3 p4 _ ra_2.out rb_3.out hn hm rc_4.out rd_5.out hn2 hm2
  rw [E1.out] at hc
  try dsimp only at hc
  have HC := Lib.hid hc; clear hc
  go_wp2_with fail
  refine HC.out.mono ?_
  rintro e w_75 ⟨rfl, hb⟩
  clear HC
  clear z_43 z_44 z_45 z_46 z_47 z_48 z_49 z_50 z_51 z_52 z_53 z_54 z_55 z_56 z_58 z_59 z_60 z_61 z_62 z_63 z_64 z_65 z_66 z_67 z_68 z_69 z_70 z_71 z_72 z_73 z_74
  replace bel_1 := bB bel_1 hb
  replace ra_2 := rB ra_2 hb
  replace rb_3 := rB rb_3 hb
  replace rc_4 := rB rc_4 hb
  replace rd_5 := rB rd_5 hb
  replace ba_6 := kB ba_6 hb
  replace bb_7 := kB bb_7 hb
  replace bp_8 := kB bp_8 hb
  replace bx_9 := kB bx_9 hb
  replace re_41 := rB re_41 hb
  replace rf_42 := rB rf_42 hb
  replace bc_57 := kB bc_57 hb
  clear hb
  obtain ⟨z_76, z_77, z_78⟩ := at3 ba_6
  obtain ⟨z_79, z_80, z_81⟩ := at3 bb_7
  obtain ⟨z_82, z_83, z_84, z_85⟩ := at4 bp_8
  obtain ⟨z_86, z_87, z_88, z_89⟩ := at4 bx_9
  obtain ⟨z_90, z_91, z_92⟩ := at3 bc_57
  have hc := Meets_any cc EC FC ec kc fc lc wc tc d C D n2 k2 m2 j2 ws2 ts2 p1 p2 p3 p4 _ re_41.out rf_42.out hec hfc rc_4.out rd_5.out hn2 hm2
  rw [E2.out] at hc
  try dsimp only at hc
  have HC := Lib.hid hc; clear hc
  go_wp2_with fail
  refine HC.out.mono ?_
  rintro e w_93 ⟨rfl, hb⟩
  clear HC
  clear z_76 z_77 z_78 z_79 z_80 z_81 z_82 z_83 z_84 z_85 z_86 z_87 z_88 z_89 z_90 z_91 z_92
  replace bel_1 := bB bel_1 hb
  replace ra_2 := rB ra_2 hb
  replace rb_3 := rB rb_3 hb
  replace rc_4 := rB rc_4 hb
  replace rd_5 := rB rd_5 hb
  replace ba_6 := kB ba_6 hb
  replace bb_7 := kB bb_7 hb
  replace bp_8 := kB bp_8 hb
  replace bx_9 := kB bx_9 hb
  replace re_41 := rB re_41 hb
  replace rf_42 := rB rf_42 hb
  replace bc_57 := kB bc_57 hb
  clear hb
  obtain ⟨z_94, z_95, z_96⟩ := at3 ba_6
  obtain ⟨z_97, z_98, z_99⟩ := at3 bb_7
  obtain ⟨z_100, z_101, z_102, z_103⟩ := at4 bp_8
  obtain ⟨z_104, z_105, z_106, z_107⟩ := at4 bx_9
  obtain ⟨z_108, z_109, z_110⟩ := at3 bc_57
  have hc := Shared_any c A B n k m j ws ts d C D n2 k2 m2 j2 ws2 ts2 p1 p2 p3 p4 _ ra_2.out rb_3.out hn hm rc_4.out rd_5.out hn2 hm2
  rw [E3.out] at hc
  try dsimp only at hc
  have HC := Lib.hid hc; clear hc
  go_wp2_with fail
  refine HC.out.mono ?_
  rintro e w_111 ⟨rfl, hb⟩
  clear HC
  clear z_94 z_95 z_96 z_97 z_98 z_99 z_100 z_101 z_102 z_103 z_104 z_105 z_106 z_107 z_108 z_109 z_110
  replace bel_1 := bB bel_1 hb
  replace ra_2 := rB ra_2 hb
  replace rb_3 := rB rb_3 hb
  replace rc_4 := rB rc_4 hb
  replace rd_5 := rB rd_5 hb
  replace ba_6 := kB ba_6 hb
  replace bb_7 := kB bb_7 hb
  replace bp_8 := kB bp_8 hb
  replace bx_9 := kB bx_9 hb
  replace re_41 := rB re_41 hb
  replace rf_42 := rB rf_42 hb
  replace bc_57 := kB bc_57 hb
  clear hb
  obtain ⟨z_112, z_113, z_114⟩ := at3 ba_6
  obtain ⟨z_115, z_116, z_117⟩ := at3 bb_7
  obtain ⟨z_118, z_119, z_120, z_121⟩ := at4 bp_8
  obtain ⟨z_122, z_123, z_124, z_125⟩ := at4 bx_9
  obtain ⟨z_126, z_127, z_128⟩ := at3 bc_57
  have hc := Shared_any cc EC FC ec kc fc lc wc tc d C D n2 k2 m2 j2 ws2 ts2 p1 p2 p3 p4 _ re_41.out rf_42.out hec hfc rc_4.out rd_5.out hn2 hm2
  rw [E4.out] at hc
  try dsimp only at hc
  have HC := Lib.hid hc; clear hc
  go_wp2_with fail
  refine HC.out.mono ?_
  rintro e w_129 ⟨rfl, hb⟩
  clear HC
  clear z_112 z_113 z_114 z_115 z_116 z_117 z_118 z_119 z_120 z_121 z_122 z_123 z_124 z_125 z_126 z_127 z_128
  replace bel_1 := bB bel_1 hb
  replace ra_2 := rB ra_2 hb
  replace rb_3 := rB rb_3 hb
  replace rc_4 := rB rc_4 hb
  replace rd_5 := rB rd_5 hb
  replace ba_6 := kB ba_6 hb
  replace bb_7 := kB bb_7 hb
  replace bp_8 := kB bp_8 hb
  replace bx_9 := kB bx_9 hb
  replace re_41 := rB re_41 hb
  replace rf_42 := rB rf_42 hb
  replace bc_57 := kB bc_57 hb
  clear hb
  obtain ⟨z_130, z_131, z_132⟩ := at3 ba_6
  obtain ⟨z_133, z_134, z_135⟩ := at3 bb_7
  obtain ⟨z_136, z_137, z_138, z_139⟩ := at4 bp_8
  obtain ⟨z_140, z_141, z_142, z_143⟩ := at4 bx_9
  obtain ⟨z_144, z_145, z_146⟩ := at3 bc_57
  have hc := joined_any (w_129)
  have HC := Lib.hid hc; clear hc
  go_wp2_with fail
  refine HC.out.mono ?_
  rintro e w_147 ⟨rfl, hb⟩
  clear HC
  clear z_130 z_131 z_132 z_133 z_134 z_135 z_136 z_137 z_138 z_139 z_140 z_141 z_142 z_143 z_144 z_145 z_146
  replace bel_1 := bB bel_1 hb
  replace ra_2 := rB ra_2 hb
  replace rb_3 := rB rb_3 hb
  replace rc_4 := rB rc_4 hb
  replace rd_5 := rB rd_5 hb
  replace ba_6 := kB ba_6 hb
  replace bb_7 := kB bb_7 hb
  replace bp_8 := kB bp_8 hb
  replace bx_9 := kB bx_9 hb
  replace re_41 := rB re_41 hb
  replace rf_42 := rB rf_42 hb
  replace bc_57 := kB bc_57 hb
  clear hb
  obtain ⟨z_148, z_149, z_150⟩ := at3 ba_6
  obtain ⟨z_151, z_152, z_153⟩ := at3 bb_7
  obtain ⟨z_154, z_155, z_156, z_157⟩ := at4 bp_8
  obtain ⟨z_158, z_159, z_160, z_161⟩ := at4 bx_9
  obtain ⟨z_162, z_163, z_164⟩ := at3 bc_57
  go_wp2
  go_ret
  exact ⟨rfl, bel_1.out⟩
set_option maxRecDepth 100000 in
theorem em_walk (w : World) (c : Int) (A : Option Addr) (n k : Nat) (B : Option Addr) (m j : Nat) (ws ts : List Bnd) (_ : (Lit.int .i64 c).wf = true) (h1 : RdB w A n k ws) (h2 : RdB w B m j ts) (hn : n ≤ maxLen) (hm : m ≤ maxLen) (d : Int) (C : Option Addr) (n2 k2 : Nat) (D : Option Addr) (m2 j2 : Nat) (ws2 ts2 : List Bnd) (_ : (Lit.int .i64 d).wf = true) (h3 : RdB w C n2 k2 ws2) (h4 : RdB w D m2 j2 ts2) (hn2 : n2 ≤ maxLen) (hm2 : m2 ≤ maxLen) (p1 p2 p3 p4 : Int) (u : Bool) (xf xt xm xi : Int) :
 Calls Tryz.prog 15 #[.agg #[.int .i64 c, .slice A n k, .slice B m j], .agg #[.int .i64 d, .slice C n2 k2, .slice D m2 j2], .agg #[.int .i64 p1, .int .i64 p2, .int .i64 p3, .int .i64 p4], .bool u, .agg #[.int .i64 xf, .int .i64 xt, .int .i64 xm, .int .i64 xi]] w fun e w' => e = .returned (.bool true) ∧ Below w.heap.size w w' := by
 cases hs : (decide (n ≤ 40) && decide (m ≤ 40) && decide (n2 ≤ 40) && decide (m2 ≤ 40))
 · exact em_w c A B n k m j ws ts d C D n2 k2 m2 j2 ws2 ts2 p1 p2 p3 p4 w h1 h2 hn hm h3 h4 hn2 hm2 u xf xt xm xi hs
 · have hWA := fun W (r1 : RdB W A n k ws) (r2 : RdB W B m j ts) => With_any c A B n k m j ws ts W r1 r2 hn hm u xf xt xm xi
   unfold RetO at hWA
   obtain ⟨q, hq⟩ : ∃ q, withE u ⟨c, ws, ts⟩ ⟨xf, xt, xm, xi⟩ = q := ⟨_, rfl⟩
   rw [hq] at hWA
   by_cases h0 : q = 0
   · subst h0
     simp only [if_true] at hWA
     have hsm : n ≤ 40 ∧ m ≤ 40 ∧ n2 ≤ 40 ∧ m2 ≤ 40 := by simpa [and_assoc] using hs
     have hl : ws.length ≤ 40 ∧ ts.length ≤ 40 ∧ ws2.length ≤ 40 ∧ ts2.length ≤ 40 := by rw [h1.len, h2.len, h3.len, h4.len]; exact hsm
     have hak := more_asked (a := ⟨c, ws, ts⟩) (b := ⟨d, ws2, ts2⟩) (p := ⟨p1, p2, p3, p4⟩) hl hq
     by_cases ha : asked ⟨c, ws, ts⟩ ⟨d, ws2, ts2⟩ ⟨p1, p2, p3, p4⟩ = 0
     · have ha' : asked (withO u ⟨c, ws, ts⟩ ⟨xf, xt, xm, xi⟩) ⟨d, ws2, ts2⟩ ⟨p1, p2, p3, p4⟩ = 0 := by rw [hak]; exact ha
       have e1 : meetsV ⟨c, ws, ts⟩ ⟨d, ws2, ts2⟩ ⟨p1, p2, p3, p4⟩ = (meetsB ⟨c, ws, ts⟩ ⟨d, ws2, ts2⟩ ⟨p1, p2, p3, p4⟩, 0) := by unfold meetsV; rw [if_pos ha]
       have e2 : meetsV (withO u ⟨c, ws, ts⟩ ⟨xf, xt, xm, xi⟩) ⟨d, ws2, ts2⟩ ⟨p1, p2, p3, p4⟩ = (meetsB (withO u ⟨c, ws, ts⟩ ⟨xf, xt, xm, xi⟩) ⟨d, ws2, ts2⟩ ⟨p1, p2, p3, p4⟩, 0) := by unfold meetsV; rw [if_pos ha']
       cases hmc : meetsB (withO u ⟨c, ws, ts⟩ ⟨xf, xt, xm, xi⟩) ⟨d, ws2, ts2⟩ ⟨p1, p2, p3, p4⟩
       · rw [hmc] at e2
         have e4 : sharedV (withO u ⟨c, ws, ts⟩ ⟨xf, xt, xm, xi⟩) ⟨d, ws2, ts2⟩ ⟨p1, p2, p3, p4⟩ = (0, 0, 30) := by unfold sharedV; rw [if_pos ha', hmc]; rfl
         exact em_no c A B n k m j ws ts d C D n2 k2 m2 j2 ws2 ts2 p1 p2 p3 p4 w h1 h2 hn hm h3 h4 hn2 hm2 u xf xt xm xi hs _ _ _ (Lib.hid hWA) _ _ _ _ _ _ (Lib.hid e1) (Lib.hid e2) (Lib.hid rfl) (Lib.hid e4)
       · rw [hmc] at e2
         have hma := more_meets ha ha' hmc
         rw [hma] at e1
         obtain ⟨g1, g2⟩ := more_ends ha ha' hmc
         have e3 : sharedV ⟨c, ws, ts⟩ ⟨d, ws2, ts2⟩ ⟨p1, p2, p3, p4⟩ = (lowV ⟨c, ws, ts⟩ ⟨d, ws2, ts2⟩ ⟨p1, p2, p3, p4⟩, highV ⟨c, ws, ts⟩ ⟨d, ws2, ts2⟩ ⟨p1, p2, p3, p4⟩, 0) := by unfold sharedV; rw [if_pos ha, hma]; rfl
         have e4 : sharedV (withO u ⟨c, ws, ts⟩ ⟨xf, xt, xm, xi⟩) ⟨d, ws2, ts2⟩ ⟨p1, p2, p3, p4⟩ = (lowV (withO u ⟨c, ws, ts⟩ ⟨xf, xt, xm, xi⟩) ⟨d, ws2, ts2⟩ ⟨p1, p2, p3, p4⟩, highV (withO u ⟨c, ws, ts⟩ ⟨xf, xt, xm, xi⟩) ⟨d, ws2, ts2⟩ ⟨p1, p2, p3, p4⟩, 0) := by unfold sharedV; rw [if_pos ha', hmc]; rfl
         exact em_yes c A B n k m j ws ts d C D n2 k2 m2 j2 ws2 ts2 p1 p2 p3 p4 w h1 h2 hn hm h3 h4 hn2 hm2 u xf xt xm xi hs _ _ _ (Lib.hid hWA) _ _ _ _ g1 g2 (Lib.hid e1) (Lib.hid e2) (Lib.hid e3) (Lib.hid e4)
     · have e1 : meetsV ⟨c, ws, ts⟩ ⟨d, ws2, ts2⟩ ⟨p1, p2, p3, p4⟩ = (false, asked ⟨c, ws, ts⟩ ⟨d, ws2, ts2⟩ ⟨p1, p2, p3, p4⟩) := by unfold meetsV; rw [if_neg ha]
       have e2 : meetsV (withO u ⟨c, ws, ts⟩ ⟨xf, xt, xm, xi⟩) ⟨d, ws2, ts2⟩ ⟨p1, p2, p3, p4⟩ = (false, asked ⟨c, ws, ts⟩ ⟨d, ws2, ts2⟩ ⟨p1, p2, p3, p4⟩) := by unfold meetsV; rw [hak, if_neg ha]
       exact em_asked c A B n k m j ws ts d C D n2 k2 m2 j2 ws2 ts2 p1 p2 p3 p4 w h1 h2 hn hm h3 h4 hn2 hm2 u xf xt xm xi hs _ _ _ (Lib.hid hWA) _ (by simpa using ha) _ _ _ _ _ _ _ _ (Lib.hid e1) (Lib.hid e2) (Lib.hid rfl) (Lib.hid rfl)
   · exact em_err c A B n k m j ws ts d C D n2 k2 m2 j2 ws2 ts2 p1 p2 p3 p4 w h1 h2 hn hm h3 h4 hn2 hm2 u xf xt xm xi hs q _ _ _ (Lib.hid hWA) (by simpa using h0)
set_option maxRecDepth 100000 in
theorem edgeMore_lifted (os : Os) (started : os.Started) (H : Type) (enc : TypeId × Value → H) :
 ReturnsInHanded {} Tryz.checked os 15 .any (Rows.edgeMoreSpec.pre6 enc Tryz.prog Tryz.f15 Rows.edgeMoreRow.domain false) (Rows.edgeMoreSpec.post enc Tryz.prog Tryz.f15 false true false false) := by
 refine returnsInHanded_of_change (C := Tryz.checked) Law.own started (by kernel_rfl) Tryz.func15
  (ChangeSpec.witness6 (enc := enc) (C := Tryz.checked) false ⟨#[], #[.agg #[.int .i64 0, .slice none 0 0, .slice none 0 0], .agg #[.int .i64 0, .slice none 0 0, .slice none 0 0], .agg #[.int .i64 0, .int .i64 0, .int .i64 0, .int .i64 0], .bool false, .agg #[.int .i64 0, .int .i64 0, .int .i64 0, .int .i64 0]], []⟩ 8 (by kernel_rfl) (by kernel_rfl) (by kernel_rfl) (by kernel_rfl)) ?_
 intro W base args ds gs before hval0 hW hcnd _
 have hval : ∀ (j : Nat) t v, Tryz.f15.params[j]? = some t → args[j]? = some v → Value.okWide Tryz.prog W .any base t v := hval0
 have hW' := hW
 obtain ⟨p, q, hA0, hV, rfl, hfz, hnd⟩ := hW
 have hA : DataW.TrodAll enc Tryz.prog W 0 (fun _ => true) true Tryz.f15.params.toList args.toList ds p := hA0
 rw [Tryz.params15] at hA hval
 obtain ⟨v0, vs0, d0, ds0, p0, q0, hargs, rfl, rfl, h0, r0⟩ := trodAll_cons hA
 obtain ⟨v1, vs1, d1, ds1, p1, q1, rfl, rfl, rfl, h1, r1⟩ := trodAll_cons r0
 obtain ⟨v2, vs2, d2, ds2, p2, q2, rfl, rfl, rfl, h2, r2⟩ := trodAll_cons r1
 obtain ⟨v3, vs3, d3, ds3, p3, q3, rfl, rfl, rfl, h3, r3⟩ := trodAll_cons r2
 obtain ⟨v4, vs4, d4, ds4, p4, q4, rfl, rfl, rfl, h4, r4⟩ := trodAll_cons r3
 obtain ⟨rfl, rfl, rfl⟩ := trodAll_nil r4
 obtain rfl : args = #[v0, v1, v2, v3, v4] := by cases args; simp_all
 obtain ⟨rfl, rfl⟩ := trodVars_none hV
 have k0 := h0
 have lt0 : ∀ x ∈ p0, x.block < W.heap.size := by obtain ⟨m, hm⟩ := k0; exact DataW.trod_lt m _ _ _ hm
 obtain ⟨c0, A0, n0, k0', B0, m0, j0, ws0, ts0, rfl, w0, ra0, rb0, xa0, xb0⟩ := open_outl (hval 0 24 v0 rfl rfl) h0
 have k1 := h1
 have lt1 : ∀ x ∈ p1, x.block < W.heap.size := by obtain ⟨m, hm⟩ := k1; exact DataW.trod_lt m _ _ _ hm
 obtain ⟨c1, A1, n1, k1', B1, m1, j1, ws1, ts1, rfl, w1, ra1, rb1, xa1, xb1⟩ := open_outl (hval 1 24 v1 rfl rfl) h1
 have k2 := h2
 have lt2 : ∀ x ∈ p2, x.block < W.heap.size := by obtain ⟨m, hm⟩ := k2; exact DataW.trod_lt m _ _ _ hm
 obtain ⟨f2, t2, m2, i2, rfl⟩ := open_pair (hval 2 28 v2 rfl rfl) h2
 obtain ⟨a3, rfl, rfl, rfl⟩ := open_bool Tryz.underlying4 (hval 3 4 v3 rfl rfl) h3
 have k4 := h4
 have lt4 : ∀ x ∈ p4, x.block < W.heap.size := by obtain ⟨m, hm⟩ := k4; exact DataW.trod_lt m _ _ _ hm
 obtain ⟨f4, t4, m4, i4, rfl⟩ := open_bound (hval 4 30 v4 rfl rfl) h4
 clear hA0 hval0
 refine (em_walk W c0 A0 n0 k0' B0 m0 j0 ws0 ts0 w0 ra0 rb0 xa0 xb0 c1 A1 n1 k1' B1 m1 j1 ws1 ts1 w1 ra1 rb1 xa1 xb1 f2 t2 m2 i2 a3 f4 t4 m4 i4).mono fun e W' ⟨he, bel⟩ => ?_
 subst he
 exact ⟨_, rfl, _, _, _, [], _, [], hW', trodAll_mk1 (shut_bool Tryz.underlying4 _), (trodAll_cons_mk (Below.trod Law.laidOut (by kernel_rfl) (of_decide_eq_true (by kernel_rfl)) k0 bel lt0) (trodAll_cons_mk (Below.trod Law.laidOut (by kernel_rfl) (of_decide_eq_true (by kernel_rfl)) k1 bel lt1) (trodAll_cons_mk (Below.trod Law.laidOut (by kernel_rfl) (of_decide_eq_true (by kernel_rfl)) k2 bel lt2) (trodAll_cons_mk (shut_bool Tryz.underlying4 a3) (trodAll_cons_mk (Below.trod Law.laidOut (by kernel_rfl) (of_decide_eq_true (by kernel_rfl)) k4 bel lt4) trodAll_mk0))))), rfl, bel.frame _, fun h => by cases h⟩
theorem edgeMore_over : Rows.edgeMoreRow.holds Tryz.pinned (OpenSpec.ofChange Rows.edgeMoreSpec) :=
 OpenClaim.holds_of_wide 15 Tryz.f15 rfl rfl rfl rfl rfl rfl rfl ⟨rfl, rfl, rfl, rfl, rfl⟩ rfl rfl rfl rfl rfl (by kernel_rfl) Tryz.func15 (by kernel_rfl)
  (of_decide_eq_true (by kernel_rfl)) (by unfold Func.isWrapper; first | (rw [if_pos (by decide +kernel)]; kernel_rfl) | (rw [if_neg (by decide +kernel)]; exact ⟨rfl, rfl⟩))
  (fun os started H enc _ => edgeMore_lifted os started H enc)
theorem edgeMore_proved : Rows.EdgeMoreSaid := edgeMore_over
end Go.Proofs.YtaoanagmgheicaaGreat
