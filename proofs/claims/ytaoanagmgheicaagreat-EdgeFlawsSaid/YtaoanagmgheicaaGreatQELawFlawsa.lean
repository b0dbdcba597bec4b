import Derived.Shelf.SlSortCmp.NoneTotal
import Derived.Test.YtaoanagmgheicaaGreatQEMax
import Derived.Test.YtaoanagmgheicaaGreatQESort
import Derived.Test.YtaoanagmgheicaaGreatQELongest
import Derived.Test.YtaoanagmgheicaaGreatRows
import Derived.Test.YtaoanagmgheicaaGreatQEAlive
import Derived.Test.YtaoanagmgheicaaGreatQEOpen
import Derived.Test.YtaoanagmgheicaaGreatQERefFa
set_option maxHeartbeats 4000000
set_option linter.unusedSimpArgs false
set_option linter.unusedVariables false
namespace Go.Proofs.YtaoanagmgheicaaGreat
open Go.RowKit
set_option maxRecDepth 100000 in
theorem small3_any (c : Int) (A B : Option Addr) (n k m j : Nat) (d : Int) (C D : Option Addr) (n2 k2 m2 j2 : Nat) (g : Nat) (w : World) (hb : Blk w g 24 #[.int .i64 c, .slice A n k, .slice B m j, .int .i64 d, .slice C n2 k2, .slice D m2 j2]) :
 Calls Tryz.prog 30 #[.slice (some ⟨g, 0, none⟩) 2 2] w fun e w' => e = .returned (.bool (decide (n ≤ 40) && decide (m ≤ 40) && decide (n2 ≤ 40) && decide (m2 ≤ 40))) ∧ Below w.heap.size w w' := by
 have HB := Lib.hid hb; clear hb
 go_enter Tryz.func30, Tryz.ntmps30
 go_wp2
 go_loopw [3] (fun i wr => (i = .int .i64 0 ∨ (i = .int .i64 1 ∧ n ≤ 40 ∧ m ≤ 40) ∨ (i = .int .i64 2 ∧ n ≤ 40 ∧ m ≤ 40 ∧ n2 ≤ 40 ∧ m2 ≤ 40)) ∧ Blk wr g 24 #[.int .i64 c, .slice A n k, .slice B m j, .int .i64 d, .slice C n2 k2, .slice D m2 j2] ∧ Below w.heap.size w wr) (fun i _ => 2 - (intOf i).toNat)
 case atStart => exact ⟨.inl rfl, HB.out, Below.refl _ _⟩
 case round =>
  obtain ⟨hi, hb, hbe⟩ := hrel
  have c0 : wr.cell? ⟨g, 0, none⟩ = some (.int .i64 c) := hb.cell 0
  have c1 : wr.cell? ⟨g, 1, none⟩ = some (.slice A n k) := hb.cell 1
  have c2 : wr.cell? ⟨g, 2, none⟩ = some (.slice B m j) := hb.cell 2
  have c3 : wr.cell? ⟨g, 3, none⟩ = some (.int .i64 d) := hb.cell 3
  have c4 : wr.cell? ⟨g, 4, none⟩ = some (.slice C n2 k2) := hb.cell 4
  have c5 : wr.cell? ⟨g, 5, none⟩ = some (.slice D m2 j2) := hb.cell 5
  have hlt := hb.lt; have HBB := Lib.hid hb; have HBE := Lib.hid hbe; clear hb hbe
  rcases hi with rfl | ⟨rfl, k1, k2⟩ | ⟨rfl, k1, k2, k3, k4⟩
  · by_cases hx : n ≤ 40
    · have hx' : ¬ (40 : Int) < n := by omega
      by_cases hy : m ≤ 40
      · have hy' : ¬ (40 : Int) < m := by omega
        go_wp2
        go_roundw
        case rel => exact ⟨.inr (.inl ⟨rfl, hx, hy⟩), HBB.out, HBE.out⟩
        case measure => simp [intOf]
      · have hy' : (40 : Int) < m := by omega
        go_wp2
        go_ret
        exact ⟨ret_bool (by simp [hx, hy]), HBE.out⟩
    · have hx' : (40 : Int) < n := by omega
      go_wp2
      go_ret
      exact ⟨ret_bool (by simp [hx]), HBE.out⟩
  · by_cases hx : n2 ≤ 40
    · have hx' : ¬ (40 : Int) < n2 := by omega
      by_cases hy : m2 ≤ 40
      · have hy' : ¬ (40 : Int) < m2 := by omega
        go_wp2
        go_roundw
        case rel => exact ⟨.inr (.inr ⟨rfl, k1, k2, hx, hy⟩), HBB.out, HBE.out⟩
        case measure => simp [intOf]
      · have hy' : (40 : Int) < m2 := by omega
        go_wp2
        go_ret
        exact ⟨ret_bool (by simp [k1, k2, hx, hy]), HBE.out⟩
    · have hx' : (40 : Int) < n2 := by omega
      go_wp2
      go_ret
      exact ⟨ret_bool (by simp [k1, k2, hx]), HBE.out⟩
  · go_wp2
    go_ret
    exact ⟨ret_bool (by simp [k1, k2, k3, k4]), HBE.out⟩
end Go.Proofs.YtaoanagmgheicaaGreat
set_option linter.unusedSimpArgs false
set_option linter.unusedVariables false
namespace Go.Proofs.YtaoanagmgheicaaGreat
open Go.ChangeShapes Go.WideShapes Go.ChangeAt Go.RowKit
set_option maxRecDepth 100000
section
variable {H : Type} {enc : TypeId × Value → H} {W : World} {base : Nat} {sp : Nat → Bool} {held : Bool}
theorem open_pair {r : Reach} {b0 : Nat} {v : Value} {d : DataW H} {p : List MemPlace} (hv : Value.okWide Tryz.prog W r b0 28 v) (h : DataW.Trod enc Tryz.prog W base sp held 28 v d p) :
 ∃ f t m i, v = .agg #[.int .i64 f, .int .i64 t, .int .i64 m, .int .i64 i] := by
 obtain ⟨cs, rfl, hsz⟩ := okWide_struct Tryz.underlying28 hv
 obtain ⟨c0, c1, c2, c3, rfl⟩ := Go.Joins.array4 (hsz.trans (by kernel_rfl))
 obtain ⟨fuel, hf⟩ := h
 obtain ⟨y0, y1, fu, -, -, h0, h1⟩ := trod_struct2 Tryz.underlying28 hf
 have k2 : Tryz.prog.cellsOf 26 = 2 := by kernel_rfl
 have k1 : Tryz.prog.cellsOf 3 = 1 := by kernel_rfl
 simp only [Value.cells, k2, List.drop_zero, List.take_succ_cons, List.take_zero, List.drop_succ_cons] at h0 h1
 obtain ⟨z0, z1, f1, -, -, g0, g1⟩ := trod_struct2 Tryz.underlying26 h0
 obtain ⟨z2, z3, f2, -, -, g2, g3⟩ := trod_struct2 Tryz.underlying26 h1
 simp only [k1, List.drop_zero, List.take_succ_cons, List.take_zero, List.drop_succ_cons] at g0 g1 g2 g3
 obtain ⟨a0, e0, -, -⟩ := DataW.trod_int Tryz.underlying3 g0
 obtain ⟨a1, e1, -, -⟩ := DataW.trod_int Tryz.underlying3 g1
 obtain ⟨a2, e2, -, -⟩ := DataW.trod_int Tryz.underlying3 g2
 obtain ⟨a3, e3, -, -⟩ := DataW.trod_int Tryz.underlying3 g3
 simp only [List.cons.injEq, and_true] at e0 e1 e2 e3
 subst e0 e1 e2 e3
 exact ⟨a0, a1, a2, a3, rfl⟩
end
end Go.Proofs.YtaoanagmgheicaaGreat
set_option linter.unusedSimpArgs false
set_option linter.unusedVariables false
namespace Go.Proofs.YtaoanagmgheicaaGreat
open Go.ChangeShapes Go.WideShapes Go.ChangeAt Go.RowKit
set_option maxRecDepth 100000 in
theorem ef_w (c : Int) (A B : Option Addr) (n k m j : Nat) (ws ts : List Bnd) (d : Int) (C D : Option Addr) (n2 k2 m2 j2 : Nat) (ws2 ts2 : List Bnd) (p1 p2 p3 p4 : Int) (w : World) (h1 : RdB w A n k ws) (h2 : RdB w B m j ts) (hn : n ≤ maxLen) (hm : m ≤ maxLen) (h3 : RdB w C n2 k2 ws2) (h4 : RdB w D m2 j2 ts2) (hn2 : n2 ≤ maxLen) (hm2 : m2 ≤ maxLen) (hs : (decide (n ≤ 40) && decide (m ≤ 40) && decide (n2 ≤ 40) && decide (m2 ≤ 40)) = false) : Calls Tryz.prog 7 #[.agg #[.int .i64 c, .slice A n k, .slice B m j], .agg #[.int .i64 d, .slice C n2 k2, .slice D m2 j2], .agg #[.int .i64 p1, .int .i64 p2, .int .i64 p3, .int .i64 p4]] w fun e w' => e = .returned (.bool true) ∧ Below w.heap.size w w' := by
 go_enter Tryz.func7, Tryz.ntmps7
 obtain ⟨ba_1, bb_2, bp_3, bel_4⟩ := ent3 w #[.int .i64 c, .slice A n k, .slice B m j] 24 #[.int .i64 d, .slice C n2 k2, .slice D m2 j2] 24 #[.int .i64 p1, .int .i64 p2, .int .i64 p3, .int .i64 p4] 28
 have ra_5 := rI h1 bel_4
 have rb_6 := rI h2 bel_4
 have rc_7 := rI h3 bel_4
 have rd_8 := rI h4 bel_4
 clear h1 h2 h3 h4
 obtain ⟨z_9, z_10, z_11⟩ := at3 ba_1
 obtain ⟨z_12, z_13, z_14⟩ := at3 bb_2
 obtain ⟨z_15, z_16, z_17, z_18⟩ := at4 bp_3
 clear z_9 z_10 z_11 z_12 z_13 z_14 z_15 z_16 z_17 z_18
 obtain ⟨o_, ho_⟩ : ∃ o, o = ((.cells #[.int .i64 c, .slice A n k, .slice B m j, .int .i64 d, .slice C n2 k2, .slice D m2 j2] 24) : Obj) := ⟨_, rfl⟩
 replace bel_4 := bA bel_4 o_
 replace ra_5 := rA ra_5 o_
 replace rb_6 := rA rb_6 o_
 replace rc_7 := rA rc_7 o_
 replace rd_8 := rA rd_8 o_
 replace ba_1 := kA ba_1 o_
 replace bb_2 := kA bb_2 o_
 replace bp_3 := kA bp_3 o_
 subst ho_
 have nb_ := Blk.new (((w.alloc (.cells #[.int .i64 c, .slice A n k, .slice B m j] 24)).alloc (.cells #[.int .i64 d, .slice C n2 k2, .slice D m2 j2] 24)).alloc (.cells #[.int .i64 p1, .int .i64 p2, .int .i64 p3, .int .i64 p4] 28)) 24 #[.int .i64 c, .slice A n k, .slice B m j, .int .i64 d, .slice C n2 k2, .slice D m2 j2]
 simp only [World.size_alloc] at nb_
 have bs_19 := Lib.hid nb_; clear nb_
 have hc := (show Calls Tryz.prog 30 #[.slice (some ⟨w.heap.size + 1 + 1 + 1, 0, none⟩) 2 2] (((((w.alloc (.cells #[.int .i64 c, .slice A n k, .slice B m j] 24)).alloc (.cells #[.int .i64 d, .slice C n2 k2, .slice D m2 j2] 24)).alloc (.cells #[.int .i64 p1, .int .i64 p2, .int .i64 p3, .int .i64 p4] 28)).alloc (.cells #[.int .i64 c, .slice A n k, .slice B m j, .int .i64 d, .slice C n2 k2, .slice D m2 j2] 24))) fun e w' => e = .returned (.bool false) ∧ Below (((((w.alloc (.cells #[.int .i64 c, .slice A n k, .slice B m j] 24)).alloc (.cells #[.int .i64 d, .slice C n2 k2, .slice D m2 j2] 24)).alloc (.cells #[.int .i64 p1, .int .i64 p2, .int .i64 p3, .int .i64 p4] 28)).alloc (.cells #[.int .i64 c, .slice A n k, .slice B m j, .int .i64 d, .slice C n2 k2, .slice D m2 j2] 24))).heap.size (((((w.alloc (.cells #[.int .i64 c, .slice A n k, .slice B m j] 24)).alloc (.cells #[.int .i64 d, .slice C n2 k2, .slice D m2 j2] 24)).alloc (.cells #[.int .i64 p1, .int .i64 p2, .int .i64 p3, .int .i64 p4] 28)).alloc (.cells #[.int .i64 c, .slice A n k, .slice B m j, .int .i64 d, .slice C n2 k2, .slice D m2 j2] 24))) w' from by have h := small3_any c A B n k m j d C D n2 k2 m2 j2 (w.heap.size + 1 + 1 + 1) (((((w.alloc (.cells #[.int .i64 c, .slice A n k, .slice B m j] 24)).alloc (.cells #[.int .i64 d, .slice C n2 k2, .slice D m2 j2] 24)).alloc (.cells #[.int .i64 p1, .int .i64 p2, .int .i64 p3, .int .i64 p4] 28)).alloc (.cells #[.int .i64 c, .slice A n k, .slice B m j, .int .i64 d, .slice C n2 k2, .slice D m2 j2] 24))) bs_19.out; rw [show (decide (n ≤ 40) && decide (m ≤ 40) && decide (n2 ≤ 40) && decide (m2 ≤ 40)) = false from hs] at h; exact h)
 have HC := Lib.hid hc; clear hc
 go_wp2_with fail
 refine HC.out.mono ?_
 rintro e w_20 ⟨rfl, hb⟩
 clear HC
 have hb_21 := Lib.hid hb
 clear hb
 replace ba_1 := kH ba_1 hb_21
 obtain ⟨z_22, z_23, z_24⟩ := at3 ba_1
 replace bb_2 := kH bb_2 hb_21
 obtain ⟨z_25, z_26, z_27⟩ := at3 bb_2
 replace bp_3 := kH bp_3 hb_21
 obtain ⟨z_28, z_29, z_30, z_31⟩ := at4 bp_3
 have hc := joined_any (w_20)
 have HC := Lib.hid hc; clear hc
 go_wp2_with fail
 refine HC.out.mono ?_
 rintro e w_32 ⟨rfl, hb⟩
 clear HC
 clear z_22 z_23 z_24 z_25 z_26 z_27 z_28 z_29 z_30 z_31
 have hb_33 := Lib.hid hb
 clear hb
 replace ba_1 := kH ba_1 hb_33
 obtain ⟨z_34, z_35, z_36⟩ := at3 ba_1
 replace bb_2 := kH bb_2 hb_33
 obtain ⟨z_37, z_38, z_39⟩ := at3 bb_2
 replace bp_3 := kH bp_3 hb_33
 obtain ⟨z_40, z_41, z_42, z_43⟩ := at4 bp_3
 go_wp2
 go_ret
 replace bel_4 := bH (bH bel_4 hb_21) hb_33
 exact ⟨rfl, bel_4.out⟩
set_option maxRecDepth 100000 in
theorem ef_no (c : Int) (A B : Option Addr) (n k m j : Nat) (ws ts : List Bnd) (d : Int) (C D : Option Addr) (n2 k2 m2 j2 : Nat) (ws2 ts2 : List Bnd) (p1 p2 p3 p4 : Int) (w : World) (h1 : RdB w A n k ws) (h2 : RdB w B m j ts) (hn : n ≤ maxLen) (hm : m ≤ maxLen) (h3 : RdB w C n2 k2 ws2) (h4 : RdB w D m2 j2 ts2) (hn2 : n2 ≤ maxLen) (hm2 : m2 ≤ maxLen) (hs : (decide (n ≤ 40) && decide (m ≤ 40) && decide (n2 ≤ 40) && decide (m2 ≤ 40)) = true) (q : Int) (E1 : Hid (chkO ⟨c, ws, ts⟩ = q)) (EV : Hid (ownFlawV ⟨c, ws, ts⟩ = (([], false, false), q))) (EN : Hid (q = 0 → fewO ⟨c, ws, ts⟩ = (0, false))) : Calls Tryz.prog 7 #[.agg #[.int .i64 c, .slice A n k, .slice B m j], .agg #[.int .i64 d, .slice C n2 k2, .slice D m2 j2], .agg #[.int .i64 p1, .int .i64 p2, .int .i64 p3, .int .i64 p4]] w fun e w' => e = .returned (.bool true) ∧ Below w.heap.size w w' := by
 go_enter Tryz.func7, Tryz.ntmps7
 obtain ⟨ba_1, bb_2, bp_3, bel_4⟩ := ent3 w #[.int .i64 c, .slice A n k, .slice B m j] 24 #[.int .i64 d, .slice C n2 k2, .slice D m2 j2] 24 #[.int .i64 p1, .int .i64 p2, .int .i64 p3, .int .i64 p4] 28
 have ra_5 := rI h1 bel_4
 have rb_6 := rI h2 bel_4
 have rc_7 := rI h3 bel_4
 have rd_8 := rI h4 bel_4
 clear h1 h2 h3 h4
 obtain ⟨z_9, z_10, z_11⟩ := at3 ba_1
 obtain ⟨z_12, z_13, z_14⟩ := at3 bb_2
 obtain ⟨z_15, z_16, z_17, z_18⟩ := at4 bp_3
 clear z_9 z_10 z_11 z_12 z_13 z_14 z_15 z_16 z_17 z_18
 obtain ⟨o_, ho_⟩ : ∃ o, o = ((.cells #[.int .i64 c, .slice A n k, .slice B m j, .int .i64 d, .slice C n2 k2, .slice D m2 j2] 24) : Obj) := ⟨_, rfl⟩
 replace bel_4 := bA bel_4 o_
 replace ra_5 := rA ra_5 o_
 replace rb_6 := rA rb_6 o_
 replace rc_7 := rA rc_7 o_
 replace rd_8 := rA rd_8 o_
 replace ba_1 := kA ba_1 o_
 replace bb_2 := kA bb_2 o_
 replace bp_3 := kA bp_3 o_
 subst ho_
 have nb_ := Blk.new (((w.alloc (.cells #[.int .i64 c, .slice A n k, .slice B m j] 24)).alloc (.cells #[.int .i64 d, .slice C n2 k2, .slice D m2 j2] 24)).alloc (.cells #[.int .i64 p1, .int .i64 p2, .int .i64 p3, .int .i64 p4] 28)) 24 #[.int .i64 c, .slice A n k, .slice B m j, .int .i64 d, .slice C n2 k2, .slice D m2 j2]
 simp only [World.size_alloc] at nb_
 have bs_19 := Lib.hid nb_; clear nb_
 have hc := (show Calls Tryz.prog 30 #[.slice (some ⟨w.heap.size + 1 + 1 + 1, 0, none⟩) 2 2] (((((w.alloc (.cells #[.int .i64 c, .slice A n k, .slice B m j] 24)).alloc (.cells #[.int .i64 d, .slice C n2 k2, .slice D m2 j2] 24)).alloc (.cells #[.int .i64 p1, .int .i64 p2, .int .i64 p3, .int .i64 p4] 28)).alloc (.cells #[.int .i64 c, .slice A n k, .slice B m j, .int .i64 d, .slice C n2 k2, .slice D m2 j2] 24))) fun e w' => e = .returned (.bool true) ∧ Below (((((w.alloc (.cells #[.int .i64 c, .slice A n k, .slice B m j] 24)).alloc (.cells #[.int .i64 d, .slice C n2 k2, .slice D m2 j2] 24)).alloc (.cells #[.int .i64 p1, .int .i64 p2, .int .i64 p3, .int .i64 p4] 28)).alloc (.cells #[.int .i64 c, .slice A n k, .slice B m j, .int .i64 d, .slice C n2 k2, .slice D m2 j2] 24))).heap.size (((((w.alloc (.cells #[.int .i64 c, .slice A n k, .slice B m j] 24)).alloc (.cells #[.int .i64 d, .slice C n2 k2, .slice D m2 j2] 24)).alloc (.cells #[.int .i64 p1, .int .i64 p2, .int .i64 p3, .int .i64 p4] 28)).alloc (.cells #[.int .i64 c, .slice A n k, .slice B m j, .int .i64 d, .slice C n2 k2, .slice D m2 j2] 24))) w' from by have h := small3_any c A B n k m j d C D n2 k2 m2 j2 (w.heap.size + 1 + 1 + 1) (((((w.alloc (.cells #[.int .i64 c, .slice A n k, .slice B m j] 24)).alloc (.cells #[.int .i64 d, .slice C n2 k2, .slice D m2 j2] 24)).alloc (.cells #[.int .i64 p1, .int .i64 p2, .int .i64 p3, .int .i64 p4] 28)).alloc (.cells #[.int .i64 c, .slice A n k, .slice B m j, .int .i64 d, .slice C n2 k2, .slice D m2 j2] 24))) bs_19.out; rw [show (decide (n ≤ 40) && decide (m ≤ 40) && decide (n2 ≤ 40) && decide (m2 ≤ 40)) = true from hs] at h; exact h)
 have HC := Lib.hid hc; clear hc
 go_wp2_with fail
 refine HC.out.mono ?_
 rintro e w_20 ⟨rfl, hb⟩
 clear HC
 have hb_21 := Lib.hid hb
 clear hb
 replace ba_1 := kH ba_1 hb_21
 obtain ⟨z_22, z_23, z_24⟩ := at3 ba_1
 replace bb_2 := kH bb_2 hb_21
 obtain ⟨z_25, z_26, z_27⟩ := at3 bb_2
 replace bp_3 := kH bp_3 hb_21
 obtain ⟨z_28, z_29, z_30, z_31⟩ := at4 bp_3
 replace ra_5 := rH ra_5 hb_21
 replace rb_6 := rH rb_6 hb_21
 have hc := Flaw_any c A B n k m j ws ts _ ra_5.out rb_6.out hn hm
 rw [EV.out] at hc
 unfold RetFE at hc
 dsimp only at hc
 have hc := hc
 have HC := Lib.hid hc; clear hc
 go_wp2_with fail
 refine HC.out.mono ?_
 rintro e w_32 ⟨A9, n9, c9, rfl, hr9, hm9, hb⟩
 clear HC
 clear z_22 z_23 z_24 z_25 z_26 z_27 z_28 z_29 z_30 z_31
 have hb_33 := Lib.hid hb
 clear hb
 have z9_34 := Lib.hid (hr9)
 clear hr9
 obtain rfl : n9 = 0 := z9_34.out.len.symm
 replace ba_1 := kH ba_1 hb_33
 obtain ⟨z_35, z_36, z_37⟩ := at3 ba_1
 replace bb_2 := kH bb_2 hb_33
 obtain ⟨z_38, z_39, z_40⟩ := at3 bb_2
 replace bp_3 := kH bp_3 hb_33
 obtain ⟨z_41, z_42, z_43, z_44⟩ := at4 bp_3
 obtain ⟨o_, ho_⟩ : ∃ o, o = ((.cells #[.bool false, .slice A9 0 c9] 33) : Obj) := ⟨_, rfl⟩
 replace bel_4 := bA (bH (bH bel_4 hb_21) hb_33) o_
 replace ra_5 := rA (rH ra_5 hb_33) o_
 replace rb_6 := rA (rH rb_6 hb_33) o_
 replace rc_7 := rA (rH (rH rc_7 hb_21) hb_33) o_
 replace rd_8 := rA (rH (rH rd_8 hb_21) hb_33) o_
 replace ba_1 := kA ba_1 o_
 replace bb_2 := kA bb_2 o_
 replace bp_3 := kA bp_3 o_
 replace z9_34 := iA z9_34 o_
 subst ho_
 have bf_45 := Lib.hid (Blk.new w_32 33 #[.bool false, .slice A9 0 c9])
 obtain ⟨z_46, z_47, z_48⟩ := at3 ba_1
 obtain ⟨z_49, z_50, z_51⟩ := at3 bb_2
 obtain ⟨z_52, z_53, z_54, z_55⟩ := at4 bp_3
 obtain ⟨z_56, z_57⟩ := at2 bf_45
 have hc := rCheckOutline_any c A B n k m j ws ts _ ra_5.out rb_6.out hn hm
 rw [E1.out] at hc
 try dsimp only at hc
 have HC := Lib.hid hc; clear hc
 go_wp2_with fail
 refine HC.out.mono ?_
 rintro e w_58 ⟨rfl, hb⟩
 clear HC
 clear z_35 z_36 z_37 z_38 z_39 z_40 z_41 z_42 z_43 z_44 z_46 z_47 z_48 z_49 z_50 z_51 z_52 z_53 z_54 z_55 z_56 z_57
 have hb_59 := Lib.hid hb
 clear hb
 replace ba_1 := kH ba_1 hb_59
 obtain ⟨z_60, z_61, z_62⟩ := at3 ba_1
 replace bb_2 := kH bb_2 hb_59
 obtain ⟨z_63, z_64, z_65⟩ := at3 bb_2
 replace bp_3 := kH bp_3 hb_59
 obtain ⟨z_66, z_67, z_68, z_69⟩ := at4 bp_3
 replace bf_45 := kH bf_45 hb_59
 obtain ⟨z_70, z_71⟩ := at2 bf_45
 replace bel_4 := bH bel_4 hb_59
 replace ra_5 := rH ra_5 hb_59
 replace rb_6 := rH rb_6 hb_59
 replace rc_7 := rH rc_7 hb_59
 replace rd_8 := rH rd_8 hb_59
 replace z9_34 := iH z9_34 hb_59
 by_cases h0 : q = 0
 · subst h0
   have hc := rFewestOwn_any c A B n k m j ws ts _ ra_5.out rb_6.out hn hm E1.out
   rw [(EN.out rfl)] at hc
   try dsimp only at hc
   have HC := Lib.hid hc; clear hc
   go_wp2_with fail
   refine HC.out.mono ?_
   rintro e w_1072 ⟨rfl, hb⟩
   clear HC
   clear z_60 z_61 z_62 z_63 z_64 z_65 z_66 z_67 z_68 z_69 z_70 z_71
   have hb_1073 := Lib.hid hb
   clear hb
   replace ba_1 := kH ba_1 hb_1073
   obtain ⟨z_1074, z_1075, z_1076⟩ := at3 ba_1
   replace bb_2 := kH bb_2 hb_1073
   obtain ⟨z_1077, z_1078, z_1079⟩ := at3 bb_2
   replace bp_3 := kH bp_3 hb_1073
   obtain ⟨z_1080, z_1081, z_1082, z_1083⟩ := at4 bp_3
   replace bf_45 := kH bf_45 hb_1073
   obtain ⟨z_1084, z_1085⟩ := at2 bf_45
   have hc := joined_any (w_1072)
   have HC := Lib.hid hc; clear hc
   go_wp2_with fail
   refine HC.out.mono ?_
   rintro e w_1086 ⟨rfl, hb⟩
   clear HC
   clear z_1074 z_1075 z_1076 z_1077 z_1078 z_1079 z_1080 z_1081 z_1082 z_1083 z_1084 z_1085
   have hb_1087 := Lib.hid hb
   clear hb
   replace ba_1 := kH ba_1 hb_1087
   obtain ⟨z_1088, z_1089, z_1090⟩ := at3 ba_1
   replace bb_2 := kH bb_2 hb_1087
   obtain ⟨z_1091, z_1092, z_1093⟩ := at3 bb_2
   replace bp_3 := kH bp_3 hb_1087
   obtain ⟨z_1094, z_1095, z_1096, z_1097⟩ := at4 bp_3
   replace bf_45 := kH bf_45 hb_1087
   obtain ⟨z_1098, z_1099⟩ := at2 bf_45
   go_wp2
   go_ret
   replace bel_4 := bH (bH bel_4 hb_1073) hb_1087
   exact ⟨rfl, bel_4.out⟩
 · have hq : (q != 0) = true := by simpa using h0
   clear h0
   have hc := joined_any (w_58)
   have HC := Lib.hid hc; clear hc
   go_wp2_with fail
   refine HC.out.mono ?_
   rintro e w_1072 ⟨rfl, hb⟩
   clear HC
   clear z_60 z_61 z_62 z_63 z_64 z_65 z_66 z_67 z_68 z_69 z_70 z_71
   have hb_1073 := Lib.hid hb
   clear hb
   replace ba_1 := kH ba_1 hb_1073
   obtain ⟨z_1074, z_1075, z_1076⟩ := at3 ba_1
   replace bb_2 := kH bb_2 hb_1073
   obtain ⟨z_1077, z_1078, z_1079⟩ := at3 bb_2
   replace bp_3 := kH bp_3 hb_1073
   obtain ⟨z_1080, z_1081, z_1082, z_1083⟩ := at4 bp_3
   replace bf_45 := kH bf_45 hb_1073
   obtain ⟨z_1084, z_1085⟩ := at2 bf_45
   go_wp2
   go_ret
   replace bel_4 := bH bel_4 hb_1073
   exact ⟨rfl, bel_4.out⟩
set_option maxRecDepth 100000 in
theorem ef_is (c : Int) (A B : Option Addr) (n k m j : Nat) (ws ts : List Bnd) (d : Int) (C D : Option Addr) (n2 k2 m2 j2 : Nat) (ws2 ts2 : List Bnd) (p1 p2 p3 p4 : Int) (w : World) (h1 : RdB w A n k ws) (h2 : RdB w B m j ts) (hn : n ≤ maxLen) (hm : m ≤ maxLen) (h3 : RdB w C n2 k2 ws2) (h4 : RdB w D m2 j2 ts2) (hn2 : n2 ≤ maxLen) (hm2 : m2 ≤ maxLen) (hs : (decide (n ≤ 40) && decide (m ≤ 40) && decide (n2 ≤ 40) && decide (m2 ≤ 40)) = true) (E1 : Hid (chkO ⟨c, ws, ts⟩ = 0)) (Z : List Int) (tn : Bool) (hz1 : 1 ≤ Z.length) (hz2 : Z.length ≤ 60) (hz3 : (0 : Int) < Z.length) (EV : Hid (ownFlawV ⟨c, ws, ts⟩ = ((Z, tn, true), 0))) (EN : Hid (fewO ⟨c, ws, ts⟩ = ((Z.length : Int), tn))) (EC : Hid (checkFlawV tn ⟨c, ws, ts⟩ Z = (true, 0))) (g1 g2 : Int) (M1 : Hid (meetsV ⟨c, ws, ts⟩ ⟨d, ws2, ts2⟩ ⟨p1, p2, p3, p4⟩ = (false, g1))) (M2 : Hid (meetsV ⟨d, ws2, ts2⟩ ⟨c, ws, ts⟩ ⟨p3, p4, p1, p2⟩ = (false, g2))) (hll : ((Z.length : Int) != Z.length) = false) (htt : (tn != tn) = false) : Calls Tryz.prog 7 #[.agg #[.int .i64 c, .slice A n k, .slice B m j], .agg #[.int .i64 d, .slice C n2 k2, .slice D m2 j2], .agg #[.int .i64 p1, .int .i64 p2, .int .i64 p3, .int .i64 p4]] w fun e w' => e = .returned (.bool true) ∧ Below w.heap.size w w' := by
 go_enter Tryz.func7, Tryz.ntmps7
 obtain ⟨ba_1, bb_2, bp_3, bel_4⟩ := ent3 w #[.int .i64 c, .slice A n k, .slice B m j] 24 #[.int .i64 d, .slice C n2 k2, .slice D m2 j2] 24 #[.int .i64 p1, .int .i64 p2, .int .i64 p3, .int .i64 p4] 28
 have ra_5 := rI h1 bel_4
 have rb_6 := rI h2 bel_4
 have rc_7 := rI h3 bel_4
 have rd_8 := rI h4 bel_4
 clear h1 h2 h3 h4
 obtain ⟨z_9, z_10, z_11⟩ := at3 ba_1
 obtain ⟨z_12, z_13, z_14⟩ := at3 bb_2
 obtain ⟨z_15, z_16, z_17, z_18⟩ := at4 bp_3
 clear z_9 z_10 z_11 z_12 z_13 z_14 z_15 z_16 z_17 z_18
 obtain ⟨o_, ho_⟩ : ∃ o, o = ((.cells #[.int .i64 c, .slice A n k, .slice B m j, .int .i64 d, .slice C n2 k2, .slice D m2 j2] 24) : Obj) := ⟨_, rfl⟩
 replace bel_4 := bA bel_4 o_
 replace ra_5 := rA ra_5 o_
 replace rb_6 := rA rb_6 o_
 replace rc_7 := rA rc_7 o_
 replace rd_8 := rA rd_8 o_
 replace ba_1 := kA ba_1 o_
 replace bb_2 := kA bb_2 o_
 replace bp_3 := kA bp_3 o_
 subst ho_
 have nb_ := Blk.new (((w.alloc (.cells #[.int .i64 c, .slice A n k, .slice B m j] 24)).alloc (.cells #[.int .i64 d, .slice C n2 k2, .slice D m2 j2] 24)).alloc (.cells #[.int .i64 p1, .int .i64 p2, .int .i64 p3, .int .i64 p4] 28)) 24 #[.int .i64 c, .slice A n k, .slice B m j, .int .i64 d, .slice C n2 k2, .slice D m2 j2]
 simp only [World.size_alloc] at nb_
 have bs_19 := Lib.hid nb_; clear nb_
 have hc := (show Calls Tryz.prog 30 #[.slice (some ⟨w.heap.size + 1 + 1 + 1, 0, none⟩) 2 2] (((((w.alloc (.cells #[.int .i64 c, .slice A n k, .slice B m j] 24)).alloc (.cells #[.int .i64 d, .slice C n2 k2, .slice D m2 j2] 24)).alloc (.cells #[.int .i64 p1, .int .i64 p2, .int .i64 p3, .int .i64 p4] 28)).alloc (.cells #[.int .i64 c, .slice A n k, .slice B m j, .int .i64 d, .slice C n2 k2, .slice D m2 j2] 24))) fun e w' => e = .returned (.bool true) ∧ Below (((((w.alloc (.cells #[.int .i64 c, .slice A n k, .slice B m j] 24)).alloc (.cells #[.int .i64 d, .slice C n2 k2, .slice D m2 j2] 24)).alloc (.cells #[.int .i64 p1, .int .i64 p2, .int .i64 p3, .int .i64 p4] 28)).alloc (.cells #[.int .i64 c, .slice A n k, .slice B m j, .int .i64 d, .slice C n2 k2, .slice D m2 j2] 24))).heap.size (((((w.alloc (.cells #[.int .i64 c, .slice A n k, .slice B m j] 24)).alloc (.cells #[.int .i64 d, .slice C n2 k2, .slice D m2 j2] 24)).alloc (.cells #[.int .i64 p1, .int .i64 p2, .int .i64 p3, .int .i64 p4] 28)).alloc (.cells #[.int .i64 c, .slice A n k, .slice B m j, .int .i64 d, .slice C n2 k2, .slice D m2 j2] 24))) w' from by have h := small3_any c A B n k m j d C D n2 k2 m2 j2 (w.heap.size + 1 + 1 + 1) (((((w.alloc (.cells #[.int .i64 c, .slice A n k, .slice B m j] 24)).alloc (.cells #[.int .i64 d, .slice C n2 k2, .slice D m2 j2] 24)).alloc (.cells #[.int .i64 p1, .int .i64 p2, .int .i64 p3, .int .i64 p4] 28)).alloc (.cells #[.int .i64 c, .slice A n k, .slice B m j, .int .i64 d, .slice C n2 k2, .slice D m2 j2] 24))) bs_19.out; rw [show (decide (n ≤ 40) && decide (m ≤ 40) && decide (n2 ≤ 40) && decide (m2 ≤ 40)) = true from hs] at h; exact h)
 have HC := Lib.hid hc; clear hc
 go_wp2_with fail
 refine HC.out.mono ?_
 rintro e w_20 ⟨rfl, hb⟩
 clear HC
 have hb_21 := Lib.hid hb
 clear hb
 replace ba_1 := kH ba_1 hb_21
 obtain ⟨z_22, z_23, z_24⟩ := at3 ba_1
 replace bb_2 := kH bb_2 hb_21
 obtain ⟨z_25, z_26, z_27⟩ := at3 bb_2
 replace bp_3 := kH bp_3 hb_21
 obtain ⟨z_28, z_29, z_30, z_31⟩ := at4 bp_3
 replace ra_5 := rH ra_5 hb_21
 replace rb_6 := rH rb_6 hb_21
 have hc := Flaw_any c A B n k m j ws ts _ ra_5.out rb_6.out hn hm
 rw [EV.out] at hc
 unfold RetFE at hc
 dsimp only at hc
 have hc := hc
 have HC := Lib.hid hc; clear hc
 go_wp2_with fail
 refine HC.out.mono ?_
 rintro e w_32 ⟨A9, n9, c9, rfl, hr9, hm9, hb⟩
 clear HC
 clear z_22 z_23 z_24 z_25 z_26 z_27 z_28 z_29 z_30 z_31
 have hb_33 := Lib.hid hb
 clear hb
 have z9_34 := Lib.hid (hr9)
 clear hr9
 obtain rfl : n9 = Z.length := z9_34.out.len.symm
 replace ba_1 := kH ba_1 hb_33
 obtain ⟨z_35, z_36, z_37⟩ := at3 ba_1
 replace bb_2 := kH bb_2 hb_33
 obtain ⟨z_38, z_39, z_40⟩ := at3 bb_2
 replace bp_3 := kH bp_3 hb_33
 obtain ⟨z_41, z_42, z_43, z_44⟩ := at4 bp_3
 obtain ⟨o_, ho_⟩ : ∃ o, o = ((.cells #[.bool tn, .slice A9 Z.length c9] 33) : Obj) := ⟨_, rfl⟩
 replace bel_4 := bA (bH (bH bel_4 hb_21) hb_33) o_
 replace ra_5 := rA (rH ra_5 hb_33) o_
 replace rb_6 := rA (rH rb_6 hb_33) o_
 replace rc_7 := rA (rH (rH rc_7 hb_21) hb_33) o_
 replace rd_8 := rA (rH (rH rd_8 hb_21) hb_33) o_
 replace ba_1 := kA ba_1 o_
 replace bb_2 := kA bb_2 o_
 replace bp_3 := kA bp_3 o_
 replace z9_34 := iA z9_34 o_
 subst ho_
 have bf_45 := Lib.hid (Blk.new w_32 33 #[.bool tn, .slice A9 Z.length c9])
 obtain ⟨z_46, z_47, z_48⟩ := at3 ba_1
 obtain ⟨z_49, z_50, z_51⟩ := at3 bb_2
 obtain ⟨z_52, z_53, z_54, z_55⟩ := at4 bp_3
 obtain ⟨z_56, z_57⟩ := at2 bf_45
 have hc := rCheckOutline_any c A B n k m j ws ts _ ra_5.out rb_6.out hn hm
 rw [E1.out] at hc
 try dsimp only at hc
 have HC := Lib.hid hc; clear hc
 go_wp2_with fail
 refine HC.out.mono ?_
 rintro e w_58 ⟨rfl, hb⟩
 clear HC
 clear z_35 z_36 z_37 z_38 z_39 z_40 z_41 z_42 z_43 z_44 z_46 z_47 z_48 z_49 z_50 z_51 z_52 z_53 z_54 z_55 z_56 z_57
 have hb_59 := Lib.hid hb
 clear hb
 replace ba_1 := kH ba_1 hb_59
 obtain ⟨z_60, z_61, z_62⟩ := at3 ba_1
 replace bb_2 := kH bb_2 hb_59
 obtain ⟨z_63, z_64, z_65⟩ := at3 bb_2
 replace bp_3 := kH bp_3 hb_59
 obtain ⟨z_66, z_67, z_68, z_69⟩ := at4 bp_3
 replace bf_45 := kH bf_45 hb_59
 obtain ⟨z_70, z_71⟩ := at2 bf_45
 replace ra_5 := rH ra_5 hb_59
 replace rb_6 := rH rb_6 hb_59
 have hc := rFewestOwn_any c A B n k m j ws ts _ ra_5.out rb_6.out hn hm E1.out
 rw [EN.out] at hc
 try dsimp only at hc
 have HC := Lib.hid hc; clear hc
 go_wp2_with fail
 refine HC.out.mono ?_
 rintro e w_72 ⟨rfl, hb⟩
 clear HC
 clear z_60 z_61 z_62 z_63 z_64 z_65 z_66 z_67 z_68 z_69 z_70 z_71
 have hb_73 := Lib.hid hb
 clear hb
 replace ba_1 := kH ba_1 hb_73
 obtain ⟨z_74, z_75, z_76⟩ := at3 ba_1
 replace bb_2 := kH bb_2 hb_73
 obtain ⟨z_77, z_78, z_79⟩ := at3 bb_2
 replace bp_3 := kH bp_3 hb_73
 obtain ⟨z_80, z_81, z_82, z_83⟩ := at4 bp_3
 replace bf_45 := kH bf_45 hb_73
 obtain ⟨z_84, z_85⟩ := at2 bf_45
 replace ra_5 := rH ra_5 hb_73
 replace rb_6 := rH rb_6 hb_73
 replace z9_34 := iH (iH z9_34 hb_59) hb_73
 have hc := rCheckFlaw_any tn c A B n k m j ws ts _ ra_5.out rb_6.out hn hm A9 Z.length c9 Z z9_34.out (by omega)
 rw [EC.out] at hc
 try dsimp only at hc
 have HC := Lib.hid hc; clear hc
 go_wp2_with fail
 refine HC.out.mono ?_
 rintro e w_86 ⟨rfl, hb⟩
 clear HC
 clear z_74 z_75 z_76 z_77 z_78 z_79 z_80 z_81 z_82 z_83 z_84 z_85
 have hb_87 := Lib.hid hb
 clear hb
 replace ba_1 := kH ba_1 hb_87
 obtain ⟨z_88, z_89, z_90⟩ := at3 ba_1
 replace bb_2 := kH bb_2 hb_87
 obtain ⟨z_91, z_92, z_93⟩ := at3 bb_2
 replace bp_3 := kH bp_3 hb_87
 obtain ⟨z_94, z_95, z_96, z_97⟩ := at4 bp_3
 replace bf_45 := kH bf_45 hb_87
 obtain ⟨z_98, z_99⟩ := at2 bf_45
 replace ra_5 := rH ra_5 hb_87
 replace rb_6 := rH rb_6 hb_87
 replace rc_7 := rH (rH (rH rc_7 hb_59) hb_73) hb_87
 replace rd_8 := rH (rH (rH rd_8 hb_59) hb_73) hb_87
 have hc := Meets_any c A B n k m j ws ts d C D n2 k2 m2 j2 ws2 ts2 p1 p2 p3 p4 _ ra_5.out rb_6.out hn hm rc_7.out rd_8.out hn2 hm2
 rw [M1.out] at hc
 try dsimp only at hc
 have HC := Lib.hid hc; clear hc
 go_wp2_with fail
 refine HC.out.mono ?_
 rintro e w_100 ⟨rfl, hb⟩
 clear HC
 clear z_88 z_89 z_90 z_91 z_92 z_93 z_94 z_95 z_96 z_97 z_98 z_99
 have hb_101 := Lib.hid hb
 clear hb
 replace ba_1 := kH ba_1 hb_101
 obtain ⟨z_102, z_103, z_104⟩ := at3 ba_1
 replace bb_2 := kH bb_2 hb_101
 obtain ⟨z_105, z_106, z_107⟩ := at3 bb_2
 replace bp_3 := kH bp_3 hb_101
 obtain ⟨z_108, z_109, z_110, z_111⟩ := at4 bp_3
 replace bf_45 := kH bf_45 hb_101
 obtain ⟨z_112, z_113⟩ := at2 bf_45
 replace rc_7 := rH rc_7 hb_101
 replace rd_8 := rH rd_8 hb_101
 replace ra_5 := rH ra_5 hb_101
 replace rb_6 := rH rb_6 hb_101
 have hc := Meets_any d C D n2 k2 m2 j2 ws2 ts2 c A B n k m j ws ts p3 p4 p1 p2 _ rc_7.out rd_8.out hn2 hm2 ra_5.out rb_6.out hn hm
 rw [M2.out] at hc
 try dsimp only at hc
 have HC := Lib.hid hc; clear hc
 go_wp2_with fail
 refine HC.out.mono ?_
 rintro e w_114 ⟨rfl, hb⟩
 clear HC
 clear z_102 z_103 z_104 z_105 z_106 z_107 z_108 z_109 z_110 z_111 z_112 z_113
 have hb_115 := Lib.hid hb
 clear hb
 replace ba_1 := kH ba_1 hb_115
 obtain ⟨z_116, z_117, z_118⟩ := at3 ba_1
 replace bb_2 := kH bb_2 hb_115
 obtain ⟨z_119, z_120, z_121⟩ := at3 bb_2
 replace bp_3 := kH bp_3 hb_115
 obtain ⟨z_122, z_123, z_124, z_125⟩ := at4 bp_3
 replace bf_45 := kH bf_45 hb_115
 obtain ⟨z_126, z_127⟩ := at2 bf_45
 have hc := joined_any (w_114)
 have HC := Lib.hid hc; clear hc
 go_wp2_with fail
 refine HC.out.mono ?_
 rintro e w_128 ⟨rfl, hb⟩
 clear HC
 clear z_116 z_117 z_118 z_119 z_120 z_121 z_122 z_123 z_124 z_125 z_126 z_127
 have hb_129 := Lib.hid hb
 clear hb
 replace ba_1 := kH ba_1 hb_129
 obtain ⟨z_130, z_131, z_132⟩ := at3 ba_1
 replace bb_2 := kH bb_2 hb_129
 obtain ⟨z_133, z_134, z_135⟩ := at3 bb_2
 replace bp_3 := kH bp_3 hb_129
 obtain ⟨z_136, z_137, z_138, z_139⟩ := at4 bp_3
 replace bf_45 := kH bf_45 hb_129
 obtain ⟨z_140, z_141⟩ := at2 bf_45
 go_wp2
 go_ret
 replace bel_4 := bH (bH (bH (bH (bH (bH bel_4 hb_59) hb_73) hb_87) hb_101) hb_115) hb_129
 exact ⟨rfl, bel_4.out⟩
set_option maxRecDepth 100000 in
theorem ef_walk (w : World) (c : Int) (A : Option Addr) (n k : Nat) (B : Option Addr) (m j : Nat) (ws ts : List Bnd) (_ : (Lit.int .i64 c).wf = true) (h1 : RdB w A n k ws) (h2 : RdB w B m j ts) (hn : n ≤ maxLen) (hm : m ≤ maxLen) (d : Int) (C : Option Addr) (n2 k2 : Nat) (D : Option Addr) (m2 j2 : Nat) (ws2 ts2 : List Bnd) (_ : (Lit.int .i64 d).wf = true) (h3 : RdB w C n2 k2 ws2) (h4 : RdB w D m2 j2 ts2) (hn2 : n2 ≤ maxLen) (hm2 : m2 ≤ maxLen) (p1 p2 p3 p4 : Int) : Calls Tryz.prog 7 #[.agg #[.int .i64 c, .slice A n k, .slice B m j], .agg #[.int .i64 d, .slice C n2 k2, .slice D m2 j2], .agg #[.int .i64 p1, .int .i64 p2, .int .i64 p3, .int .i64 p4]] w fun e w' => e = .returned (.bool true) ∧ Below w.heap.size w w' := by
 cases hs : (decide (n ≤ 40) && decide (m ≤ 40) && decide (n2 ≤ 40) && decide (m2 ≤ 40))
 · exact ef_w c A B n k m j ws ts d C D n2 k2 m2 j2 ws2 ts2 p1 p2 p3 p4 w h1 h2 hn hm h3 h4 hn2 hm2 hs
 · by_cases h0 : chkO ⟨c, ws, ts⟩ = 0
   · rcases flaw_cases h0 with ⟨ev, en⟩ | ⟨Z, tn, ev, en, z1, z2, ec, sl⟩
     · exact ef_no c A B n k m j ws ts d C D n2 k2 m2 j2 ws2 ts2 p1 p2 p3 p4 w h1 h2 hn hm h3 h4 hn2 hm2 hs 0 (Lib.hid h0) (Lib.hid ev) (Lib.hid fun _ => en)
     · exact ef_is c A B n k m j ws ts d C D n2 k2 m2 j2 ws2 ts2 p1 p2 p3 p4 w h1 h2 hn hm h3 h4 hn2 hm2 hs (Lib.hid h0) Z tn z1 z2 (by omega) (Lib.hid ev) (Lib.hid en) (Lib.hid ec) _ _ (Lib.hid (flaw_meets (b := ⟨d, ws2, ts2⟩) sl ⟨p1, p2, p3, p4⟩).1) (Lib.hid (flaw_meets (b := ⟨d, ws2, ts2⟩) sl ⟨p3, p4, p1, p2⟩).2) (by simp) (by simp)
   · exact ef_no c A B n k m j ws ts d C D n2 k2 m2 j2 ws2 ts2 p1 p2 p3 p4 w h1 h2 hn hm h3 h4 hn2 hm2 hs _ (Lib.hid rfl) (Lib.hid (by unfold ownFlawV; rw [if_neg h0])) (Lib.hid fun h => absurd h h0)
set_option maxRecDepth 100000 in
theorem edgeFlaws_lifted (os : Os) (started : os.Started) (H : Type) (enc : TypeId × Value → H) :
 ReturnsInHanded {} Tryz.checked os 7 .any (Rows.edgeFlawsSpec.pre6 enc Tryz.prog Tryz.f7 Rows.edgeFlawsRow.domain false) (Rows.edgeFlawsSpec.post enc Tryz.prog Tryz.f7 false true false false) := by
 refine returnsInHanded_of_change (C := Tryz.checked) Law.own started (by kernel_rfl) Tryz.func7
  (ChangeSpec.witness6 (enc := enc) (C := Tryz.checked) false ⟨#[], #[.agg #[.int .i64 0, .slice none 0 0, .slice none 0 0], .agg #[.int .i64 0, .slice none 0 0, .slice none 0 0], .agg #[.int .i64 0, .int .i64 0, .int .i64 0, .int .i64 0]], []⟩ 8 (by kernel_rfl) (by kernel_rfl) (by kernel_rfl) (by kernel_rfl)) ?_
 intro W base args ds gs before hval0 hW hcnd _
 have hval : ∀ (j : Nat) t v, Tryz.f7.params[j]? = some t → args[j]? = some v → Value.okWide Tryz.prog W .any base t v := hval0
 have hW' := hW
 obtain ⟨p, q, hA0, hV, rfl, hfz, hnd⟩ := hW
 have hA : DataW.TrodAll enc Tryz.prog W 0 (fun _ => true) true Tryz.f7.params.toList args.toList ds p := hA0
 rw [Tryz.params7] at hA hval
 obtain ⟨v0, vs0, d0, ds0, p0, q0, hargs, rfl, rfl, h0, r0⟩ := trodAll_cons hA
 obtain ⟨v1, vs1, d1, ds1, p1, q1, rfl, rfl, rfl, h1, r1⟩ := trodAll_cons r0
 obtain ⟨v2, vs2, d2, ds2, p2, q2, rfl, rfl, rfl, h2, r2⟩ := trodAll_cons r1
 obtain ⟨rfl, rfl, rfl⟩ := trodAll_nil r2
 obtain rfl : args = #[v0, v1, v2] := by cases args; simp_all
 obtain ⟨rfl, rfl⟩ := trodVars_none hV
 have k0 := h0
 have lt0 : ∀ x ∈ p0, x.block < W.heap.size := by obtain ⟨m, hm⟩ := k0; exact DataW.trod_lt m _ _ _ hm
 obtain ⟨c0, A0, n0, k0', B0, m0, j0, ws0, ts0, rfl, w0, ra0, rb0, xa0, xb0⟩ := open_outl (hval 0 24 v0 rfl rfl) h0
 have k1 := h1
 have lt1 : ∀ x ∈ p1, x.block < W.heap.size := by obtain ⟨m, hm⟩ := k1; exact DataW.trod_lt m _ _ _ hm
 obtain ⟨c1, A1, n1, k1', B1, m1, j1, ws1, ts1, rfl, w1, ra1, rb1, xa1, xb1⟩ := open_outl (hval 1 24 v1 rfl rfl) h1
 have k2 := h2
 have lt2 : ∀ x ∈ p2, x.block < W.heap.size := by obtain ⟨m, hm⟩ := k2; exact DataW.trod_lt m _ _ _ hm
 obtain ⟨f2, t2, m2, i2, rfl⟩ := open_pair (hval 2 28 v2 rfl rfl) h2
 clear hA0 hval0
 refine (ef_walk W c0 A0 n0 k0' B0 m0 j0 ws0 ts0 w0 ra0 rb0 xa0 xb0 c1 A1 n1 k1' B1 m1 j1 ws1 ts1 w1 ra1 rb1 xa1 xb1 f2 t2 m2 i2).mono fun e W' ⟨he, bel⟩ => ?_
 subst he
 exact ⟨_, rfl, _, _, _, [], _, [], hW', trodAll_mk1 (shut_bool Tryz.underlying4 _), (trodAll_cons_mk (Below.trod Law.laidOut (by kernel_rfl) (of_decide_eq_true (by kernel_rfl)) k0 bel lt0) (trodAll_cons_mk (Below.trod Law.laidOut (by kernel_rfl) (of_decide_eq_true (by kernel_rfl)) k1 bel lt1) (trodAll_cons_mk (Below.trod Law.laidOut (by kernel_rfl) (of_decide_eq_true (by kernel_rfl)) k2 bel lt2) trodAll_mk0))), rfl, bel.frame _, fun h => by cases h⟩
theorem edgeFlaws_over : Rows.edgeFlawsRow.holds Tryz.pinned (OpenSpec.ofChange Rows.edgeFlawsSpec) :=
 OpenClaim.holds_of_wide 7 Tryz.f7 rfl rfl rfl rfl rfl rfl rfl ⟨rfl, rfl, rfl, rfl, rfl⟩ rfl rfl rfl rfl rfl (by kernel_rfl) Tryz.func7 (by kernel_rfl)
  (of_decide_eq_true (by kernel_rfl)) (by unfold Func.isWrapper; first | (rw [if_pos (by decide +kernel)]; kernel_rfl) | (rw [if_neg (by decide +kernel)]; exact ⟨rfl, rfl⟩))
  (fun os started H enc _ => edgeFlaws_lifted os started H enc)
theorem edgeFlaws_proved : Rows.EdgeFlawsSaid := edgeFlaws_over
end Go.Proofs.YtaoanagmgheicaaGreat
