import Derived.Test.YtaoanagmgheicaaGreatQCircle
import Derived.Test.YtaoanagmgheicaaGreatQESols
set_option maxHeartbeats 4000000
set_option linter.unusedSimpArgs false
set_option linter.unusedVariables false
namespace Go.Proofs.YtaoanagmgheicaaGreat
open Go.RowKit
def circleV (p : Int) (l : List Bnd) : List Int × Bool × Int :=
 if gcode p l [] = 0 then (circleL l p.toNat, (circleO l p.toNat).isSome, 0) else ([], false, gcode p l [])
theorem Circle_any (p : Int) (A : Option Addr) (n c : Nat) (l : List Bnd) (w : World) (hr : RdB w A n c l) (hn : n ≤ maxLen) :
 Calls Tryz.prog 124 #[.agg #[.int .i64 p, .slice A n c]] w (RetI (circleV p l) w) := by
 have hB : Below w.heap.size w (w.alloc (.cells #[.int .i64 p, .slice A n c] 46)) := (Below.refl _ w).alloc (Nat.le_refl _) _
 have hc := graphOf_any p A none n c 0 0 l [] _ (hr.below hB) hn (RdI.nil_ _) (by omega)
 have HC := Lib.hid hc; have HR := Lib.hid hr; clear hc hr
 unfold circleV
 by_cases hg : gcode p l [] = 0
 · obtain ⟨hk, -⟩ := gcode_ok hg
   obtain ⟨hp1, hp2, hlen, -⟩ := chk_ok hk
   have hok := okB_of hk
   rw [if_pos hg]
   rw [hg, sysR_yes] at HC
   clear hg hk
   obtain ⟨p, rfl⟩ := Int.eq_ofNat_of_zero_le (show 0 ≤ p by omega)
   rw [Int.toNat_natCast]
   have hn2 : n ≤ 402 := by have := HR.out.len; omega
   have hci := fun w' hw' => circle_any p A n c l (by omega) hn2 hok w' (HR.out.below hw')
   unfold RetB at hci
   generalize circleL l p = V at *
   generalize (circleO l p).isSome = ok at *
   have HCI := Lib.hid hci; clear hci hok
   go_enter Tryz.func124, Tryz.ntmps124
   go_wp2_with fail
   refine HC.out.mono ?_
   rintro e w1 ⟨rfl, hb1⟩
   have hB1 := hB.trans (hb1.mono hB.size)
   go_wp2_with fail
   refine (HCI.out _ (hB1.alloc hB1.size _)).mono ?_
   rintro e w2 ⟨A2, n2, c2, rfl, ho, hb2⟩
   have HO := Lib.hid ho; clear ho
   have hB2 := (hB1.alloc hB1.size (.cells #[.int .i64 (p : Int), .slice A n c] 136)).trans (hb2.mono (hB1.alloc hB1.size _).size)
   go_wp2
   go_ret3
   exact ⟨A2, n2, c2, rfl, owns_base HO.out (hB1.alloc hB1.size _).size, hB2⟩
 · rw [if_neg hg]
   generalize gcode p l [] = q at *
   rw [sysR_no hg] at HC
   have hne : (q != 0) = true := by simpa using hg
   clear hg
   go_enter Tryz.func124, Tryz.ntmps124
   go_wp2_with fail
   refine HC.out.mono ?_
   rintro e w1 ⟨rfl, hb1⟩
   have hB1 := hB.trans (hb1.mono hB.size)
   go_wp2
   go_ret3
   exact ⟨none, 0, 0, rfl, OwnI.nil_ _ _, (by have hsz_ := Below.size hB1; repeat' (first | with_reducible exact hB1 | with_reducible exact Below.refl _ _ | with_reducible refine Below.alloc ?_ ?_ _ | with_reducible refine Below.setCell ?_ ?_ _ | with_reducible refine Below.drew ?_ | with_reducible refine below_setRow ?_ ?_ _ | omega | (simp; done) | (simp; omega)))⟩
end Go.Proofs.YtaoanagmgheicaaGreat
set_option linter.unusedSimpArgs false
set_option linter.unusedVariables false
namespace Go.Proofs.YtaoanagmgheicaaGreat
open Go.RowKit
set_option maxRecDepth 100000 in
theorem meets_q (c : Int) (A B : Option Addr) (n k m j : Nat) (ws ts : List Bnd) (d : Int) (C D : Option Addr) (n2 k2 m2 j2 : Nat) (ws2 ts2 : List Bnd) (p1 p2 p3 p4 : Int) (w : World) (h1 : RdB w A n k ws) (h2 : RdB w B m j ts) (hn : n ≤ maxLen) (hm : m ≤ maxLen) (h3 : RdB w C n2 k2 ws2) (h4 : RdB w D m2 j2 ts2) (hn2 : n2 ≤ maxLen) (hm2 : m2 ≤ maxLen) (hq : asked ⟨c, ws, ts⟩ ⟨d, ws2, ts2⟩ ⟨p1, p2, p3, p4⟩ = 0) :
 Calls Tryz.prog 77 #[.agg #[.int .i64 c, .slice A n k, .slice B m j, .int .i64 d, .slice C n2 k2, .slice D m2 j2, .int .i64 p1, .int .i64 p2, .int .i64 p3, .int .i64 p4]] w fun e w' => e = .returned (.bool (meetsB ⟨c, ws, ts⟩ ⟨d, ws2, ts2⟩ ⟨p1, p2, p3, p4⟩)) ∧ Below w.heap.size w w' := by
  go_enter Tryz.func77, Tryz.ntmps77
  obtain ⟨bx_1, bel_2⟩ := ent1 w #[.int .i64 c, .slice A n k, .slice B m j, .int .i64 d, .slice C n2 k2, .slice D m2 j2, .int .i64 p1, .int .i64 p2, .int .i64 p3, .int .i64 p4] 101
  have ra_3 := rI h1 bel_2
  have rb_4 := rI h2 bel_2
  have rc_5 := rI h3 bel_2
  have rd_6 := rI h4 bel_2
  clear h1 h2 h3 h4
  obtain ⟨z_7, z_8, z_9, z_10, z_11, z_12, z_13, z_14, z_15, z_16⟩ := at10 bx_1
  have hc := solutions_any c A B n k m j ws ts d C D n2 k2 m2 j2 ws2 ts2 p1 p2 p3 p4 _ ra_3.out rb_4.out hn hm rc_5.out rd_6.out hn2 hm2 hq _ _ rfl rfl
  unfold RetM at hc
  have hc := hc
  have HC := Lib.hid hc; clear hc
  go_wp2_with fail
  refine HC.out.mono ?_
  rintro e w_17 ⟨A1, n1, c1, A2, n3, c2, rfl, -, hb⟩
  clear HC
  clear z_7 z_8 z_9 z_10 z_11 z_12 z_13 z_14 z_15 z_16
  have hb_18 := Lib.hid hb
  clear hb
  go_wp2
  go_ret
  replace bel_2 := bH bel_2 hb_18
  exact ⟨rfl, (by have hsz_ := Below.size bel_2.out; repeat' (first | with_reducible exact bel_2.out | with_reducible exact Below.refl _ _ | with_reducible refine Below.alloc ?_ ?_ _ | with_reducible refine Below.setCell ?_ ?_ _ | with_reducible refine Below.drew ?_ | with_reducible refine below_setRow ?_ ?_ _ | omega | (simp; done) | (simp; omega)))⟩
def jP (u : Bool) (a b : Otl) (p : Prg) : Int := if u then turnP a b p else wayP a b p
def jL (u : Bool) (a b : Otl) (p : Prg) : List Bnd := if u then turnL a b p else wayL a b p
theorem rdB_set2 {w : World} {A : Option Addr} {n c : Nat} {l : List Bnd} (h : RdB w A n c l) (a b : Addr) (u v : Value) {t : TypeId} {x : Int} {S : Option Addr} {sn sc : Nat} (hb : Blk w a.block t #[.int .i64 x, .slice S sn sc]) (hab : b.block = a.block) : RdB ((w.setCell a u).setCell b v) A n c l := by
 refine ⟨h.len, h.cap, h.nil, ?_⟩
 rcases h.cells with h0 | ⟨k, o, e, hlt, hj⟩
 · exact .inl h0
 · refine .inr ⟨k, o, e, by rw [show ((w.setCell a u).setCell b v).heap.size = w.heap.size by simp]; exact hlt, fun j q hq => ?_⟩
   have h1 := hj j q hq
   by_cases hbb : k = a.block
   · exfalso
     subst hbb
     cases l with
     | nil => simp [bcells] at hq
     | cons y l =>
      have h2 := hj 1 (.int .i64 y.t) (by simp [bcells, Bnd.cells])
      rw [hb.cell] at h2
      cases o with
      | zero => simp at h2
      | succ o => simp at h2
   · rw [World.cell?_of_block (a := ⟨k, o + j, none⟩) ((heap_setCell_other (w.setCell a u) b k v (by rw [hab]; exact hbb)).trans (heap_setCell_other w a k u hbb))]
     exact h1
set_option maxRecDepth 100000 in
theorem joint_q (u : Bool) (c : Int) (A B : Option Addr) (n k m j : Nat) (ws ts : List Bnd) (d : Int) (C D : Option Addr) (n2 k2 m2 j2 : Nat) (ws2 ts2 : List Bnd) (p1 p2 p3 p4 : Int) (w : World) (h1 : RdB w A n k ws) (h2 : RdB w B m j ts) (hn : n ≤ maxLen) (hm : m ≤ maxLen) (h3 : RdB w C n2 k2 ws2) (h4 : RdB w D m2 j2 ts2) (hn2 : n2 ≤ maxLen) (hm2 : m2 ≤ maxLen) (hq : chkP ⟨c, ws, ts⟩ ⟨d, ws2, ts2⟩ ⟨p1, p2, p3, p4⟩ = 0) :
 Calls Tryz.prog 74 #[.agg #[.int .i64 c, .slice A n k, .slice B m j, .int .i64 d, .slice C n2 k2, .slice D m2 j2, .int .i64 p1, .int .i64 p2, .int .i64 p3, .int .i64 p4], .bool u] w fun e w' => ∃ Ar nr kr, e = .returned (.agg #[.int .i64 (jP u ⟨c, ws, ts⟩ ⟨d, ws2, ts2⟩ ⟨p1, p2, p3, p4⟩), .slice Ar nr kr]) ∧ RdB w' Ar nr kr (jL u ⟨c, ws, ts⟩ ⟨d, ws2, ts2⟩ ⟨p1, p2, p3, p4⟩) ∧ Below w.heap.size w w' := by
 cases u
 · unfold jP jL
   simp only [Bool.false_eq_true, if_false]
   go_enter Tryz.func74, Tryz.ntmps74
   obtain ⟨bx_1, bz_2, bel_3⟩ := ent2 w #[.int .i64 c, .slice A n k, .slice B m j, .int .i64 d, .slice C n2 k2, .slice D m2 j2, .int .i64 p1, .int .i64 p2, .int .i64 p3, .int .i64 p4] 101 #[.int .i64 0, .slice none 0 0] 46
   have ra_4 := rI h1 bel_3
   have rb_5 := rI h2 bel_3
   have rc_6 := rI h3 bel_3
   have rd_7 := rI h4 bel_3
   clear h1 h2 h3 h4
   obtain ⟨z_8, z_9, z_10, z_11, z_12, z_13, z_14, z_15, z_16, z_17⟩ := at10 bx_1
   obtain ⟨z_18, z_19⟩ := at2 bz_2
   have hc := ways_q c A B n k m j ws ts d C D n2 k2 m2 j2 ws2 ts2 p1 p2 p3 p4 _ ra_4.out rb_5.out hn hm rc_6.out rd_7.out hn2 hm2 hq
   have HC := Lib.hid hc; clear hc
   go_wp2_with fail
   refine HC.out.mono ?_
   rintro e w_20 ⟨Ar, nr, kr, rfl, hrd, hb⟩
   clear HC
   clear z_8 z_9 z_10 z_11 z_12 z_13 z_14 z_15 z_16 z_17 z_18 z_19
   have hb_21 := Lib.hid hb
   clear hb
   have rl_22 := Lib.hid (hrd)
   clear hrd
   replace bx_1 := kH bx_1 hb_21
   obtain ⟨z_23, z_24, z_25, z_26, z_27, z_28, z_29, z_30, z_31, z_32⟩ := at10 bx_1
   replace bz_2 := kH bz_2 hb_21
   obtain ⟨z_33, z_34⟩ := at2 bz_2
   have fz_35 : (w_20).frozen? ⟨w.heap.size + 1, 0, none⟩ = false := Blk.frozen bz_2.out 0
   have fz_36 : (w_20).frozen? ⟨w.heap.size + 1, 1, none⟩ = false := Blk.frozen bz_2.out 1
   replace bel_3 := bH bel_3 hb_21
   have hlb_ := Blk.lt bz_2.out; have bz_ := bz_2.out; have bel_ := bel_3.out; have rl_ := rl_22.out
   have HK := Lib.hid (And.intro bz_ (And.intro bel_ rl_)); clear bz_ bel_ rl_
   go_wp2
   obtain ⟨bz_, bel_, rl_⟩ := HK.out
   refine bodyPost_ret (v := .agg #[.int .i64 (wayP ⟨c, ws, ts⟩ ⟨d, ws2, ts2⟩ ⟨p1, p2, p3, p4⟩), .slice Ar nr kr]) (by simp [results, Tryz.results74, go_sem, z_23, z_24, z_25, z_26, z_27, z_28, z_29, z_30, z_31, z_32, z_33, z_34, fz_35, fz_36]) rfl ?_
   exact ⟨Ar, nr, kr, rfl, rdB_set2 rl_ ⟨w.heap.size + 1, 0, none⟩ ⟨w.heap.size + 1, 1, none⟩ (.int .i64 (wayP ⟨c, ws, ts⟩ ⟨d, ws2, ts2⟩ ⟨p1, p2, p3, p4⟩)) (.slice Ar nr kr) bz_ rfl, (by have hsz_ := Below.size bel_; repeat' (first | with_reducible exact bel_ | with_reducible exact Below.refl _ _ | with_reducible refine Below.alloc ?_ ?_ _ | with_reducible refine Below.setCell ?_ ?_ _ | with_reducible refine Below.drew ?_ | with_reducible refine below_setRow ?_ ?_ _ | omega | (simp; done) | (simp; omega)))⟩
 · unfold jP jL
   simp only [if_true]
   go_enter Tryz.func74, Tryz.ntmps74
   obtain ⟨bx_1, bz_2, bel_3⟩ := ent2 w #[.int .i64 c, .slice A n k, .slice B m j, .int .i64 d, .slice C n2 k2, .slice D m2 j2, .int .i64 p1, .int .i64 p2, .int .i64 p3, .int .i64 p4] 101 #[.int .i64 0, .slice none 0 0] 46
   have ra_4 := rI h1 bel_3
   have rb_5 := rI h2 bel_3
   have rc_6 := rI h3 bel_3
   have rd_7 := rI h4 bel_3
   clear h1 h2 h3 h4
   obtain ⟨z_8, z_9, z_10, z_11, z_12, z_13, z_14, z_15, z_16, z_17⟩ := at10 bx_1
   obtain ⟨z_18, z_19⟩ := at2 bz_2
   have hc := turns_q c A B n k m j ws ts d C D n2 k2 m2 j2 ws2 ts2 p1 p2 p3 p4 _ ra_4.out rb_5.out hn hm rc_6.out rd_7.out hn2 hm2 hq
   have HC := Lib.hid hc; clear hc
   go_wp2_with fail
   refine HC.out.mono ?_
   rintro e w_20 ⟨Ar, nr, kr, rfl, hrd, hb⟩
   clear HC
   clear z_8 z_9 z_10 z_11 z_12 z_13 z_14 z_15 z_16 z_17 z_18 z_19
   have hb_21 := Lib.hid hb
   clear hb
   have rl_22 := Lib.hid (hrd)
   clear hrd
   replace bx_1 := kH bx_1 hb_21
   obtain ⟨z_23, z_24, z_25, z_26, z_27, z_28, z_29, z_30, z_31, z_32⟩ := at10 bx_1
   replace bz_2 := kH bz_2 hb_21
   obtain ⟨z_33, z_34⟩ := at2 bz_2
   have fz_35 : (w_20).frozen? ⟨w.heap.size + 1, 0, none⟩ = false := Blk.frozen bz_2.out 0
   have fz_36 : (w_20).frozen? ⟨w.heap.size + 1, 1, none⟩ = false := Blk.frozen bz_2.out 1
   replace bel_3 := bH bel_3 hb_21
   have hlb_ := Blk.lt bz_2.out; have bz_ := bz_2.out; have bel_ := bel_3.out; have rl_ := rl_22.out
   have HK := Lib.hid (And.intro bz_ (And.intro bel_ rl_)); clear bz_ bel_ rl_
   go_wp2
   obtain ⟨bz_, bel_, rl_⟩ := HK.out
   refine bodyPost_ret (v := .agg #[.int .i64 (turnP ⟨c, ws, ts⟩ ⟨d, ws2, ts2⟩ ⟨p1, p2, p3, p4⟩), .slice Ar nr kr]) (by simp [results, Tryz.results74, go_sem, z_23, z_24, z_25, z_26, z_27, z_28, z_29, z_30, z_31, z_32, z_33, z_34, fz_35, fz_36]) rfl ?_
   exact ⟨Ar, nr, kr, rfl, rdB_set2 rl_ ⟨w.heap.size + 1, 0, none⟩ ⟨w.heap.size + 1, 1, none⟩ (.int .i64 (turnP ⟨c, ws, ts⟩ ⟨d, ws2, ts2⟩ ⟨p1, p2, p3, p4⟩)) (.slice Ar nr kr) bz_ rfl, (by have hsz_ := Below.size bel_; repeat' (first | with_reducible exact bel_ | with_reducible exact Below.refl _ _ | with_reducible refine Below.alloc ?_ ?_ _ | with_reducible refine Below.setCell ?_ ?_ _ | with_reducible refine Below.drew ?_ | with_reducible refine below_setRow ?_ ?_ _ | omega | (simp; done) | (simp; omega)))⟩
def meetsV (a b : Otl) (p : Prg) : Bool × Int := if asked a b p = 0 then (meetsB a b p, 0) else (false, asked a b p)
set_option maxRecDepth 100000 in
theorem Meets_any (c : Int) (A B : Option Addr) (n k m j : Nat) (ws ts : List Bnd) (d : Int) (C D : Option Addr) (n2 k2 m2 j2 : Nat) (ws2 ts2 : List Bnd) (p1 p2 p3 p4 : Int) (w : World) (h1 : RdB w A n k ws) (h2 : RdB w B m j ts) (hn : n ≤ maxLen) (hm : m ≤ maxLen) (h3 : RdB w C n2 k2 ws2) (h4 : RdB w D m2 j2 ts2) (hn2 : n2 ≤ maxLen) (hm2 : m2 ≤ maxLen) : Calls Tryz.prog 31 #[.agg #[.int .i64 c, .slice A n k, .slice B m j], .agg #[.int .i64 d, .slice C n2 k2, .slice D m2 j2], .agg #[.int .i64 p1, .int .i64 p2, .int .i64 p3, .int .i64 p4]] w fun e w' => e = .returned (.tuple #[.bool (meetsV ⟨c, ws, ts⟩ ⟨d, ws2, ts2⟩ ⟨p1, p2, p3, p4⟩).1, .int .i64 (meetsV ⟨c, ws, ts⟩ ⟨d, ws2, ts2⟩ ⟨p1, p2, p3, p4⟩).2]) ∧ Below w.heap.size w w' := by
 unfold meetsV
 by_cases hq : asked ⟨c, ws, ts⟩ ⟨d, ws2, ts2⟩ ⟨p1, p2, p3, p4⟩ = 0
 · rw [if_pos hq]
   go_enter Tryz.func31, Tryz.ntmps31
   obtain ⟨ba_1, bb_2, bp_3, bel_4⟩ := ent3 w #[.int .i64 c, .slice A n k, .slice B m j] 24 #[.int .i64 d, .slice C n2 k2, .slice D m2 j2] 24 #[.int .i64 p1, .int .i64 p2, .int .i64 p3, .int .i64 p4] 28
   have ra_5 := rI h1 bel_4
   have rb_6 := rI h2 bel_4
   have rc_7 := rI h3 bel_4
   have rd_8 := rI h4 bel_4
   clear h1 h2 h3 h4
   obtain ⟨z_9, z_10, z_11⟩ := at3 ba_1
   obtain ⟨z_12, z_13, z_14⟩ := at3 bb_2
   obtain ⟨z_15, z_16, z_17, z_18⟩ := at4 bp_3
   have hc := pairOf_yes c A B n k m j ws ts d C D n2 k2 m2 j2 ws2 ts2 p1 p2 p3 p4 _ ra_5.out rb_6.out hn hm rc_7.out rd_8.out hn2 hm2 hq
   have HC := Lib.hid hc; clear hc
   go_wp2_with fail
   refine HC.out.mono ?_
   rintro e w_19 ⟨rfl, hb⟩
   clear HC
   clear z_9 z_10 z_11 z_12 z_13 z_14 z_15 z_16 z_17 z_18
   have hb_20 := Lib.hid hb
   clear hb
   replace ba_1 := kH ba_1 hb_20
   obtain ⟨z_21, z_22, z_23⟩ := at3 ba_1
   replace bb_2 := kH bb_2 hb_20
   obtain ⟨z_24, z_25, z_26⟩ := at3 bb_2
   replace bp_3 := kH bp_3 hb_20
   obtain ⟨z_27, z_28, z_29, z_30⟩ := at4 bp_3
   clear z_21 z_22 z_23 z_24 z_25 z_26 z_27 z_28 z_29 z_30
   obtain ⟨o_, ho_⟩ : ∃ o, o = ((.cells #[.int .i64 c, .slice A n k, .slice B m j, .int .i64 d, .slice C n2 k2, .slice D m2 j2, .int .i64 p1, .int .i64 p2, .int .i64 p3, .int .i64 p4] 101) : Obj) := ⟨_, rfl⟩
   replace bel_4 := bA (bH bel_4 hb_20) o_
   replace ra_5 := rA (rH ra_5 hb_20) o_
   replace rb_6 := rA (rH rb_6 hb_20) o_
   replace rc_7 := rA (rH rc_7 hb_20) o_
   replace rd_8 := rA (rH rd_8 hb_20) o_
   replace ba_1 := kA ba_1 o_
   replace bb_2 := kA bb_2 o_
   replace bp_3 := kA bp_3 o_
   subst ho_
   have bq_31 := Lib.hid (Blk.new w_19 101 #[.int .i64 c, .slice A n k, .slice B m j, .int .i64 d, .slice C n2 k2, .slice D m2 j2, .int .i64 p1, .int .i64 p2, .int .i64 p3, .int .i64 p4])
   obtain ⟨z_32, z_33, z_34⟩ := at3 ba_1
   obtain ⟨z_35, z_36, z_37⟩ := at3 bb_2
   obtain ⟨z_38, z_39, z_40, z_41⟩ := at4 bp_3
   obtain ⟨z_42, z_43, z_44, z_45, z_46, z_47, z_48, z_49, z_50, z_51⟩ := at10 bq_31
   have hc := meets_q c A B n k m j ws ts d C D n2 k2 m2 j2 ws2 ts2 p1 p2 p3 p4 _ ra_5.out rb_6.out hn hm rc_7.out rd_8.out hn2 hm2 hq
   have HC := Lib.hid hc; clear hc
   go_wp2_with fail
   refine HC.out.mono ?_
   rintro e w_52 ⟨rfl, hb⟩
   clear HC
   clear z_32 z_33 z_34 z_35 z_36 z_37 z_38 z_39 z_40 z_41 z_42 z_43 z_44 z_45 z_46 z_47 z_48 z_49 z_50 z_51
   have hb_53 := Lib.hid hb
   clear hb
   go_wp2
   go_ret2
   replace bel_4 := bH bel_4 hb_53
   exact ⟨rfl, bel_4.out⟩
 · rw [if_neg hq]
   obtain ⟨q, hq2⟩ : ∃ q, asked ⟨c, ws, ts⟩ ⟨d, ws2, ts2⟩ ⟨p1, p2, p3, p4⟩ = q := ⟨_, rfl⟩
   rw [hq2] at hq
   rw [hq2]
   have hne := hq
   have hqe : (q == 0) = false := by simpa using hq
   clear hq
   have hq := hq2; clear hq2
   go_enter Tryz.func31, Tryz.ntmps31
   obtain ⟨ba_1, bb_2, bp_3, bel_4⟩ := ent3 w #[.int .i64 c, .slice A n k, .slice B m j] 24 #[.int .i64 d, .slice C n2 k2, .slice D m2 j2] 24 #[.int .i64 p1, .int .i64 p2, .int .i64 p3, .int .i64 p4] 28
   have ra_5 := rI h1 bel_4
   have rb_6 := rI h2 bel_4
   have rc_7 := rI h3 bel_4
   have rd_8 := rI h4 bel_4
   clear h1 h2 h3 h4
   obtain ⟨z_9, z_10, z_11⟩ := at3 ba_1
   obtain ⟨z_12, z_13, z_14⟩ := at3 bb_2
   obtain ⟨z_15, z_16, z_17, z_18⟩ := at4 bp_3
   have hc := pairOf_no c A B n k m j ws ts d C D n2 k2 m2 j2 ws2 ts2 p1 p2 p3 p4 _ ra_5.out rb_6.out hn hm rc_7.out rd_8.out hn2 hm2 q hq hne
   have HC := Lib.hid hc; clear hc
   go_wp2_with fail
   refine HC.out.mono ?_
   rintro e w_19 ⟨rfl, hb⟩
   clear HC
   clear z_9 z_10 z_11 z_12 z_13 z_14 z_15 z_16 z_17 z_18
   have hb_20 := Lib.hid hb
   clear hb
   replace ba_1 := kH ba_1 hb_20
   obtain ⟨z_21, z_22, z_23⟩ := at3 ba_1
   replace bb_2 := kH bb_2 hb_20
   obtain ⟨z_24, z_25, z_26⟩ := at3 bb_2
   replace bp_3 := kH bp_3 hb_20
   obtain ⟨z_27, z_28, z_29, z_30⟩ := at4 bp_3
   clear z_21 z_22 z_23 z_24 z_25 z_26 z_27 z_28 z_29 z_30
   obtain ⟨o_, ho_⟩ : ∃ o, o = ((.cells #[.int .i64 0, .slice none 0 0, .slice none 0 0, .int .i64 0, .slice none 0 0, .slice none 0 0, .int .i64 0, .int .i64 0, .int .i64 0, .int .i64 0] 101) : Obj) := ⟨_, rfl⟩
   replace bel_4 := bA (bH bel_4 hb_20) o_
   replace ra_5 := rA (rH ra_5 hb_20) o_
   replace rb_6 := rA (rH rb_6 hb_20) o_
   replace rc_7 := rA (rH rc_7 hb_20) o_
   replace rd_8 := rA (rH rd_8 hb_20) o_
   replace ba_1 := kA ba_1 o_
   replace bb_2 := kA bb_2 o_
   replace bp_3 := kA bp_3 o_
   subst ho_
   have bq_31 := Lib.hid (Blk.new w_19 101 #[.int .i64 0, .slice none 0 0, .slice none 0 0, .int .i64 0, .slice none 0 0, .slice none 0 0, .int .i64 0, .int .i64 0, .int .i64 0, .int .i64 0])
   obtain ⟨z_32, z_33, z_34⟩ := at3 ba_1
   obtain ⟨z_35, z_36, z_37⟩ := at3 bb_2
   obtain ⟨z_38, z_39, z_40, z_41⟩ := at4 bp_3
   obtain ⟨z_42, z_43, z_44, z_45, z_46, z_47, z_48, z_49, z_50, z_51⟩ := at10 bq_31
   go_wp2
   go_ret2
   exact ⟨rfl, bel_4.out⟩
def flawV (P : Int) (l : List Bnd) (Q : Int) (k : List Bnd) : List Int × Bool × Bool :=
 if (circleV P l).2.1 then ((circleV P l).1, false, true) else if (circleV Q k).2.1 then ((circleV Q k).1, true, true) else ([], false, false)
def RetF (V : List Int × Bool × Bool) (w : World) (e : Ending) (w' : World) : Prop :=
 ∃ A n c, e = .returned (.tuple #[.agg #[.bool V.2.1, .slice A n c], .bool V.2.2]) ∧ RdI w' A n c V.1 ∧ n ≤ maxLen ∧ Below w.heap.size w w'
theorem circleV_form (P : Int) (l : List Bnd) : ∃ Z b q, circleV P l = (Z, b, q) := ⟨_, _, _, rfl⟩
set_option maxRecDepth 100000 in
theorem flawIn_any (P Q : Int) (A B : Option Addr) (n k m j : Nat) (l1 l2 : List Bnd) (w : World) (h1 : RdB w A n k l1) (h2 : RdB w B m j l2) (hn : n ≤ maxLen) (hm : m ≤ maxLen) :
 Calls Tryz.prog 80 #[.agg #[.int .i64 P, .slice A n k], .agg #[.int .i64 Q, .slice B m j]] w (RetF (flawV P l1 Q l2) w) := by
 obtain ⟨Z, b, q, hz⟩ := circleV_form P l1
 obtain ⟨Y, b2, q2, hy⟩ := circleV_form Q l2
 unfold flawV
 rw [hz, hy]
 have E1 := Lib.hid hz; have E2 := Lib.hid hy; clear hz hy
 dsimp only
 cases b
 · cases b2
   · simp only [Bool.false_eq_true, if_false]
     unfold RetF
     dsimp only
     go_enter Tryz.func80, Tryz.ntmps80
     obtain ⟨s1_1, s2_2, bz_3, bel_4⟩ := ent3 w #[.int .i64 P, .slice A n k] 46 #[.int .i64 Q, .slice B m j] 46 #[.bool false, .slice none 0 0] 33
     have r1_5 := rI h1 bel_4
     have r2_6 := rI h2 bel_4
     clear h1 h2
     obtain ⟨z_7, z_8⟩ := at2 s1_1
     obtain ⟨z_9, z_10⟩ := at2 s2_2
     obtain ⟨z_11, z_12⟩ := at2 bz_3
     have hc := Circle_any P A n k l1 _ r1_5.out hn
     rw [E1.out] at hc
     unfold RetI at hc
     dsimp only at hc
     have hc := hc
     have HC := Lib.hid hc; clear hc
     go_wp2_with fail
     refine HC.out.mono ?_
     rintro e w_13 ⟨A8, n8, c8, rfl, ho8, hb⟩
     clear HC
     clear z_7 z_8 z_9 z_10 z_11 z_12
     have hb_14 := Lib.hid hb
     clear hb
     have hrd8 := OwnI.rd ho8; clear ho8
     have hmx8 := Nat.le_trans hrd8.1.cap hrd8.2
     have hrd8 := hrd8.1
     have z8_15 := Lib.hid (hrd8)
     clear hrd8
     replace s1_1 := kH s1_1 hb_14
     obtain ⟨z_16, z_17⟩ := at2 s1_1
     replace s2_2 := kH s2_2 hb_14
     obtain ⟨z_18, z_19⟩ := at2 s2_2
     replace bz_3 := kH bz_3 hb_14
     obtain ⟨z_20, z_21⟩ := at2 bz_3
     replace r2_6 := rH r2_6 hb_14
     have hc := Circle_any Q B m j l2 _ r2_6.out hm
     rw [E2.out] at hc
     unfold RetI at hc
     dsimp only at hc
     have hc := hc
     have HC := Lib.hid hc; clear hc
     go_wp2_with fail
     refine HC.out.mono ?_
     rintro e w_22 ⟨A9, n9, c9, rfl, ho9, hb⟩
     clear HC
     clear z_16 z_17 z_18 z_19 z_20 z_21
     have hb_23 := Lib.hid hb
     clear hb
     have hrd9 := OwnI.rd ho9; clear ho9
     have hmx9 := Nat.le_trans hrd9.1.cap hrd9.2
     have hrd9 := hrd9.1
     have z9_24 := Lib.hid (hrd9)
     clear hrd9
     replace s1_1 := kH s1_1 hb_23
     obtain ⟨z_25, z_26⟩ := at2 s1_1
     replace s2_2 := kH s2_2 hb_23
     obtain ⟨z_27, z_28⟩ := at2 s2_2
     replace bz_3 := kH bz_3 hb_23
     obtain ⟨z_29, z_30⟩ := at2 bz_3
     have fz_31 : (w_22).frozen? ⟨w.heap.size + 1 + 1, 0, none⟩ = false := Blk.frozen bz_3.out 0
     have fz_32 : (w_22).frozen? ⟨w.heap.size + 1 + 1, 1, none⟩ = false := Blk.frozen bz_3.out 1
     have hlb_ := Blk.lt bz_3.out
     replace bel_4 := bH (bH bel_4 hb_14) hb_23
     have HK := Lib.hid (And.intro bz_3.out (And.intro bel_4.out (trivial)))
     go_wp2
     obtain ⟨bz_, bel_, z_⟩ := HK.out
     refine bodyPost_ret (v := .tuple #[.agg #[.bool false, .slice none 0 0], .bool false]) (by simp [results, Tryz.results80, go_sem, z_25, z_26, z_27, z_28, z_29, z_30, fz_31, fz_32]) rfl ?_
     exact ⟨none, 0, 0, rfl, RdI.nil_ _, by unfold maxLen; omega, (by have hsz_ := Below.size bel_; repeat' (first | with_reducible exact bel_ | with_reducible exact Below.refl _ _ | with_reducible refine Below.alloc ?_ ?_ _ | with_reducible refine Below.setCell ?_ ?_ _ | with_reducible refine Below.drew ?_ | with_reducible refine below_setRow ?_ ?_ _ | omega | (simp; done) | (simp; omega)))⟩
   · simp only [Bool.false_eq_true, if_false, if_true]
     unfold RetF
     dsimp only
     go_enter Tryz.func80, Tryz.ntmps80
     obtain ⟨s1_1, s2_2, bz_3, bel_4⟩ := ent3 w #[.int .i64 P, .slice A n k] 46 #[.int .i64 Q, .slice B m j] 46 #[.bool false, .slice none 0 0] 33
     have r1_5 := rI h1 bel_4
     have r2_6 := rI h2 bel_4
     clear h1 h2
     obtain ⟨z_7, z_8⟩ := at2 s1_1
     obtain ⟨z_9, z_10⟩ := at2 s2_2
     obtain ⟨z_11, z_12⟩ := at2 bz_3
     have hc := Circle_any P A n k l1 _ r1_5.out hn
     rw [E1.out] at hc
     unfold RetI at hc
     dsimp only at hc
     have hc := hc
     have HC := Lib.hid hc; clear hc
     go_wp2_with fail
     refine HC.out.mono ?_
     rintro e w_13 ⟨A8, n8, c8, rfl, ho8, hb⟩
     clear HC
     clear z_7 z_8 z_9 z_10 z_11 z_12
     have hb_14 := Lib.hid hb
     clear hb
     have hrd8 := OwnI.rd ho8; clear ho8
     have hmx8 := Nat.le_trans hrd8.1.cap hrd8.2
     have hrd8 := hrd8.1
     have z8_15 := Lib.hid (hrd8)
     clear hrd8
     replace s1_1 := kH s1_1 hb_14
     obtain ⟨z_16, z_17⟩ := at2 s1_1
     replace s2_2 := kH s2_2 hb_14
     obtain ⟨z_18, z_19⟩ := at2 s2_2
     replace bz_3 := kH bz_3 hb_14
     obtain ⟨z_20, z_21⟩ := at2 bz_3
     replace r2_6 := rH r2_6 hb_14
     have hc := Circle_any Q B m j l2 _ r2_6.out hm
     rw [E2.out] at hc
     unfold RetI at hc
     dsimp only at hc
     have hc := hc
     have HC := Lib.hid hc; clear hc
     go_wp2_with fail
     refine HC.out.mono ?_
     rintro e w_22 ⟨A9, n9, c9, rfl, ho9, hb⟩
     clear HC
     clear z_16 z_17 z_18 z_19 z_20 z_21
     have hb_23 := Lib.hid hb
     clear hb
     have hrd9 := OwnI.rd ho9; clear ho9
     have hmx9 := Nat.le_trans hrd9.1.cap hrd9.2
     have hrd9 := hrd9.1
     have z9_24 := Lib.hid (hrd9)
     clear hrd9
     replace s1_1 := kH s1_1 hb_23
     obtain ⟨z_25, z_26⟩ := at2 s1_1
     replace s2_2 := kH s2_2 hb_23
     obtain ⟨z_27, z_28⟩ := at2 s2_2
     replace bz_3 := kH bz_3 hb_23
     obtain ⟨z_29, z_30⟩ := at2 bz_3
     have fz_31 : (w_22).frozen? ⟨w.heap.size + 1 + 1, 0, none⟩ = false := Blk.frozen bz_3.out 0
     have fz_32 : (w_22).frozen? ⟨w.heap.size + 1 + 1, 1, none⟩ = false := Blk.frozen bz_3.out 1
     have hlb_ := Blk.lt bz_3.out
     replace bel_4 := bH (bH bel_4 hb_14) hb_23
     have HK := Lib.hid (And.intro bz_3.out (And.intro bel_4.out (z9_24.out)))
     go_wp2
     obtain ⟨bz_, bel_, z_⟩ := HK.out
     refine bodyPost_ret (v := .tuple #[.agg #[.bool true, .slice A9 n9 c9], .bool true]) (by simp [results, Tryz.results80, go_sem, z_25, z_26, z_27, z_28, z_29, z_30, fz_31, fz_32]) rfl ?_
     exact ⟨A9, n9, c9, rfl, rdI_setc (rdI_setc z_ ⟨w.heap.size + 1 + 1, 0, none⟩ (.bool true) bz_ (by simp)) ⟨w.heap.size + 1 + 1, 1, none⟩ (.slice A9 n9 c9) (Blk.set_ bz_ 0 (.bool true)) (by simp), hmx9, (by have hsz_ := Below.size bel_; repeat' (first | with_reducible exact bel_ | with_reducible exact Below.refl _ _ | with_reducible refine Below.alloc ?_ ?_ _ | with_reducible refine Below.setCell ?_ ?_ _ | with_reducible refine Below.drew ?_ | with_reducible refine below_setRow ?_ ?_ _ | omega | (simp; done) | (simp; omega)))⟩
 · simp only [if_true]
   unfold RetF
   dsimp only
   go_enter Tryz.func80, Tryz.ntmps80
   obtain ⟨s1_1, s2_2, bz_3, bel_4⟩ := ent3 w #[.int .i64 P, .slice A n k] 46 #[.int .i64 Q, .slice B m j] 46 #[.bool false, .slice none 0 0] 33
   have r1_5 := rI h1 bel_4
   have r2_6 := rI h2 bel_4
   clear h1 h2
   obtain ⟨z_7, z_8⟩ := at2 s1_1
   obtain ⟨z_9, z_10⟩ := at2 s2_2
   obtain ⟨z_11, z_12⟩ := at2 bz_3
   have hc := Circle_any P A n k l1 _ r1_5.out hn
   rw [E1.out] at hc
   unfold RetI at hc
   dsimp only at hc
   have hc := hc
   have HC := Lib.hid hc; clear hc
   go_wp2_with fail
   refine HC.out.mono ?_
   rintro e w_13 ⟨A8, n8, c8, rfl, ho8, hb⟩
   clear HC
   clear z_7 z_8 z_9 z_10 z_11 z_12
   have hb_14 := Lib.hid hb
   clear hb
   have hrd8 := OwnI.rd ho8; clear ho8
   have hmx8 := Nat.le_trans hrd8.1.cap hrd8.2
   have hrd8 := hrd8.1
   have z8_15 := Lib.hid (hrd8)
   clear hrd8
   replace s1_1 := kH s1_1 hb_14
   obtain ⟨z_16, z_17⟩ := at2 s1_1
   replace s2_2 := kH s2_2 hb_14
   obtain ⟨z_18, z_19⟩ := at2 s2_2
   replace bz_3 := kH bz_3 hb_14
   obtain ⟨z_20, z_21⟩ := at2 bz_3
   have fz_22 : (w_13).frozen? ⟨w.heap.size + 1 + 1, 0, none⟩ = false := Blk.frozen bz_3.out 0
   have fz_23 : (w_13).frozen? ⟨w.heap.size + 1 + 1, 1, none⟩ = false := Blk.frozen bz_3.out 1
   have hlb_ := Blk.lt bz_3.out
   replace bel_4 := bH bel_4 hb_14
   have HK := Lib.hid (And.intro bz_3.out (And.intro bel_4.out (z8_15.out)))
   go_wp2
   obtain ⟨bz_, bel_, z_⟩ := HK.out
   refine bodyPost_ret (v := .tuple #[.agg #[.bool false, .slice A8 n8 c8], .bool true]) (by simp [results, Tryz.results80, go_sem, z_16, z_17, z_18, z_19, z_20, z_21, fz_22, fz_23]) rfl ?_
   exact ⟨A8, n8, c8, rfl, rdI_setc (rdI_setc z_ ⟨w.heap.size + 1 + 1, 0, none⟩ (.bool false) bz_ (by simp)) ⟨w.heap.size + 1 + 1, 1, none⟩ (.slice A8 n8 c8) (Blk.set_ bz_ 0 (.bool false)) (by simp), hmx8, (by have hsz_ := Below.size bel_; repeat' (first | with_reducible exact bel_ | with_reducible exact Below.refl _ _ | with_reducible refine Below.alloc ?_ ?_ _ | with_reducible refine Below.setCell ?_ ?_ _ | with_reducible refine Below.drew ?_ | with_reducible refine below_setRow ?_ ?_ _ | omega | (simp; done) | (simp; omega)))⟩
def clashV (a b : Otl) (p : Prg) : (List Int × Bool × Bool) × Int := if asked a b p = 0 then (flawV (wayP a b p) (wayL a b p) (turnP a b p) (turnL a b p), 0) else (([], false, false), asked a b p)
def RetFE (V : (List Int × Bool × Bool) × Int) (w : World) (e : Ending) (w' : World) : Prop :=
 ∃ A n c, e = .returned (.tuple #[.agg #[.bool V.1.2.1, .slice A n c], .bool V.1.2.2, .int .i64 V.2]) ∧ RdI w' A n c V.1.1 ∧ n ≤ maxLen ∧ Below w.heap.size w w'
theorem flawIn_wide (P Q : Int) (A B : Option Addr) (n k m j : Nat) (l1 l2 : List Bnd) (w : World) (h1 : RdB w A n k l1) (h2 : RdB w B m j l2) (hn : l1.length ≤ 400) (hm : l2.length ≤ 400) (V : List Int × Bool × Bool) (hV : flawV P l1 Q l2 = V) :
 Calls Tryz.prog 80 #[.agg #[.int .i64 P, .slice A n k], .agg #[.int .i64 Q, .slice B m j]] w fun e w' => ∃ A n c, e = .returned (.tuple #[.agg #[.bool V.2.1, .slice A n c], .bool V.2.2]) ∧ RdI w' A n c V.1 ∧ n ≤ maxLen ∧ Below w.heap.size w w' := by
 subst hV
 exact flawIn_any P Q A B n k m j l1 l2 w h1 h2 (by have := h1.len; unfold maxLen; omega) (by have := h2.len; unfold maxLen; omega)
set_option maxRecDepth 100000 in
theorem Clash_any (c : Int) (A B : Option Addr) (n k m j : Nat) (ws ts : List Bnd) (d : Int) (C D : Option Addr) (n2 k2 m2 j2 : Nat) (ws2 ts2 : List Bnd) (p1 p2 p3 p4 : Int) (w : World) (h1 : RdB w A n k ws) (h2 : RdB w B m j ts) (hn : n ≤ maxLen) (hm : m ≤ maxLen) (h3 : RdB w C n2 k2 ws2) (h4 : RdB w D m2 j2 ts2) (hn2 : n2 ≤ maxLen) (hm2 : m2 ≤ maxLen) : Calls Tryz.prog 33 #[.agg #[.int .i64 c, .slice A n k, .slice B m j], .agg #[.int .i64 d, .slice C n2 k2, .slice D m2 j2], .agg #[.int .i64 p1, .int .i64 p2, .int .i64 p3, .int .i64 p4]] w (RetFE (clashV ⟨c, ws, ts⟩ ⟨d, ws2, ts2⟩ ⟨p1, p2, p3, p4⟩) w) := by
 unfold clashV
 by_cases hq : asked ⟨c, ws, ts⟩ ⟨d, ws2, ts2⟩ ⟨p1, p2, p3, p4⟩ = 0
 · rw [if_pos hq]
   obtain ⟨V, hV⟩ : ∃ V, flawV (wayP ⟨c, ws, ts⟩ ⟨d, ws2, ts2⟩ ⟨p1, p2, p3, p4⟩) (wayL ⟨c, ws, ts⟩ ⟨d, ws2, ts2⟩ ⟨p1, p2, p3, p4⟩) (turnP ⟨c, ws, ts⟩ ⟨d, ws2, ts2⟩ ⟨p1, p2, p3, p4⟩) (turnL ⟨c, ws, ts⟩ ⟨d, ws2, ts2⟩ ⟨p1, p2, p3, p4⟩) = V := ⟨_, rfl⟩
   rw [hV]
   have HV := Lib.hid hV; clear hV
   obtain ⟨V1, V2, V3⟩ := V
   unfold RetFE
   dsimp only
   go_enter Tryz.func33, Tryz.ntmps33
   have bel_1 := Lib.hid (show Below w.heap.size w w from Below.refl _ w)
   have ra_2 := Lib.hid (h1)
   clear h1
   have rb_3 := Lib.hid (h2)
   clear h2
   have rc_4 := Lib.hid (h3)
   clear h3
   have rd_5 := Lib.hid (h4)
   clear h4
   obtain ⟨o_, ho_⟩ : ∃ o, o = ((.cells #[.int .i64 c, .slice A n k, .slice B m j] 24) : Obj) := ⟨_, rfl⟩
   replace bel_1 := bA bel_1 o_
   replace ra_2 := rA ra_2 o_
   replace rb_3 := rA rb_3 o_
   replace rc_4 := rA rc_4 o_
   replace rd_5 := rA rd_5 o_
   subst ho_
   have ba_6 := Lib.hid (Blk.new w 24 #[.int .i64 c, .slice A n k, .slice B m j])
   obtain ⟨o_, ho_⟩ : ∃ o, o = ((.cells #[.int .i64 d, .slice C n2 k2, .slice D m2 j2] 24) : Obj) := ⟨_, rfl⟩
   replace bel_1 := bA bel_1 o_
   replace ra_2 := rA ra_2 o_
   replace rb_3 := rA rb_3 o_
   replace rc_4 := rA rc_4 o_
   replace rd_5 := rA rd_5 o_
   replace ba_6 := kA ba_6 o_
   subst ho_
   have nb_ := Blk.new (w.alloc (.cells #[.int .i64 c, .slice A n k, .slice B m j] 24)) 24 #[.int .i64 d, .slice C n2 k2, .slice D m2 j2]
   simp only [World.size_alloc] at nb_
   have bb_7 := Lib.hid nb_; clear nb_
   obtain ⟨o_, ho_⟩ : ∃ o, o = ((.cells #[.int .i64 p1, .int .i64 p2, .int .i64 p3, .int .i64 p4] 28) : Obj) := ⟨_, rfl⟩
   replace bel_1 := bA bel_1 o_
   replace ra_2 := rA ra_2 o_
   replace rb_3 := rA rb_3 o_
   replace rc_4 := rA rc_4 o_
   replace rd_5 := rA rd_5 o_
   replace ba_6 := kA ba_6 o_
   replace bb_7 := kA bb_7 o_
   subst ho_
   have nb_ := Blk.new ((w.alloc (.cells #[.int .i64 c, .slice A n k, .slice B m j] 24)).alloc (.cells #[.int .i64 d, .slice C n2 k2, .slice D m2 j2] 24)) 28 #[.int .i64 p1, .int .i64 p2, .int .i64 p3, .int .i64 p4]
   simp only [World.size_alloc] at nb_
   have bp_8 := Lib.hid nb_; clear nb_
   obtain ⟨o_, ho_⟩ : ∃ o, o = ((.cells #[.bool false, .slice none 0 0] 33) : Obj) := ⟨_, rfl⟩
   replace bel_1 := bA bel_1 o_
   replace ra_2 := rA ra_2 o_
   replace rb_3 := rA rb_3 o_
   replace rc_4 := rA rc_4 o_
   replace rd_5 := rA rd_5 o_
   replace ba_6 := kA ba_6 o_
   replace bb_7 := kA bb_7 o_
   replace bp_8 := kA bp_8 o_
   subst ho_
   have nb_ := Blk.new (((w.alloc (.cells #[.int .i64 c, .slice A n k, .slice B m j] 24)).alloc (.cells #[.int .i64 d, .slice C n2 k2, .slice D m2 j2] 24)).alloc (.cells #[.int .i64 p1, .int .i64 p2, .int .i64 p3, .int .i64 p4] 28)) 33 #[.bool false, .slice none 0 0]
   simp only [World.size_alloc] at nb_
   have bz_9 := Lib.hid nb_; clear nb_
   obtain ⟨z_10, z_11, z_12⟩ := at3 ba_6
   obtain ⟨z_13, z_14, z_15⟩ := at3 bb_7
   obtain ⟨z_16, z_17, z_18, z_19⟩ := at4 bp_8
   obtain ⟨z_20, z_21⟩ := at2 bz_9
   have hc := pairOf_yes c A B n k m j ws ts d C D n2 k2 m2 j2 ws2 ts2 p1 p2 p3 p4 _ ra_2.out rb_3.out hn hm rc_4.out rd_5.out hn2 hm2 hq
   have HC := Lib.hid hc; clear hc
   go_wp2_with fail
   refine HC.out.mono ?_
   rintro e w_22 ⟨rfl, hb⟩
   clear HC
   clear z_10 z_11 z_12 z_13 z_14 z_15 z_16 z_17 z_18 z_19 z_20 z_21
   have hb_23 := Lib.hid hb
   clear hb
   replace ba_6 := kH ba_6 hb_23
   obtain ⟨z_24, z_25, z_26⟩ := at3 ba_6
   replace bb_7 := kH bb_7 hb_23
   obtain ⟨z_27, z_28, z_29⟩ := at3 bb_7
   replace bp_8 := kH bp_8 hb_23
   obtain ⟨z_30, z_31, z_32, z_33⟩ := at4 bp_8
   replace bz_9 := kH bz_9 hb_23
   obtain ⟨z_34, z_35⟩ := at2 bz_9
   clear z_24 z_25 z_26 z_27 z_28 z_29 z_30 z_31 z_32 z_33 z_34 z_35
   obtain ⟨o_, ho_⟩ : ∃ o, o = ((.cells #[.int .i64 c, .slice A n k, .slice B m j, .int .i64 d, .slice C n2 k2, .slice D m2 j2, .int .i64 p1, .int .i64 p2, .int .i64 p3, .int .i64 p4] 101) : Obj) := ⟨_, rfl⟩
   replace bel_1 := bA (bH bel_1 hb_23) o_
   replace ra_2 := rA (rH ra_2 hb_23) o_
   replace rb_3 := rA (rH rb_3 hb_23) o_
   replace rc_4 := rA (rH rc_4 hb_23) o_
   replace rd_5 := rA (rH rd_5 hb_23) o_
   replace ba_6 := kA ba_6 o_
   replace bb_7 := kA bb_7 o_
   replace bp_8 := kA bp_8 o_
   replace bz_9 := kA bz_9 o_
   subst ho_
   have bq_36 := Lib.hid (Blk.new w_22 101 #[.int .i64 c, .slice A n k, .slice B m j, .int .i64 d, .slice C n2 k2, .slice D m2 j2, .int .i64 p1, .int .i64 p2, .int .i64 p3, .int .i64 p4])
   obtain ⟨z_37, z_38, z_39⟩ := at3 ba_6
   obtain ⟨z_40, z_41, z_42⟩ := at3 bb_7
   obtain ⟨z_43, z_44, z_45, z_46⟩ := at4 bp_8
   obtain ⟨z_47, z_48⟩ := at2 bz_9
   obtain ⟨z_49, z_50, z_51, z_52, z_53, z_54, z_55, z_56, z_57, z_58⟩ := at10 bq_36
   have HQ1 := Lib.hid (asked_ok hq).1
   have HL1 := Lib.hid (show (wayL ⟨c, ws, ts⟩ ⟨d, ws2, ts2⟩ ⟨p1, p2, p3, p4⟩).length ≤ 400 from (chk_ok (wayL_chk hq)).2.2.1)
   have HL2 := Lib.hid (show (turnL ⟨c, ws, ts⟩ ⟨d, ws2, ts2⟩ ⟨p1, p2, p3, p4⟩).length ≤ 400 from (chk_ok (turnL_chk hq)).2.2.1)
   clear hq
   go_wp2_with fail
   clear z_37 z_38 z_39 z_40 z_41 z_42 z_43 z_44 z_45 z_46 z_47 z_48 z_49 z_50 z_51 z_52 z_53 z_54 z_55 z_56 z_57 z_58
   replace bel_1 := bD bel_1
   replace ra_2 := rD ra_2
   replace rb_3 := rD rb_3
   replace rc_4 := rD rc_4
   replace rd_5 := rD rd_5
   replace ba_6 := kD ba_6
   replace bb_7 := kD bb_7
   replace bp_8 := kD bp_8
   replace bz_9 := kD bz_9
   replace bq_36 := kD bq_36
   refine wp_region_held_drew (S := (fun W' => Blk W' (w_22.heap.size) 101 #[.int .i64 c, .slice A n k, .slice B m j, .int .i64 d, .slice C n2 k2, .slice D m2 j2, .int .i64 p1, .int .i64 p2, .int .i64 p3, .int .i64 p4])) (by kernel_rfl) bq_36.out (fun _ => ?_)
   obtain ⟨w363, hw364⟩ : ∃ w', w' = ((w_22.alloc (.cells #[.int .i64 c, .slice A n k, .slice B m j, .int .i64 d, .slice C n2 k2, .slice D m2 j2, .int .i64 p1, .int .i64 p2, .int .i64 p3, .int .i64 p4] 101)).drew) := ⟨_, rfl⟩
   rw [← hw364] at bel_1 ra_2 rb_3 rc_4 rd_5 ba_6 bb_7 bp_8 bz_9 bq_36
   rw [← hw364]
   clear hw364
   refine' tkH 0 bq_36.out ?hyR365 ?_
   case hyR365 => (rintro W' hS0; have hc0 := Blk.nth hS0 0; have hc1 := Blk.nth hS0 1; have hc2 := Blk.nth hS0 2; have hc3 := Blk.nth hS0 3; have hc4 := Blk.nth hS0 4; have hc5 := Blk.nth hS0 5; have hc6 := Blk.nth hS0 6; have hc7 := Blk.nth hS0 7; have hc8 := Blk.nth hS0 8; have hc9 := Blk.nth hS0 9; clear hS0; go_simp; try with_reducible rfl)
   refine' tkH 2 bq_36.out ?hyR366 ?_
   case hyR366 => (rintro W' hS0; have hc0 := Blk.nth hS0 0; have hc1 := Blk.nth hS0 1; have hc2 := Blk.nth hS0 2; have hc3 := Blk.nth hS0 3; have hc4 := Blk.nth hS0 4; have hc5 := Blk.nth hS0 5; have hc6 := Blk.nth hS0 6; have hc7 := Blk.nth hS0 7; have hc8 := Blk.nth hS0 8; have hc9 := Blk.nth hS0 9; clear hS0; go_simp; try with_reducible rfl)
   try simp only [Act.put, qsA, qsZ, qsS]
   refine wpAnyH_ready (rs := [1, 8]) (by kernel_rfl) (by simp) ?_
   refine rdH rfl (fun K hK => ?_) ?_
   · -- 1: call
    go_simp
    go_at_call 81
    refine (ways_q c A B n k m j ws ts d C D n2 k2 m2 j2 ws2 ts2 p1 p2 p3 p4 _ ra_2.out rb_3.out hn hm rc_4.out rd_5.out hn2 hm2 HQ1.out).mono ?_
    rintro e w367 ⟨A21, n21, k21, rfl, hr1, hb368⟩
    dsimp only
    replace hb368 := Lib.hid hb368
    have l1_369 := Lib.hid (hr1)
    replace bq_36 := kH bq_36 hb368
    refine hK.out _ _ bq_36.out (fun _ => ?_); clear hK K
    try simp only [Act.put, qsA, qsZ, qsS]
    refine wpAnyH_ready (rs := [3, 8]) (by kernel_rfl) (by simp) ?_
    refine rdH rfl (fun K hK => ?_) ?_
    · -- 3: call
     replace ra_2 := rH ra_2 hb368
     replace rb_3 := rH rb_3 hb368
     replace rc_4 := rH rc_4 hb368
     replace rd_5 := rH rd_5 hb368
     go_simp
     go_at_call 82
     refine (turns_q c A B n k m j ws ts d C D n2 k2 m2 j2 ws2 ts2 p1 p2 p3 p4 _ ra_2.out rb_3.out hn hm rc_4.out rd_5.out hn2 hm2 HQ1.out).mono ?_
     rintro e w370 ⟨A22, n22, k22, rfl, hr2, hb371⟩
     dsimp only
     replace hb371 := Lib.hid hb371
     have l2_372 := Lib.hid (hr2)
     replace bq_36 := kH bq_36 hb371
     refine hK.out _ _ bq_36.out (fun _ => ?_); clear hK K
     try simp only [Act.put, qsA, qsZ, qsS]
     refine wpAnyH_ready (rs := [4, 8]) (by kernel_rfl) (by simp) ?_
     refine rdH rfl (fun K hK => ?_) ?_
     · -- 4: call
      replace l1_369 := rH l1_369 hb371
      go_simp
      go_at_call 80
      refine (flawIn_wide _ _ A21 A22 n21 k21 n22 k22 _ _ _ l1_369.out l2_372.out HL1.out HL2.out _ HV.out).mono ?_
      rintro e w373 ⟨A9, n9, c9, rfl, hz9, hm9, hb374⟩
      dsimp only
      replace hb374 := Lib.hid hb374
      have z9_375 := Lib.hid (hz9)
      replace bq_36 := kH bq_36 hb374
      refine hK.out _ _ bq_36.out (fun _ => ?_); clear hK K
      try simp only [Act.put, qsA, qsZ, qsS]
      refine' twH 5 bq_36.out ?_
      refine' twH 6 bq_36.out ?_
      refine' twH 7 bq_36.out ?_
      try simp only [Act.put, qsA, qsZ, qsS]
      refine oneH 8 rfl fun K hK => ?_
      replace bel_1 := bH (bH (bH bel_1 hb368) hb371) hb374
      replace ra_2 := rH (rH ra_2 hb371) hb374
      replace rb_3 := rH (rH rb_3 hb371) hb374
      replace rc_4 := rH (rH rc_4 hb371) hb374
      replace rd_5 := rH (rH rd_5 hb371) hb374
      replace ba_6 := kH (kH (kH ba_6 hb368) hb371) hb374
      replace bb_7 := kH (kH (kH bb_7 hb368) hb371) hb374
      replace bp_8 := kH (kH (kH bp_8 hb368) hb371) hb374
      replace bz_9 := kH (kH (kH bz_9 hb368) hb371) hb374
      replace l1_369 := rH l1_369 hb374
      replace l2_372 := rH l2_372 hb374
      go_simp
      have lb383 := Lib.hid (bel_1.out.size)
      have ne384 := Lib.hid (Nat.ne_of_lt (Blk.lt ba_6.out))
      have ne385 := Lib.hid (Nat.ne_of_lt (Blk.lt bb_7.out))
      have ne386 := Lib.hid (Nat.ne_of_lt (Blk.lt bp_8.out))
      have ne387 := Lib.hid (Nat.ne_of_lt (Blk.lt bz_9.out))
      have ne388 := Lib.hid (Nat.ne_of_lt (Blk.lt bq_36.out))
      obtain ⟨o_, ho_⟩ : ∃ o, o = (.cells #[.bool false, .slice none 0 0] 33 : Obj) := ⟨_, rfl⟩
      replace bel_1 := bA bel_1 o_
      replace ra_2 := rA ra_2 o_
      replace rb_3 := rA rb_3 o_
      replace rc_4 := rA rc_4 o_
      replace rd_5 := rA rd_5 o_
      replace ba_6 := kA ba_6 o_
      replace bb_7 := kA bb_7 o_
      replace bp_8 := kA bp_8 o_
      replace bz_9 := kA bz_9 o_
      replace bq_36 := kA bq_36 o_
      replace l1_369 := rA l1_369 o_
      replace l2_372 := rA l2_372 o_
      replace z9_375 := iA z9_375 o_
      subst ho_
      have bo_389 := Lib.hid (Blk.new (w373) 33 #[.bool false, .slice none 0 0])
      obtain ⟨g379, hg380⟩ : ∃ g, g = (w373).heap.size := ⟨_, rfl⟩
      obtain ⟨w381, hw382⟩ : ∃ w', w' = (w373).alloc (.cells #[.bool false, .slice none 0 0] 33) := ⟨_, rfl⟩
      rw [← hw382] at bel_1 ra_2 rb_3 rc_4 rd_5 ba_6 bb_7 bp_8 bz_9 bq_36 l1_369 l2_372 z9_375 bo_389
      rw [← hg380] at lb383 ne384 ne385 ne386 ne387 ne388 bo_389
      rw [← hg380, ← hw382]
      clear hg380 hw382
      refine hK.out _ _ bq_36.out (fun _ => ?_); clear hK K
      try simp only [Act.put, qsA, qsZ, qsS]
      refine oneH 9 rfl fun K hK => ?_
      have v390 : (w381).cell? ⟨g379, 0, none⟩ = some (.bool false) := Blk.cell (bo_389.out) 0
      have f391 : (w381).frozen? ⟨g379, 0, none⟩ = false := Blk.frozen (bo_389.out) 0
      have v392 : (w381).cell? ⟨g379, 1, none⟩ = some (.slice none 0 0) := Blk.cell (bo_389.out) 1
      have f393 : (w381).frozen? ⟨g379, 1, none⟩ = false := Blk.frozen (bo_389.out) 1
      have hlt_ := Blk.lt (bo_389.out)
      go_simp
      have k394 := Lib.hid (Below.setCell (Below.setCell (bel_1.out) (p := ⟨g379, 0, none⟩) (lb383.out) (.bool V2)) (p := ⟨g379, 1, none⟩) (lb383.out) (.slice A9 n9 c9))
      have k395 := Lib.hid (Blk.far (Blk.far (ba_6.out) (p := ⟨g379, 0, none⟩) (ne384.out) (.bool V2)) (p := ⟨g379, 1, none⟩) (ne384.out) (.slice A9 n9 c9))
      have k396 := Lib.hid (Blk.far (Blk.far (bb_7.out) (p := ⟨g379, 0, none⟩) (ne385.out) (.bool V2)) (p := ⟨g379, 1, none⟩) (ne385.out) (.slice A9 n9 c9))
      have k397 := Lib.hid (Blk.far (Blk.far (bp_8.out) (p := ⟨g379, 0, none⟩) (ne386.out) (.bool V2)) (p := ⟨g379, 1, none⟩) (ne386.out) (.slice A9 n9 c9))
      have k398 := Lib.hid (Blk.far (Blk.far (bz_9.out) (p := ⟨g379, 0, none⟩) (ne387.out) (.bool V2)) (p := ⟨g379, 1, none⟩) (ne387.out) (.slice A9 n9 c9))
      have k399 := Lib.hid (Blk.far (Blk.far (bq_36.out) (p := ⟨g379, 0, none⟩) (ne388.out) (.bool V2)) (p := ⟨g379, 1, none⟩) (ne388.out) (.slice A9 n9 c9))
      have k400 := Lib.hid (rdI_setc (rdI_setc (z9_375.out) ⟨g379, 0, none⟩ (.bool V2) (bo_389.out) (by simp)) ⟨g379, 1, none⟩ (.slice A9 n9 c9) (Blk.set_ (bo_389.out) 0 (.bool V2)) (by simp))
      have k401 := Lib.hid (Blk.set_ (Blk.set_ (bo_389.out) 0 (.bool V2)) 1 (.slice A9 n9 c9))
      obtain ⟨w402, hw403⟩ : ∃ w', w' = (((w381).setCell ⟨g379, 0, none⟩ (.bool V2)).setCell ⟨g379, 1, none⟩ (.slice A9 n9 c9)) := ⟨_, rfl⟩
      rw [← hw403] at k394 k395 k396 k397 k398 k399 k400 k401
      rw [← hw403]
      clear hw403 v390 f391 v392 f393 hlt_
      refine hK.out _ _ k399.out (fun _ => ?_); clear hK K
      try simp only [Act.put, qsA, qsZ, qsS]
      refine' twH 10 k399.out ?_
      try simp only [Act.put, qsA, qsZ, qsS]
      refine wpAnyH_done (by kernel_rfl) ?_ _
      obtain ⟨z_1059, z_1060, z_1061⟩ := at3 k395
      obtain ⟨z_1062, z_1063, z_1064⟩ := at3 k396
      obtain ⟨z_1065, z_1066, z_1067, z_1068⟩ := at4 k397
      obtain ⟨z_1069, z_1070⟩ := at2 k398
      obtain ⟨z_1071, z_1072, z_1073, z_1074, z_1075, z_1076, z_1077, z_1078, z_1079, z_1080⟩ := at10 k399
      obtain ⟨z_1081, z_1082⟩ := at2 k401
      have fz_1083 : (w402).frozen? ⟨w.heap.size + 1 + 1 + 1, 0, none⟩ = false := Blk.frozen k398.out 0
      have fz_1084 : (w402).frozen? ⟨w.heap.size + 1 + 1 + 1, 1, none⟩ = false := Blk.frozen k398.out 1
      have hlb_ := Blk.lt k398.out
      have HK := Lib.hid (And.intro (k398.out) (And.intro k394.out k400.out))
      go_wp2
      obtain ⟨bz_, bel_, z_⟩ := HK.out
      refine bodyPost_ret (v := .tuple #[.agg #[.bool V2, .slice A9 n9 c9], .bool V3, .int .i64 0]) (by simp [results, Tryz.results33, go_sem, z_1059, z_1060, z_1061, z_1062, z_1063, z_1064, z_1065, z_1066, z_1067, z_1068, z_1069, z_1070, z_1071, z_1072, z_1073, z_1074, z_1075, z_1076, z_1077, z_1078, z_1079, z_1080, z_1081, z_1082, fz_1083, fz_1084]) rfl ?_
      exact ⟨A9, n9, c9, rfl, rdI_setc (rdI_setc z_ ⟨w.heap.size + 1 + 1 + 1, 0, none⟩ (.bool V2) bz_ (by simp)) ⟨w.heap.size + 1 + 1 + 1, 1, none⟩ (.slice A9 n9 c9) (Blk.set_ bz_ 0 (.bool V2)) (by simp), hm9, (by have hsz_ := Below.size bel_; repeat' (first | with_reducible exact bel_ | with_reducible exact Below.refl _ _ | with_reducible refine Below.alloc ?_ ?_ _ | with_reducible refine Below.setCell ?_ ?_ _ | with_reducible refine Below.drew ?_ | with_reducible refine below_setRow ?_ ?_ _ | omega | (simp; done) | (simp; omega)))⟩
     refine rdH rfl (fun K hK => ?_) ?_
     · -- 8: alloc
      replace bel_1 := bH (bH bel_1 hb368) hb371
      replace ra_2 := rH ra_2 hb371
      replace rb_3 := rH rb_3 hb371
      replace rc_4 := rH rc_4 hb371
      replace rd_5 := rH rd_5 hb371
      replace ba_6 := kH (kH ba_6 hb368) hb371
      replace bb_7 := kH (kH bb_7 hb368) hb371
      replace bp_8 := kH (kH bp_8 hb368) hb371
      replace bz_9 := kH (kH bz_9 hb368) hb371
      replace l1_369 := rH l1_369 hb371
      go_simp
      have lb409 := Lib.hid (bel_1.out.size)
      have ne410 := Lib.hid (Nat.ne_of_lt (Blk.lt ba_6.out))
      have ne411 := Lib.hid (Nat.ne_of_lt (Blk.lt bb_7.out))
      have ne412 := Lib.hid (Nat.ne_of_lt (Blk.lt bp_8.out))
      have ne413 := Lib.hid (Nat.ne_of_lt (Blk.lt bz_9.out))
      have ne414 := Lib.hid (Nat.ne_of_lt (Blk.lt bq_36.out))
      obtain ⟨o_, ho_⟩ : ∃ o, o = (.cells #[.bool false, .slice none 0 0] 33 : Obj) := ⟨_, rfl⟩
      replace bel_1 := bA bel_1 o_
      replace ra_2 := rA ra_2 o_
      replace rb_3 := rA rb_3 o_
      replace rc_4 := rA rc_4 o_
      replace rd_5 := rA rd_5 o_
      replace ba_6 := kA ba_6 o_
      replace bb_7 := kA bb_7 o_
      replace bp_8 := kA bp_8 o_
      replace bz_9 := kA bz_9 o_
      replace bq_36 := kA bq_36 o_
      replace l1_369 := rA l1_369 o_
      replace l2_372 := rA l2_372 o_
      subst ho_
      have bo_415 := Lib.hid (Blk.new (w370) 33 #[.bool false, .slice none 0 0])
      obtain ⟨g405, hg406⟩ : ∃ g, g = (w370).heap.size := ⟨_, rfl⟩
      obtain ⟨w407, hw408⟩ : ∃ w', w' = (w370).alloc (.cells #[.bool false, .slice none 0 0] 33) := ⟨_, rfl⟩
      rw [← hw408] at bel_1 ra_2 rb_3 rc_4 rd_5 ba_6 bb_7 bp_8 bz_9 bq_36 l1_369 l2_372 bo_415
      rw [← hg406] at lb409 ne410 ne411 ne412 ne413 ne414 bo_415
      rw [← hg406, ← hw408]
      clear hg406 hw408
      refine hK.out _ _ bq_36.out (fun _ => ?_); clear hK K
      try simp only [Act.put, qsA, qsZ, qsS]
      refine oneH 4 rfl fun K hK => ?_
      go_simp
      go_at_call 80
      refine (flawIn_wide _ _ A21 A22 n21 k21 n22 k22 _ _ _ l1_369.out l2_372.out HL1.out HL2.out _ HV.out).mono ?_
      rintro e w416 ⟨A9, n9, c9, rfl, hz9, hm9, hb417⟩
      dsimp only
      replace hb417 := Lib.hid hb417
      have z9_418 := Lib.hid (hz9)
      replace bq_36 := kH bq_36 hb417
      refine hK.out _ _ bq_36.out (fun _ => ?_); clear hK K
      try simp only [Act.put, qsA, qsZ, qsS]
      refine' twH 5 bq_36.out ?_
      refine' twH 6 bq_36.out ?_
      refine' twH 7 bq_36.out ?_
      try simp only [Act.put, qsA, qsZ, qsS]
      refine oneH 9 rfl fun K hK => ?_
      replace bo_415 := kH bo_415 hb417
      replace bel_1 := bH bel_1 hb417
      replace ra_2 := rH ra_2 hb417
      replace rb_3 := rH rb_3 hb417
      replace rc_4 := rH rc_4 hb417
      replace rd_5 := rH rd_5 hb417
      replace ba_6 := kH ba_6 hb417
      replace bb_7 := kH bb_7 hb417
      replace bp_8 := kH bp_8 hb417
      replace bz_9 := kH bz_9 hb417
      replace l1_369 := rH l1_369 hb417
      replace l2_372 := rH l2_372 hb417
      have v422 : (w416).cell? ⟨g405, 0, none⟩ = some (.bool false) := Blk.cell (bo_415.out) 0
      have f423 : (w416).frozen? ⟨g405, 0, none⟩ = false := Blk.frozen (bo_415.out) 0
      have v424 : (w416).cell? ⟨g405, 1, none⟩ = some (.slice none 0 0) := Blk.cell (bo_415.out) 1
      have f425 : (w416).frozen? ⟨g405, 1, none⟩ = false := Blk.frozen (bo_415.out) 1
      have hlt_ := Blk.lt (bo_415.out)
      go_simp
      have k426 := Lib.hid (Below.setCell (Below.setCell (bel_1.out) (p := ⟨g405, 0, none⟩) (lb409.out) (.bool V2)) (p := ⟨g405, 1, none⟩) (lb409.out) (.slice A9 n9 c9))
      have k427 := Lib.hid (Blk.far (Blk.far (ba_6.out) (p := ⟨g405, 0, none⟩) (ne410.out) (.bool V2)) (p := ⟨g405, 1, none⟩) (ne410.out) (.slice A9 n9 c9))
      have k428 := Lib.hid (Blk.far (Blk.far (bb_7.out) (p := ⟨g405, 0, none⟩) (ne411.out) (.bool V2)) (p := ⟨g405, 1, none⟩) (ne411.out) (.slice A9 n9 c9))
      have k429 := Lib.hid (Blk.far (Blk.far (bp_8.out) (p := ⟨g405, 0, none⟩) (ne412.out) (.bool V2)) (p := ⟨g405, 1, none⟩) (ne412.out) (.slice A9 n9 c9))
      have k430 := Lib.hid (Blk.far (Blk.far (bz_9.out) (p := ⟨g405, 0, none⟩) (ne413.out) (.bool V2)) (p := ⟨g405, 1, none⟩) (ne413.out) (.slice A9 n9 c9))
      have k431 := Lib.hid (Blk.far (Blk.far (bq_36.out) (p := ⟨g405, 0, none⟩) (ne414.out) (.bool V2)) (p := ⟨g405, 1, none⟩) (ne414.out) (.slice A9 n9 c9))
      have k432 := Lib.hid (Blk.set_ (Blk.set_ (bo_415.out) 0 (.bool V2)) 1 (.slice A9 n9 c9))
      have k433 := Lib.hid (rdI_setc (rdI_setc (z9_418.out) ⟨g405, 0, none⟩ (.bool V2) (bo_415.out) (by simp)) ⟨g405, 1, none⟩ (.slice A9 n9 c9) (Blk.set_ (bo_415.out) 0 (.bool V2)) (by simp))
      obtain ⟨w434, hw435⟩ : ∃ w', w' = (((w416).setCell ⟨g405, 0, none⟩ (.bool V2)).setCell ⟨g405, 1, none⟩ (.slice A9 n9 c9)) := ⟨_, rfl⟩
      rw [← hw435] at k426 k427 k428 k429 k430 k431 k432 k433
      rw [← hw435]
      clear hw435 v422 f423 v424 f425 hlt_
      refine hK.out _ _ k431.out (fun _ => ?_); clear hK K
      try simp only [Act.put, qsA, qsZ, qsS]
      refine' twH 10 k431.out ?_
      try simp only [Act.put, qsA, qsZ, qsS]
      refine wpAnyH_done (by kernel_rfl) ?_ _
      obtain ⟨z_1059, z_1060, z_1061⟩ := at3 k427
      obtain ⟨z_1062, z_1063, z_1064⟩ := at3 k428
      obtain ⟨z_1065, z_1066, z_1067, z_1068⟩ := at4 k429
      obtain ⟨z_1069, z_1070⟩ := at2 k430
      obtain ⟨z_1071, z_1072, z_1073, z_1074, z_1075, z_1076, z_1077, z_1078, z_1079, z_1080⟩ := at10 k431
      obtain ⟨z_1081, z_1082⟩ := at2 k432
      have fz_1083 : (w434).frozen? ⟨w.heap.size + 1 + 1 + 1, 0, none⟩ = false := Blk.frozen k430.out 0
      have fz_1084 : (w434).frozen? ⟨w.heap.size + 1 + 1 + 1, 1, none⟩ = false := Blk.frozen k430.out 1
      have hlb_ := Blk.lt k430.out
      have HK := Lib.hid (And.intro (k430.out) (And.intro k426.out k433.out))
      go_wp2
      obtain ⟨bz_, bel_, z_⟩ := HK.out
      refine bodyPost_ret (v := .tuple #[.agg #[.bool V2, .slice A9 n9 c9], .bool V3, .int .i64 0]) (by simp [results, Tryz.results33, go_sem, z_1059, z_1060, z_1061, z_1062, z_1063, z_1064, z_1065, z_1066, z_1067, z_1068, z_1069, z_1070, z_1071, z_1072, z_1073, z_1074, z_1075, z_1076, z_1077, z_1078, z_1079, z_1080, z_1081, z_1082, fz_1083, fz_1084]) rfl ?_
      exact ⟨A9, n9, c9, rfl, rdI_setc (rdI_setc z_ ⟨w.heap.size + 1 + 1 + 1, 0, none⟩ (.bool V2) bz_ (by simp)) ⟨w.heap.size + 1 + 1 + 1, 1, none⟩ (.slice A9 n9 c9) (Blk.set_ bz_ 0 (.bool V2)) (by simp), hm9, (by have hsz_ := Below.size bel_; repeat' (first | with_reducible exact bel_ | with_reducible exact Below.refl _ _ | with_reducible refine Below.alloc ?_ ?_ _ | with_reducible refine Below.setCell ?_ ?_ _ | with_reducible refine Below.drew ?_ | with_reducible refine below_setRow ?_ ?_ _ | omega | (simp; done) | (simp; omega)))⟩
     exact AllReadyH.nil
    refine rdH rfl (fun K hK => ?_) ?_
    · -- 8: alloc
     replace bel_1 := bH bel_1 hb368
     replace ra_2 := rH ra_2 hb368
     replace rb_3 := rH rb_3 hb368
     replace rc_4 := rH rc_4 hb368
     replace rd_5 := rH rd_5 hb368
     replace ba_6 := kH ba_6 hb368
     replace bb_7 := kH bb_7 hb368
     replace bp_8 := kH bp_8 hb368
     replace bz_9 := kH bz_9 hb368
     go_simp
     have lb441 := Lib.hid (bel_1.out.size)
     have ne442 := Lib.hid (Nat.ne_of_lt (Blk.lt ba_6.out))
     have ne443 := Lib.hid (Nat.ne_of_lt (Blk.lt bb_7.out))
     have ne444 := Lib.hid (Nat.ne_of_lt (Blk.lt bp_8.out))
     have ne445 := Lib.hid (Nat.ne_of_lt (Blk.lt bz_9.out))
     have ne446 := Lib.hid (Nat.ne_of_lt (Blk.lt bq_36.out))
     obtain ⟨o_, ho_⟩ : ∃ o, o = (.cells #[.bool false, .slice none 0 0] 33 : Obj) := ⟨_, rfl⟩
     replace bel_1 := bA bel_1 o_
     replace ra_2 := rA ra_2 o_
     replace rb_3 := rA rb_3 o_
     replace rc_4 := rA rc_4 o_
     replace rd_5 := rA rd_5 o_
     replace ba_6 := kA ba_6 o_
     replace bb_7 := kA bb_7 o_
     replace bp_8 := kA bp_8 o_
     replace bz_9 := kA bz_9 o_
     replace bq_36 := kA bq_36 o_
     replace l1_369 := rA l1_369 o_
     subst ho_
     have bo_447 := Lib.hid (Blk.new (w367) 33 #[.bool false, .slice none 0 0])
     obtain ⟨g437, hg438⟩ : ∃ g, g = (w367).heap.size := ⟨_, rfl⟩
     obtain ⟨w439, hw440⟩ : ∃ w', w' = (w367).alloc (.cells #[.bool false, .slice none 0 0] 33) := ⟨_, rfl⟩
     rw [← hw440] at bel_1 ra_2 rb_3 rc_4 rd_5 ba_6 bb_7 bp_8 bz_9 bq_36 l1_369 bo_447
     rw [← hg438] at lb441 ne442 ne443 ne444 ne445 ne446 bo_447
     rw [← hg438, ← hw440]
     clear hg438 hw440
     refine hK.out _ _ bq_36.out (fun _ => ?_); clear hK K
     try simp only [Act.put, qsA, qsZ, qsS]
     refine oneH 3 rfl fun K hK => ?_
     go_simp
     go_at_call 82
     refine (turns_q c A B n k m j ws ts d C D n2 k2 m2 j2 ws2 ts2 p1 p2 p3 p4 _ ra_2.out rb_3.out hn hm rc_4.out rd_5.out hn2 hm2 HQ1.out).mono ?_
     rintro e w448 ⟨A22, n22, k22, rfl, hr2, hb449⟩
     dsimp only
     replace hb449 := Lib.hid hb449
     have l2_450 := Lib.hid (hr2)
     replace bq_36 := kH bq_36 hb449
     refine hK.out _ _ bq_36.out (fun _ => ?_); clear hK K
     try simp only [Act.put, qsA, qsZ, qsS]
     refine oneH 4 rfl fun K hK => ?_
     replace l1_369 := rH l1_369 hb449
     go_simp
     go_at_call 80
     refine (flawIn_wide _ _ A21 A22 n21 k21 n22 k22 _ _ _ l1_369.out l2_450.out HL1.out HL2.out _ HV.out).mono ?_
     rintro e w451 ⟨A9, n9, c9, rfl, hz9, hm9, hb452⟩
     dsimp only
     replace hb452 := Lib.hid hb452
     have z9_453 := Lib.hid (hz9)
     replace bq_36 := kH bq_36 hb452
     refine hK.out _ _ bq_36.out (fun _ => ?_); clear hK K
     try simp only [Act.put, qsA, qsZ, qsS]
     refine' twH 5 bq_36.out ?_
     refine' twH 6 bq_36.out ?_
     refine' twH 7 bq_36.out ?_
     try simp only [Act.put, qsA, qsZ, qsS]
     refine oneH 9 rfl fun K hK => ?_
     replace bo_447 := kH (kH bo_447 hb449) hb452
     replace bel_1 := bH (bH bel_1 hb449) hb452
     replace ra_2 := rH (rH ra_2 hb449) hb452
     replace rb_3 := rH (rH rb_3 hb449) hb452
     replace rc_4 := rH (rH rc_4 hb449) hb452
     replace rd_5 := rH (rH rd_5 hb449) hb452
     replace ba_6 := kH (kH ba_6 hb449) hb452
     replace bb_7 := kH (kH bb_7 hb449) hb452
     replace bp_8 := kH (kH bp_8 hb449) hb452
     replace bz_9 := kH (kH bz_9 hb449) hb452
     replace l1_369 := rH l1_369 hb452
     replace l2_450 := rH l2_450 hb452
     have v457 : (w451).cell? ⟨g437, 0, none⟩ = some (.bool false) := Blk.cell (bo_447.out) 0
     have f458 : (w451).frozen? ⟨g437, 0, none⟩ = false := Blk.frozen (bo_447.out) 0
     have v459 : (w451).cell? ⟨g437, 1, none⟩ = some (.slice none 0 0) := Blk.cell (bo_447.out) 1
     have f460 : (w451).frozen? ⟨g437, 1, none⟩ = false := Blk.frozen (bo_447.out) 1
     have hlt_ := Blk.lt (bo_447.out)
     go_simp
     have k461 := Lib.hid (Below.setCell (Below.setCell (bel_1.out) (p := ⟨g437, 0, none⟩) (lb441.out) (.bool V2)) (p := ⟨g437, 1, none⟩) (lb441.out) (.slice A9 n9 c9))
     have k462 := Lib.hid (Blk.far (Blk.far (ba_6.out) (p := ⟨g437, 0, none⟩) (ne442.out) (.bool V2)) (p := ⟨g437, 1, none⟩) (ne442.out) (.slice A9 n9 c9))
     have k463 := Lib.hid (Blk.far (Blk.far (bb_7.out) (p := ⟨g437, 0, none⟩) (ne443.out) (.bool V2)) (p := ⟨g437, 1, none⟩) (ne443.out) (.slice A9 n9 c9))
     have k464 := Lib.hid (Blk.far (Blk.far (bp_8.out) (p := ⟨g437, 0, none⟩) (ne444.out) (.bool V2)) (p := ⟨g437, 1, none⟩) (ne444.out) (.slice A9 n9 c9))
     have k465 := Lib.hid (Blk.far (Blk.far (bz_9.out) (p := ⟨g437, 0, none⟩) (ne445.out) (.bool V2)) (p := ⟨g437, 1, none⟩) (ne445.out) (.slice A9 n9 c9))
     have k466 := Lib.hid (Blk.far (Blk.far (bq_36.out) (p := ⟨g437, 0, none⟩) (ne446.out) (.bool V2)) (p := ⟨g437, 1, none⟩) (ne446.out) (.slice A9 n9 c9))
     have k467 := Lib.hid (Blk.set_ (Blk.set_ (bo_447.out) 0 (.bool V2)) 1 (.slice A9 n9 c9))
     have k468 := Lib.hid (rdI_setc (rdI_setc (z9_453.out) ⟨g437, 0, none⟩ (.bool V2) (bo_447.out) (by simp)) ⟨g437, 1, none⟩ (.slice A9 n9 c9) (Blk.set_ (bo_447.out) 0 (.bool V2)) (by simp))
     obtain ⟨w469, hw470⟩ : ∃ w', w' = (((w451).setCell ⟨g437, 0, none⟩ (.bool V2)).setCell ⟨g437, 1, none⟩ (.slice A9 n9 c9)) := ⟨_, rfl⟩
     rw [← hw470] at k461 k462 k463 k464 k465 k466 k467 k468
     rw [← hw470]
     clear hw470 v457 f458 v459 f460 hlt_
     refine hK.out _ _ k466.out (fun _ => ?_); clear hK K
     try simp only [Act.put, qsA, qsZ, qsS]
     refine' twH 10 k466.out ?_
     try simp only [Act.put, qsA, qsZ, qsS]
     refine wpAnyH_done (by kernel_rfl) ?_ _
     obtain ⟨z_1059, z_1060, z_1061⟩ := at3 k462
     obtain ⟨z_1062, z_1063, z_1064⟩ := at3 k463
     obtain ⟨z_1065, z_1066, z_1067, z_1068⟩ := at4 k464
     obtain ⟨z_1069, z_1070⟩ := at2 k465
     obtain ⟨z_1071, z_1072, z_1073, z_1074, z_1075, z_1076, z_1077, z_1078, z_1079, z_1080⟩ := at10 k466
     obtain ⟨z_1081, z_1082⟩ := at2 k467
     have fz_1083 : (w469).frozen? ⟨w.heap.size + 1 + 1 + 1, 0, none⟩ = false := Blk.frozen k465.out 0
     have fz_1084 : (w469).frozen? ⟨w.heap.size + 1 + 1 + 1, 1, none⟩ = false := Blk.frozen k465.out 1
     have hlb_ := Blk.lt k465.out
     have HK := Lib.hid (And.intro (k465.out) (And.intro k461.out k468.out))
     go_wp2
     obtain ⟨bz_, bel_, z_⟩ := HK.out
     refine bodyPost_ret (v := .tuple #[.agg #[.bool V2, .slice A9 n9 c9], .bool V3, .int .i64 0]) (by simp [results, Tryz.results33, go_sem, z_1059, z_1060, z_1061, z_1062, z_1063, z_1064, z_1065, z_1066, z_1067, z_1068, z_1069, z_1070, z_1071, z_1072, z_1073, z_1074, z_1075, z_1076, z_1077, z_1078, z_1079, z_1080, z_1081, z_1082, fz_1083, fz_1084]) rfl ?_
     exact ⟨A9, n9, c9, rfl, rdI_setc (rdI_setc z_ ⟨w.heap.size + 1 + 1 + 1, 0, none⟩ (.bool V2) bz_ (by simp)) ⟨w.heap.size + 1 + 1 + 1, 1, none⟩ (.slice A9 n9 c9) (Blk.set_ bz_ 0 (.bool V2)) (by simp), hm9, (by have hsz_ := Below.size bel_; repeat' (first | with_reducible exact bel_ | with_reducible exact Below.refl _ _ | with_reducible refine Below.alloc ?_ ?_ _ | with_reducible refine Below.setCell ?_ ?_ _ | with_reducible refine Below.drew ?_ | with_reducible refine below_setRow ?_ ?_ _ | omega | (simp; done) | (simp; omega)))⟩
    exact AllReadyH.nil
   refine rdH rfl (fun K hK => ?_) ?_
   · -- 8: alloc
    go_simp
    have lb476 := Lib.hid (bel_1.out.size)
    have ne477 := Lib.hid (Nat.ne_of_lt (Blk.lt ba_6.out))
    have ne478 := Lib.hid (Nat.ne_of_lt (Blk.lt bb_7.out))
    have ne479 := Lib.hid (Nat.ne_of_lt (Blk.lt bp_8.out))
    have ne480 := Lib.hid (Nat.ne_of_lt (Blk.lt bz_9.out))
    have ne481 := Lib.hid (Nat.ne_of_lt (Blk.lt bq_36.out))
    obtain ⟨o_, ho_⟩ : ∃ o, o = (.cells #[.bool false, .slice none 0 0] 33 : Obj) := ⟨_, rfl⟩
    replace bel_1 := bA bel_1 o_
    replace ra_2 := rA ra_2 o_
    replace rb_3 := rA rb_3 o_
    replace rc_4 := rA rc_4 o_
    replace rd_5 := rA rd_5 o_
    replace ba_6 := kA ba_6 o_
    replace bb_7 := kA bb_7 o_
    replace bp_8 := kA bp_8 o_
    replace bz_9 := kA bz_9 o_
    replace bq_36 := kA bq_36 o_
    subst ho_
    have bo_482 := Lib.hid (Blk.new (w363) 33 #[.bool false, .slice none 0 0])
    obtain ⟨g472, hg473⟩ : ∃ g, g = (w363).heap.size := ⟨_, rfl⟩
    obtain ⟨w474, hw475⟩ : ∃ w', w' = (w363).alloc (.cells #[.bool false, .slice none 0 0] 33) := ⟨_, rfl⟩
    rw [← hw475] at bel_1 ra_2 rb_3 rc_4 rd_5 ba_6 bb_7 bp_8 bz_9 bq_36 bo_482
    rw [← hg473] at lb476 ne477 ne478 ne479 ne480 ne481 bo_482
    rw [← hg473, ← hw475]
    clear hg473 hw475
    refine hK.out _ _ bq_36.out (fun _ => ?_); clear hK K
    try simp only [Act.put, qsA, qsZ, qsS]
    refine oneH 1 rfl fun K hK => ?_
    go_simp
    go_at_call 81
    refine (ways_q c A B n k m j ws ts d C D n2 k2 m2 j2 ws2 ts2 p1 p2 p3 p4 _ ra_2.out rb_3.out hn hm rc_4.out rd_5.out hn2 hm2 HQ1.out).mono ?_
    rintro e w483 ⟨A21, n21, k21, rfl, hr1, hb484⟩
    dsimp only
    replace hb484 := Lib.hid hb484
    have l1_485 := Lib.hid (hr1)
    replace bq_36 := kH bq_36 hb484
    refine hK.out _ _ bq_36.out (fun _ => ?_); clear hK K
    try simp only [Act.put, qsA, qsZ, qsS]
    refine oneH 3 rfl fun K hK => ?_
    replace ra_2 := rH ra_2 hb484
    replace rb_3 := rH rb_3 hb484
    replace rc_4 := rH rc_4 hb484
    replace rd_5 := rH rd_5 hb484
    go_simp
    go_at_call 82
    refine (turns_q c A B n k m j ws ts d C D n2 k2 m2 j2 ws2 ts2 p1 p2 p3 p4 _ ra_2.out rb_3.out hn hm rc_4.out rd_5.out hn2 hm2 HQ1.out).mono ?_
    rintro e w486 ⟨A22, n22, k22, rfl, hr2, hb487⟩
    dsimp only
    replace hb487 := Lib.hid hb487
    have l2_488 := Lib.hid (hr2)
    replace bq_36 := kH bq_36 hb487
    refine hK.out _ _ bq_36.out (fun _ => ?_); clear hK K
    try simp only [Act.put, qsA, qsZ, qsS]
    refine oneH 4 rfl fun K hK => ?_
    replace l1_485 := rH l1_485 hb487
    go_simp
    go_at_call 80
    refine (flawIn_wide _ _ A21 A22 n21 k21 n22 k22 _ _ _ l1_485.out l2_488.out HL1.out HL2.out _ HV.out).mono ?_
    rintro e w489 ⟨A9, n9, c9, rfl, hz9, hm9, hb490⟩
    dsimp only
    replace hb490 := Lib.hid hb490
    have z9_491 := Lib.hid (hz9)
    replace bq_36 := kH bq_36 hb490
    refine hK.out _ _ bq_36.out (fun _ => ?_); clear hK K
    try simp only [Act.put, qsA, qsZ, qsS]
    refine' twH 5 bq_36.out ?_
    refine' twH 6 bq_36.out ?_
    refine' twH 7 bq_36.out ?_
    try simp only [Act.put, qsA, qsZ, qsS]
    refine oneH 9 rfl fun K hK => ?_
    replace bo_482 := kH (kH (kH bo_482 hb484) hb487) hb490
    replace bel_1 := bH (bH (bH bel_1 hb484) hb487) hb490
    replace ra_2 := rH (rH ra_2 hb487) hb490
    replace rb_3 := rH (rH rb_3 hb487) hb490
    replace rc_4 := rH (rH rc_4 hb487) hb490
    replace rd_5 := rH (rH rd_5 hb487) hb490
    replace ba_6 := kH (kH (kH ba_6 hb484) hb487) hb490
    replace bb_7 := kH (kH (kH bb_7 hb484) hb487) hb490
    replace bp_8 := kH (kH (kH bp_8 hb484) hb487) hb490
    replace bz_9 := kH (kH (kH bz_9 hb484) hb487) hb490
    replace l1_485 := rH l1_485 hb490
    replace l2_488 := rH l2_488 hb490
    have v495 : (w489).cell? ⟨g472, 0, none⟩ = some (.bool false) := Blk.cell (bo_482.out) 0
    have f496 : (w489).frozen? ⟨g472, 0, none⟩ = false := Blk.frozen (bo_482.out) 0
    have v497 : (w489).cell? ⟨g472, 1, none⟩ = some (.slice none 0 0) := Blk.cell (bo_482.out) 1
    have f498 : (w489).frozen? ⟨g472, 1, none⟩ = false := Blk.frozen (bo_482.out) 1
    have hlt_ := Blk.lt (bo_482.out)
    go_simp
    have k499 := Lib.hid (Below.setCell (Below.setCell (bel_1.out) (p := ⟨g472, 0, none⟩) (lb476.out) (.bool V2)) (p := ⟨g472, 1, none⟩) (lb476.out) (.slice A9 n9 c9))
    have k500 := Lib.hid (Blk.far (Blk.far (ba_6.out) (p := ⟨g472, 0, none⟩) (ne477.out) (.bool V2)) (p := ⟨g472, 1, none⟩) (ne477.out) (.slice A9 n9 c9))
    have k501 := Lib.hid (Blk.far (Blk.far (bb_7.out) (p := ⟨g472, 0, none⟩) (ne478.out) (.bool V2)) (p := ⟨g472, 1, none⟩) (ne478.out) (.slice A9 n9 c9))
    have k502 := Lib.hid (Blk.far (Blk.far (bp_8.out) (p := ⟨g472, 0, none⟩) (ne479.out) (.bool V2)) (p := ⟨g472, 1, none⟩) (ne479.out) (.slice A9 n9 c9))
    have k503 := Lib.hid (Blk.far (Blk.far (bz_9.out) (p := ⟨g472, 0, none⟩) (ne480.out) (.bool V2)) (p := ⟨g472, 1, none⟩) (ne480.out) (.slice A9 n9 c9))
    have k504 := Lib.hid (Blk.far (Blk.far (bq_36.out) (p := ⟨g472, 0, none⟩) (ne481.out) (.bool V2)) (p := ⟨g472, 1, none⟩) (ne481.out) (.slice A9 n9 c9))
    have k505 := Lib.hid (Blk.set_ (Blk.set_ (bo_482.out) 0 (.bool V2)) 1 (.slice A9 n9 c9))
    have k506 := Lib.hid (rdI_setc (rdI_setc (z9_491.out) ⟨g472, 0, none⟩ (.bool V2) (bo_482.out) (by simp)) ⟨g472, 1, none⟩ (.slice A9 n9 c9) (Blk.set_ (bo_482.out) 0 (.bool V2)) (by simp))
    obtain ⟨w507, hw508⟩ : ∃ w', w' = (((w489).setCell ⟨g472, 0, none⟩ (.bool V2)).setCell ⟨g472, 1, none⟩ (.slice A9 n9 c9)) := ⟨_, rfl⟩
    rw [← hw508] at k499 k500 k501 k502 k503 k504 k505 k506
    rw [← hw508]
    clear hw508 v495 f496 v497 f498 hlt_
    refine hK.out _ _ k504.out (fun _ => ?_); clear hK K
    try simp only [Act.put, qsA, qsZ, qsS]
    refine' twH 10 k504.out ?_
    try simp only [Act.put, qsA, qsZ, qsS]
    refine wpAnyH_done (by kernel_rfl) ?_ _
    obtain ⟨z_1059, z_1060, z_1061⟩ := at3 k500
    obtain ⟨z_1062, z_1063, z_1064⟩ := at3 k501
    obtain ⟨z_1065, z_1066, z_1067, z_1068⟩ := at4 k502
    obtain ⟨z_1069, z_1070⟩ := at2 k503
    obtain ⟨z_1071, z_1072, z_1073, z_1074, z_1075, z_1076, z_1077, z_1078, z_1079, z_1080⟩ := at10 k504
    obtain ⟨z_1081, z_1082⟩ := at2 k505
    have fz_1083 : (w507).frozen? ⟨w.heap.size + 1 + 1 + 1, 0, none⟩ = false := Blk.frozen k503.out 0
    have fz_1084 : (w507).frozen? ⟨w.heap.size + 1 + 1 + 1, 1, none⟩ = false := Blk.frozen k503.out 1
    have hlb_ := Blk.lt k503.out
    have HK := Lib.hid (And.intro (k503.out) (And.intro k499.out k506.out))
    go_wp2
    obtain ⟨bz_, bel_, z_⟩ := HK.out
    refine bodyPost_ret (v := .tuple #[.agg #[.bool V2, .slice A9 n9 c9], .bool V3, .int .i64 0]) (by simp [results, Tryz.results33, go_sem, z_1059, z_1060, z_1061, z_1062, z_1063, z_1064, z_1065, z_1066, z_1067, z_1068, z_1069, z_1070, z_1071, z_1072, z_1073, z_1074, z_1075, z_1076, z_1077, z_1078, z_1079, z_1080, z_1081, z_1082, fz_1083, fz_1084]) rfl ?_
    exact ⟨A9, n9, c9, rfl, rdI_setc (rdI_setc z_ ⟨w.heap.size + 1 + 1 + 1, 0, none⟩ (.bool V2) bz_ (by simp)) ⟨w.heap.size + 1 + 1 + 1, 1, none⟩ (.slice A9 n9 c9) (Blk.set_ bz_ 0 (.bool V2)) (by simp), hm9, (by have hsz_ := Below.size bel_; repeat' (first | with_reducible exact bel_ | with_reducible exact Below.refl _ _ | with_reducible refine Below.alloc ?_ ?_ _ | with_reducible refine Below.setCell ?_ ?_ _ | with_reducible refine Below.drew ?_ | with_reducible refine below_setRow ?_ ?_ _ | omega | (simp; done) | (simp; omega)))⟩
   exact AllReadyH.nil
 · rw [if_neg hq]
   obtain ⟨q, hq2⟩ : ∃ q, asked ⟨c, ws, ts⟩ ⟨d, ws2, ts2⟩ ⟨p1, p2, p3, p4⟩ = q := ⟨_, rfl⟩
   rw [hq2] at hq
   rw [hq2]
   have hne := hq
   have hqe : (q != 0) = true := by simpa using hq
   clear hq
   have hq := hq2; clear hq2
   unfold RetFE
   dsimp only
   go_enter Tryz.func33, Tryz.ntmps33
   have bel_1 := Lib.hid (show Below w.heap.size w w from Below.refl _ w)
   have ra_2 := Lib.hid (h1)
   clear h1
   have rb_3 := Lib.hid (h2)
   clear h2
   have rc_4 := Lib.hid (h3)
   clear h3
   have rd_5 := Lib.hid (h4)
   clear h4
   obtain ⟨o_, ho_⟩ : ∃ o, o = ((.cells #[.int .i64 c, .slice A n k, .slice B m j] 24) : Obj) := ⟨_, rfl⟩
   replace bel_1 := bA bel_1 o_
   replace ra_2 := rA ra_2 o_
   replace rb_3 := rA rb_3 o_
   replace rc_4 := rA rc_4 o_
   replace rd_5 := rA rd_5 o_
   subst ho_
   have ba_6 := Lib.hid (Blk.new w 24 #[.int .i64 c, .slice A n k, .slice B m j])
   obtain ⟨o_, ho_⟩ : ∃ o, o = ((.cells #[.int .i64 d, .slice C n2 k2, .slice D m2 j2] 24) : Obj) := ⟨_, rfl⟩
   replace bel_1 := bA bel_1 o_
   replace ra_2 := rA ra_2 o_
   replace rb_3 := rA rb_3 o_
   replace rc_4 := rA rc_4 o_
   replace rd_5 := rA rd_5 o_
   replace ba_6 := kA ba_6 o_
   subst ho_
   have nb_ := Blk.new (w.alloc (.cells #[.int .i64 c, .slice A n k, .slice B m j] 24)) 24 #[.int .i64 d, .slice C n2 k2, .slice D m2 j2]
   simp only [World.size_alloc] at nb_
   have bb_7 := Lib.hid nb_; clear nb_
   obtain ⟨o_, ho_⟩ : ∃ o, o = ((.cells #[.int .i64 p1, .int .i64 p2, .int .i64 p3, .int .i64 p4] 28) : Obj) := ⟨_, rfl⟩
   replace bel_1 := bA bel_1 o_
   replace ra_2 := rA ra_2 o_
   replace rb_3 := rA rb_3 o_
   replace rc_4 := rA rc_4 o_
   replace rd_5 := rA rd_5 o_
   replace ba_6 := kA ba_6 o_
   replace bb_7 := kA bb_7 o_
   subst ho_
   have nb_ := Blk.new ((w.alloc (.cells #[.int .i64 c, .slice A n k, .slice B m j] 24)).alloc (.cells #[.int .i64 d, .slice C n2 k2, .slice D m2 j2] 24)) 28 #[.int .i64 p1, .int .i64 p2, .int .i64 p3, .int .i64 p4]
   simp only [World.size_alloc] at nb_
   have bp_8 := Lib.hid nb_; clear nb_
   obtain ⟨o_, ho_⟩ : ∃ o, o = ((.cells #[.bool false, .slice none 0 0] 33) : Obj) := ⟨_, rfl⟩
   replace bel_1 := bA bel_1 o_
   replace ra_2 := rA ra_2 o_
   replace rb_3 := rA rb_3 o_
   replace rc_4 := rA rc_4 o_
   replace rd_5 := rA rd_5 o_
   replace ba_6 := kA ba_6 o_
   replace bb_7 := kA bb_7 o_
   replace bp_8 := kA bp_8 o_
   subst ho_
   have nb_ := Blk.new (((w.alloc (.cells #[.int .i64 c, .slice A n k, .slice B m j] 24)).alloc (.cells #[.int .i64 d, .slice C n2 k2, .slice D m2 j2] 24)).alloc (.cells #[.int .i64 p1, .int .i64 p2, .int .i64 p3, .int .i64 p4] 28)) 33 #[.bool false, .slice none 0 0]
   simp only [World.size_alloc] at nb_
   have bz_9 := Lib.hid nb_; clear nb_
   obtain ⟨z_10, z_11, z_12⟩ := at3 ba_6
   obtain ⟨z_13, z_14, z_15⟩ := at3 bb_7
   obtain ⟨z_16, z_17, z_18, z_19⟩ := at4 bp_8
   obtain ⟨z_20, z_21⟩ := at2 bz_9
   have hc := pairOf_no c A B n k m j ws ts d C D n2 k2 m2 j2 ws2 ts2 p1 p2 p3 p4 _ ra_2.out rb_3.out hn hm rc_4.out rd_5.out hn2 hm2 q hq hne
   have HC := Lib.hid hc; clear hc
   go_wp2_with fail
   refine HC.out.mono ?_
   rintro e w_22 ⟨rfl, hb⟩
   clear HC
   clear z_10 z_11 z_12 z_13 z_14 z_15 z_16 z_17 z_18 z_19 z_20 z_21
   have hb_23 := Lib.hid hb
   clear hb
   replace ba_6 := kH ba_6 hb_23
   obtain ⟨z_24, z_25, z_26⟩ := at3 ba_6
   replace bb_7 := kH bb_7 hb_23
   obtain ⟨z_27, z_28, z_29⟩ := at3 bb_7
   replace bp_8 := kH bp_8 hb_23
   obtain ⟨z_30, z_31, z_32, z_33⟩ := at4 bp_8
   replace bz_9 := kH bz_9 hb_23
   obtain ⟨z_34, z_35⟩ := at2 bz_9
   clear z_24 z_25 z_26 z_27 z_28 z_29 z_30 z_31 z_32 z_33 z_34 z_35
   obtain ⟨o_, ho_⟩ : ∃ o, o = ((.cells #[.int .i64 0, .slice none 0 0, .slice none 0 0, .int .i64 0, .slice none 0 0, .slice none 0 0, .int .i64 0, .int .i64 0, .int .i64 0, .int .i64 0] 101) : Obj) := ⟨_, rfl⟩
   replace bel_1 := bA (bH bel_1 hb_23) o_
   replace ra_2 := rA (rH ra_2 hb_23) o_
   replace rb_3 := rA (rH rb_3 hb_23) o_
   replace rc_4 := rA (rH rc_4 hb_23) o_
   replace rd_5 := rA (rH rd_5 hb_23) o_
   replace ba_6 := kA ba_6 o_
   replace bb_7 := kA bb_7 o_
   replace bp_8 := kA bp_8 o_
   replace bz_9 := kA bz_9 o_
   subst ho_
   have bq_36 := Lib.hid (Blk.new w_22 101 #[.int .i64 0, .slice none 0 0, .slice none 0 0, .int .i64 0, .slice none 0 0, .slice none 0 0, .int .i64 0, .int .i64 0, .int .i64 0, .int .i64 0])
   obtain ⟨z_37, z_38, z_39⟩ := at3 ba_6
   obtain ⟨z_40, z_41, z_42⟩ := at3 bb_7
   obtain ⟨z_43, z_44, z_45, z_46⟩ := at4 bp_8
   obtain ⟨z_47, z_48⟩ := at2 bz_9
   obtain ⟨z_49, z_50, z_51, z_52, z_53, z_54, z_55, z_56, z_57, z_58⟩ := at10 bq_36
   have fz_59 : ((w_22.alloc (.cells #[.int .i64 0, .slice none 0 0, .slice none 0 0, .int .i64 0, .slice none 0 0, .slice none 0 0, .int .i64 0, .int .i64 0, .int .i64 0, .int .i64 0] 101))).frozen? ⟨w.heap.size + 1 + 1 + 1, 0, none⟩ = false := Blk.frozen bz_9.out 0
   have fz_60 : ((w_22.alloc (.cells #[.int .i64 0, .slice none 0 0, .slice none 0 0, .int .i64 0, .slice none 0 0, .slice none 0 0, .int .i64 0, .int .i64 0, .int .i64 0, .int .i64 0] 101))).frozen? ⟨w.heap.size + 1 + 1 + 1, 1, none⟩ = false := Blk.frozen bz_9.out 1
   have hlb_ := Blk.lt bz_9.out
   have HK := Lib.hid (bel_1.out)
   go_wp2
   have bel_ := HK.out
   refine bodyPost_ret (v := .tuple #[.agg #[.bool false, .slice none 0 0], .bool false, .int .i64 q]) (by simp [results, Tryz.results33, go_sem, z_37, z_38, z_39, z_40, z_41, z_42, z_43, z_44, z_45, z_46, z_47, z_48, z_49, z_50, z_51, z_52, z_53, z_54, z_55, z_56, z_57, z_58, fz_59, fz_60]) rfl ?_
   exact ⟨none, 0, 0, rfl, RdI.nil_ _, by unfold maxLen; omega, (by have hsz_ := Below.size bel_; repeat' (first | with_reducible exact bel_ | with_reducible exact Below.refl _ _ | with_reducible refine Below.alloc ?_ ?_ _ | with_reducible refine Below.setCell ?_ ?_ _ | with_reducible refine Below.drew ?_ | with_reducible refine below_setRow ?_ ?_ _ | omega | (simp; done) | (simp; omega)))⟩
end Go.Proofs.YtaoanagmgheicaaGreat
