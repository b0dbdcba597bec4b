import Derived.Test.YtjjmifcjailpaaaGreatTCircle
import Derived.Test.YtjjmifcjailpaaaGreatTESols
set_option maxHeartbeats 4000000
set_option linter.unusedSimpArgs false
set_option linter.unusedVariables false
namespace Go.Proofs.YtjjmifcjailpaaaGreat
open Go.RowKit
def circleV (p : Int) (l : List Bnd) : List Int × Bool × Int :=
 if gcode p l [] = 0 then (circleL l p.toNat, (circleO l p.toNat).isSome, 0) else ([], false, gcode p l [])
theorem Circle_any (p : Int) (A : Option Addr) (n c : Nat) (l : List Bnd) (w : World) (hr : RdB w A n c l) (hn : n ≤ maxLen) :
 Calls Tryz.prog 83 #[.agg #[.int .i64 p, .slice A n c]] w (RetI (circleV p l) w) := by
 have hB : Below w.heap.size w (w.alloc (.cells #[.int .i64 p, .slice A n c] 84)) := (Below.refl _ w).alloc (Nat.le_refl _) _
 have hc := graphOf_any p A none n c 0 0 l [] _ (hr.below hB) hn (RdI.nil_ _) (by omega)
 have HC := Lib.hid hc; have HR := Lib.hid hr; clear hc hr
 unfold circleV
 by_cases hg : gcode p l [] = 0
 · obtain ⟨hk, -⟩ := gcode_ok hg
   obtain ⟨hp1, hp2, hlen, -⟩ := chk_ok hk
   have hok := okB_of hk
   rw [if_pos hg]
   rw [hg, sysR_yes] at HC
   clear hg hk
   obtain ⟨p, rfl⟩ := Int.eq_ofNat_of_zero_le (show 0 ≤ p by omega)
   rw [Int.toNat_natCast]
   have hn2 : n ≤ 402 := by have := HR.out.len; omega
   have hci := fun w' hw' => circle_any p A n c l (by omega) hn2 hok w' (HR.out.below hw')
   unfold RetB at hci
   generalize circleL l p = V at *
   generalize (circleO l p).isSome = ok at *
   have HCI := Lib.hid hci; clear hci hok
   go_enter Tryz.func83, Tryz.ntmps83
   go_wp2_with fail
   refine HC.out.mono ?_
   rintro e w1 ⟨rfl, hb1⟩
   have hB1 := hB.trans (hb1.mono hB.size)
   go_wp2_with fail
   refine (HCI.out _ (hB1.alloc hB1.size _)).mono ?_
   rintro e w2 ⟨A2, n2, c2, rfl, ho, hb2⟩
   have HO := Lib.hid ho; clear ho
   have hB2 := (hB1.alloc hB1.size (.cells #[.int .i64 (p : Int), .slice A n c] 128)).trans (hb2.mono (hB1.alloc hB1.size _).size)
   go_wp2
   go_ret3
   exact ⟨A2, n2, c2, rfl, owns_base HO.out (hB1.alloc hB1.size _).size, hB2⟩
 · rw [if_neg hg]
   generalize gcode p l [] = q at *
   rw [sysR_no hg] at HC
   have hne : (q != 0) = true := by simpa using hg
   clear hg
   go_enter Tryz.func83, Tryz.ntmps83
   go_wp2_with fail
   refine HC.out.mono ?_
   rintro e w1 ⟨rfl, hb1⟩
   have hB1 := hB.trans (hb1.mono hB.size)
   go_wp2
   go_ret3
   exact ⟨none, 0, 0, rfl, OwnI.nil_ _ _, (by have hsz_ := Below.size hB1; repeat' (first | with_reducible exact hB1 | with_reducible exact Below.refl _ _ | with_reducible refine Below.alloc ?_ ?_ _ | with_reducible refine Below.setCell ?_ ?_ _ | with_reducible refine Below.drew ?_ | with_reducible refine below_setRow ?_ ?_ _ | omega | (simp; done) | (simp; omega)))⟩
end Go.Proofs.YtjjmifcjailpaaaGreat
set_option linter.unusedSimpArgs false
set_option linter.unusedVariables false
namespace Go.Proofs.YtjjmifcjailpaaaGreat
open Go.RowKit
set_option maxRecDepth 100000 in
theorem meets_q (c : Int) (A B : Option Addr) (n k m j : Nat) (ws ts : List Bnd) (d : Int) (C D : Option Addr) (n2 k2 m2 j2 : Nat) (ws2 ts2 : List Bnd) (p1 p2 p3 p4 : Int) (w : World) (h1 : RdB w A n k ws) (h2 : RdB w B m j ts) (hn : n ≤ maxLen) (hm : m ≤ maxLen) (h3 : RdB w C n2 k2 ws2) (h4 : RdB w D m2 j2 ts2) (hn2 : n2 ≤ maxLen) (hm2 : m2 ≤ maxLen) (hq : asked ⟨c, ws, ts⟩ ⟨d, ws2, ts2⟩ ⟨p1, p2, p3, p4⟩ = 0) :
 Calls Tryz.prog 37 #[.agg #[.int .i64 c, .slice A n k, .slice B m j, .int .i64 d, .slice C n2 k2, .slice D m2 j2, .int .i64 p1, .int .i64 p2, .int .i64 p3, .int .i64 p4]] w fun e w' => e = .returned (.bool (meetsB ⟨c, ws, ts⟩ ⟨d, ws2, ts2⟩ ⟨p1, p2, p3, p4⟩)) ∧ Below w.heap.size w w' := by
  go_enter Tryz.func37, Tryz.ntmps37
  obtain ⟨a2, a0⟩ := ent1 w #[.int .i64 c, .slice A n k, .slice B m j, .int .i64 d, .slice C n2 k2, .slice D m2 j2, .int .i64 p1, .int .i64 p2, .int .i64 p3, .int .i64 p4] 74
  have a3 := rI h1 a0
  have a4 := rI h2 a0
  have a5 := rI h3 a0
  have a6 := rI h4 a0
  clear h1 h2 h3 h4
  obtain ⟨b4, b5, b6, a7, a8, a9, b0, b1, b2, b3⟩ := at10 a2
  have hc := solutions_any c A B n k m j ws ts d C D n2 k2 m2 j2 ws2 ts2 p1 p2 p3 p4 _ a3.out a4.out hn hm a5.out a6.out hn2 hm2 hq _ _ rfl rfl
  unfold RetM at hc
  have hc := hc
  have HC := Lib.hid hc; clear hc
  go_wp2_with fail
  refine HC.out.mono ?_
  rintro e b7 ⟨A1, n1, c1, A2, n3, c2, rfl, -, hb⟩
  clear HC
  clear b4 b5 b6 a7 a8 a9 b0 b1 b2 b3
  have a1 := Lib.hid hb
  clear hb
  go_wp2
  go_ret
  replace a0 := bH a0 a1
  exact ⟨rfl, (by have hsz_ := Below.size a0.out; repeat' (first | with_reducible exact a0.out | with_reducible exact Below.refl _ _ | with_reducible refine Below.alloc ?_ ?_ _ | with_reducible refine Below.setCell ?_ ?_ _ | with_reducible refine Below.drew ?_ | with_reducible refine below_setRow ?_ ?_ _ | omega | (simp; done) | (simp; omega)))⟩
def jP (u : Bool) (a b : Otl) (p : Prg) : Int := if u then turnP a b p else wayP a b p
def jL (u : Bool) (a b : Otl) (p : Prg) : List Bnd := if u then turnL a b p else wayL a b p
theorem rdB_set2 {w : World} {A : Option Addr} {n c : Nat} {l : List Bnd} (h : RdB w A n c l) (a b : Addr) (u v : Value) {t : TypeId} {x : Int} {S : Option Addr} {sn sc : Nat} (hb : Blk w a.block t #[.int .i64 x, .slice S sn sc]) (hab : b.block = a.block) : RdB ((w.setCell a u).setCell b v) A n c l := by
 refine ⟨h.len, h.cap, h.nil, ?_⟩
 rcases h.cells with h0 | ⟨k, o, e, hlt, hj⟩
 · exact .inl h0
 · refine .inr ⟨k, o, e, by rw [show ((w.setCell a u).setCell b v).heap.size = w.heap.size by simp]; exact hlt, fun j q hq => ?_⟩
   have h1 := hj j q hq
   by_cases hbb : k = a.block
   · exfalso
     subst hbb
     cases l with
     | nil => simp [bcells] at hq
     | cons y l =>
      have h2 := hj 1 (.int .i64 y.t) (by simp [bcells, Bnd.cells])
      rw [hb.cell] at h2
      cases o with
      | zero => simp at h2
      | succ o => simp at h2
   · rw [World.cell?_of_block (a := ⟨k, o + j, none⟩) ((heap_setCell_other (w.setCell a u) b k v (by rw [hab]; exact hbb)).trans (heap_setCell_other w a k u hbb))]
     exact h1
set_option maxRecDepth 100000 in
theorem joint_q (u : Bool) (c : Int) (A B : Option Addr) (n k m j : Nat) (ws ts : List Bnd) (d : Int) (C D : Option Addr) (n2 k2 m2 j2 : Nat) (ws2 ts2 : List Bnd) (p1 p2 p3 p4 : Int) (w : World) (h1 : RdB w A n k ws) (h2 : RdB w B m j ts) (hn : n ≤ maxLen) (hm : m ≤ maxLen) (h3 : RdB w C n2 k2 ws2) (h4 : RdB w D m2 j2 ts2) (hn2 : n2 ≤ maxLen) (hm2 : m2 ≤ maxLen) (hq : chkP ⟨c, ws, ts⟩ ⟨d, ws2, ts2⟩ ⟨p1, p2, p3, p4⟩ = 0) :
 Calls Tryz.prog 53 #[.agg #[.int .i64 c, .slice A n k, .slice B m j, .int .i64 d, .slice C n2 k2, .slice D m2 j2, .int .i64 p1, .int .i64 p2, .int .i64 p3, .int .i64 p4], .bool u] w fun e w' => ∃ Ar nr kr, e = .returned (.agg #[.int .i64 (jP u ⟨c, ws, ts⟩ ⟨d, ws2, ts2⟩ ⟨p1, p2, p3, p4⟩), .slice Ar nr kr]) ∧ RdB w' Ar nr kr (jL u ⟨c, ws, ts⟩ ⟨d, ws2, ts2⟩ ⟨p1, p2, p3, p4⟩) ∧ Below w.heap.size w w' := by
 cases u
 · unfold jP jL
   simp only [Bool.false_eq_true, if_false]
   go_enter Tryz.func53, Tryz.ntmps53
   obtain ⟨a2, a1, a0⟩ := ent2 w #[.int .i64 c, .slice A n k, .slice B m j, .int .i64 d, .slice C n2 k2, .slice D m2 j2, .int .i64 p1, .int .i64 p2, .int .i64 p3, .int .i64 p4] 74 #[.int .i64 0, .slice none 0 0] 84
   have a8 := rI h1 a0
   have a9 := rI h2 a0
   have b0 := rI h3 a0
   have b1 := rI h4 a0
   clear h1 h2 h3 h4
   obtain ⟨d4, d5, b2, b3, b4, b5, b6, b7, b8, b9⟩ := at10 a2
   obtain ⟨c0, c1⟩ := at2 a1
   have hc := ways_q c A B n k m j ws ts d C D n2 k2 m2 j2 ws2 ts2 p1 p2 p3 p4 _ a8.out a9.out hn hm b0.out b1.out hn2 hm2 hq
   have HC := Lib.hid hc; clear hc
   go_wp2_with fail
   refine HC.out.mono ?_
   rintro e a4 ⟨Ar, nr, kr, rfl, hrd, hb⟩
   clear HC
   clear d4 d5 b2 b3 b4 b5 b6 b7 b8 b9 c0 c1
   have a3 := Lib.hid hb
   clear hb
   have a5 := Lib.hid (hrd)
   clear hrd
   replace a2 := kH a2 a3
   obtain ⟨c2, c3, c4, c5, c6, c7, c8, c9, d0, d1⟩ := at10 a2
   replace a1 := kH a1 a3
   obtain ⟨d2, d3⟩ := at2 a1
   have a6 : (a4).frozen? ⟨w.heap.size + 1, 0, none⟩ = false := Blk.frozen a1.out 0
   have a7 : (a4).frozen? ⟨w.heap.size + 1, 1, none⟩ = false := Blk.frozen a1.out 1
   replace a0 := bH a0 a3
   have hlb_ := Blk.lt a1.out; have bz_ := a1.out; have bel_ := a0.out; have rl_ := a5.out
   have HK := Lib.hid (And.intro bz_ (And.intro bel_ rl_)); clear bz_ bel_ rl_
   go_wp2
   obtain ⟨bz_, bel_, rl_⟩ := HK.out
   refine bodyPost_ret (v := .agg #[.int .i64 (wayP ⟨c, ws, ts⟩ ⟨d, ws2, ts2⟩ ⟨p1, p2, p3, p4⟩), .slice Ar nr kr]) (by simp [results, Tryz.results53, go_sem, c2, c3, c4, c5, c6, c7, c8, c9, d0, d1, d2, d3, a6, a7]) rfl ?_
   exact ⟨Ar, nr, kr, rfl, rdB_set2 rl_ ⟨w.heap.size + 1, 0, none⟩ ⟨w.heap.size + 1, 1, none⟩ (.int .i64 (wayP ⟨c, ws, ts⟩ ⟨d, ws2, ts2⟩ ⟨p1, p2, p3, p4⟩)) (.slice Ar nr kr) bz_ rfl, (by have hsz_ := Below.size bel_; repeat' (first | with_reducible exact bel_ | with_reducible exact Below.refl _ _ | with_reducible refine Below.alloc ?_ ?_ _ | with_reducible refine Below.setCell ?_ ?_ _ | with_reducible refine Below.drew ?_ | with_reducible refine below_setRow ?_ ?_ _ | omega | (simp; done) | (simp; omega)))⟩
 · unfold jP jL
   simp only [if_true]
   go_enter Tryz.func53, Tryz.ntmps53
   obtain ⟨a2, a1, a0⟩ := ent2 w #[.int .i64 c, .slice A n k, .slice B m j, .int .i64 d, .slice C n2 k2, .slice D m2 j2, .int .i64 p1, .int .i64 p2, .int .i64 p3, .int .i64 p4] 74 #[.int .i64 0, .slice none 0 0] 84
   have a8 := rI h1 a0
   have a9 := rI h2 a0
   have b0 := rI h3 a0
   have b1 := rI h4 a0
   clear h1 h2 h3 h4
   obtain ⟨d4, d5, b2, b3, b4, b5, b6, b7, b8, b9⟩ := at10 a2
   obtain ⟨c0, c1⟩ := at2 a1
   have hc := turns_q c A B n k m j ws ts d C D n2 k2 m2 j2 ws2 ts2 p1 p2 p3 p4 _ a8.out a9.out hn hm b0.out b1.out hn2 hm2 hq
   have HC := Lib.hid hc; clear hc
   go_wp2_with fail
   refine HC.out.mono ?_
   rintro e a4 ⟨Ar, nr, kr, rfl, hrd, hb⟩
   clear HC
   clear d4 d5 b2 b3 b4 b5 b6 b7 b8 b9 c0 c1
   have a3 := Lib.hid hb
   clear hb
   have a5 := Lib.hid (hrd)
   clear hrd
   replace a2 := kH a2 a3
   obtain ⟨c2, c3, c4, c5, c6, c7, c8, c9, d0, d1⟩ := at10 a2
   replace a1 := kH a1 a3
   obtain ⟨d2, d3⟩ := at2 a1
   have a6 : (a4).frozen? ⟨w.heap.size + 1, 0, none⟩ = false := Blk.frozen a1.out 0
   have a7 : (a4).frozen? ⟨w.heap.size + 1, 1, none⟩ = false := Blk.frozen a1.out 1
   replace a0 := bH a0 a3
   have hlb_ := Blk.lt a1.out; have bz_ := a1.out; have bel_ := a0.out; have rl_ := a5.out
   have HK := Lib.hid (And.intro bz_ (And.intro bel_ rl_)); clear bz_ bel_ rl_
   go_wp2
   obtain ⟨bz_, bel_, rl_⟩ := HK.out
   refine bodyPost_ret (v := .agg #[.int .i64 (turnP ⟨c, ws, ts⟩ ⟨d, ws2, ts2⟩ ⟨p1, p2, p3, p4⟩), .slice Ar nr kr]) (by simp [results, Tryz.results53, go_sem, c2, c3, c4, c5, c6, c7, c8, c9, d0, d1, d2, d3, a6, a7]) rfl ?_
   exact ⟨Ar, nr, kr, rfl, rdB_set2 rl_ ⟨w.heap.size + 1, 0, none⟩ ⟨w.heap.size + 1, 1, none⟩ (.int .i64 (turnP ⟨c, ws, ts⟩ ⟨d, ws2, ts2⟩ ⟨p1, p2, p3, p4⟩)) (.slice Ar nr kr) bz_ rfl, (by have hsz_ := Below.size bel_; repeat' (first | with_reducible exact bel_ | with_reducible exact Below.refl _ _ | with_reducible refine Below.alloc ?_ ?_ _ | with_reducible refine Below.setCell ?_ ?_ _ | with_reducible refine Below.drew ?_ | with_reducible refine below_setRow ?_ ?_ _ | omega | (simp; done) | (simp; omega)))⟩
def meetsV (a b : Otl) (p : Prg) : Bool × Int := if asked a b p = 0 then (meetsB a b p, 0) else (false, asked a b p)
set_option maxRecDepth 100000 in
theorem Meets_any (c : Int) (A B : Option Addr) (n k m j : Nat) (ws ts : List Bnd) (d : Int) (C D : Option Addr) (n2 k2 m2 j2 : Nat) (ws2 ts2 : List Bnd) (p1 p2 p3 p4 : Int) (w : World) (h1 : RdB w A n k ws) (h2 : RdB w B m j ts) (hn : n ≤ maxLen) (hm : m ≤ maxLen) (h3 : RdB w C n2 k2 ws2) (h4 : RdB w D m2 j2 ts2) (hn2 : n2 ≤ maxLen) (hm2 : m2 ≤ maxLen) : Calls Tryz.prog 10 #[.agg #[.int .i64 c, .slice A n k, .slice B m j], .agg #[.int .i64 d, .slice C n2 k2, .slice D m2 j2], .agg #[.int .i64 p1, .int .i64 p2, .int .i64 p3, .int .i64 p4]] w fun e w' => e = .returned (.tuple #[.bool (meetsV ⟨c, ws, ts⟩ ⟨d, ws2, ts2⟩ ⟨p1, p2, p3, p4⟩).1, .int .i64 (meetsV ⟨c, ws, ts⟩ ⟨d, ws2, ts2⟩ ⟨p1, p2, p3, p4⟩).2]) ∧ Below w.heap.size w w' := by
 unfold meetsV
 by_cases hq : asked ⟨c, ws, ts⟩ ⟨d, ws2, ts2⟩ ⟨p1, p2, p3, p4⟩ = 0
 · rw [if_pos hq]
   go_enter Tryz.func10, Tryz.ntmps10
   obtain ⟨a2, a3, a4, a0⟩ := ent3 w #[.int .i64 c, .slice A n k, .slice B m j] 24 #[.int .i64 d, .slice C n2 k2, .slice D m2 j2] 24 #[.int .i64 p1, .int .i64 p2, .int .i64 p3, .int .i64 p4] 28
   have a5 := rI h1 a0
   have a6 := rI h2 a0
   have a7 := rI h3 a0
   have a8 := rI h4 a0
   clear h1 h2 h3 h4
   obtain ⟨d0, b0, b1⟩ := at3 a2
   obtain ⟨b2, b3, b4⟩ := at3 a3
   obtain ⟨b5, b6, b7, b8⟩ := at4 a4
   have hc := pairOf_yes c A B n k m j ws ts d C D n2 k2 m2 j2 ws2 ts2 p1 p2 p3 p4 _ a5.out a6.out hn hm a7.out a8.out hn2 hm2 hq
   have HC := Lib.hid hc; clear hc
   go_wp2_with fail
   refine HC.out.mono ?_
   rintro e b9 ⟨rfl, hb⟩
   clear HC
   clear d0 b0 b1 b2 b3 b4 b5 b6 b7 b8
   have a1 := Lib.hid hb
   clear hb
   replace a2 := kH a2 a1
   obtain ⟨c0, c1, c2⟩ := at3 a2
   replace a3 := kH a3 a1
   obtain ⟨c3, c4, c5⟩ := at3 a3
   replace a4 := kH a4 a1
   obtain ⟨c6, c7, c8, c9⟩ := at4 a4
   clear c0 c1 c2 c3 c4 c5 c6 c7 c8 c9
   obtain ⟨o_, ho_⟩ : ∃ o, o = ((.cells #[.int .i64 c, .slice A n k, .slice B m j, .int .i64 d, .slice C n2 k2, .slice D m2 j2, .int .i64 p1, .int .i64 p2, .int .i64 p3, .int .i64 p4] 74) : Obj) := ⟨_, rfl⟩
   replace a0 := bA (bH a0 a1) o_
   replace a5 := rA (rH a5 a1) o_
   replace a6 := rA (rH a6 a1) o_
   replace a7 := rA (rH a7 a1) o_
   replace a8 := rA (rH a8 a1) o_
   replace a2 := kA a2 o_
   replace a3 := kA a3 o_
   replace a4 := kA a4 o_
   subst ho_
   have a9 := Lib.hid (Blk.new b9 74 #[.int .i64 c, .slice A n k, .slice B m j, .int .i64 d, .slice C n2 k2, .slice D m2 j2, .int .i64 p1, .int .i64 p2, .int .i64 p3, .int .i64 p4])
   obtain ⟨d1, d2, d3⟩ := at3 a2
   obtain ⟨d4, d5, d6⟩ := at3 a3
   obtain ⟨d7, d8, d9, e0⟩ := at4 a4
   obtain ⟨e1, e2, e3, e4, e5, e6, e7, e8, e9, f0⟩ := at10 a9
   have hc := meets_q c A B n k m j ws ts d C D n2 k2 m2 j2 ws2 ts2 p1 p2 p3 p4 _ a5.out a6.out hn hm a7.out a8.out hn2 hm2 hq
   have HC := Lib.hid hc; clear hc
   go_wp2_with fail
   refine HC.out.mono ?_
   rintro e f2 ⟨rfl, hb⟩
   clear HC
   clear d1 d2 d3 d4 d5 d6 d7 d8 d9 e0 e1 e2 e3 e4 e5 e6 e7 e8 e9 f0
   have f1 := Lib.hid hb
   clear hb
   go_wp2
   go_ret2
   replace a0 := bH a0 f1
   exact ⟨rfl, a0.out⟩
 · rw [if_neg hq]
   obtain ⟨q, hq2⟩ : ∃ q, asked ⟨c, ws, ts⟩ ⟨d, ws2, ts2⟩ ⟨p1, p2, p3, p4⟩ = q := ⟨_, rfl⟩
   rw [hq2] at hq
   rw [hq2]
   have hne := hq
   have hqe : (q == 0) = false := by simpa using hq
   clear hq
   have hq := hq2; clear hq2
   go_enter Tryz.func10, Tryz.ntmps10
   obtain ⟨a2, a3, a4, a0⟩ := ent3 w #[.int .i64 c, .slice A n k, .slice B m j] 24 #[.int .i64 d, .slice C n2 k2, .slice D m2 j2] 24 #[.int .i64 p1, .int .i64 p2, .int .i64 p3, .int .i64 p4] 28
   have a5 := rI h1 a0
   have a6 := rI h2 a0
   have a7 := rI h3 a0
   have a8 := rI h4 a0
   clear h1 h2 h3 h4
   obtain ⟨d0, b0, b1⟩ := at3 a2
   obtain ⟨b2, b3, b4⟩ := at3 a3
   obtain ⟨b5, b6, b7, b8⟩ := at4 a4
   have hc := pairOf_no c A B n k m j ws ts d C D n2 k2 m2 j2 ws2 ts2 p1 p2 p3 p4 _ a5.out a6.out hn hm a7.out a8.out hn2 hm2 q hq hne
   have HC := Lib.hid hc; clear hc
   go_wp2_with fail
   refine HC.out.mono ?_
   rintro e b9 ⟨rfl, hb⟩
   clear HC
   clear d0 b0 b1 b2 b3 b4 b5 b6 b7 b8
   have a1 := Lib.hid hb
   clear hb
   replace a2 := kH a2 a1
   obtain ⟨c0, c1, c2⟩ := at3 a2
   replace a3 := kH a3 a1
   obtain ⟨c3, c4, c5⟩ := at3 a3
   replace a4 := kH a4 a1
   obtain ⟨c6, c7, c8, c9⟩ := at4 a4
   clear c0 c1 c2 c3 c4 c5 c6 c7 c8 c9
   obtain ⟨o_, ho_⟩ : ∃ o, o = ((.cells #[.int .i64 0, .slice none 0 0, .slice none 0 0, .int .i64 0, .slice none 0 0, .slice none 0 0, .int .i64 0, .int .i64 0, .int .i64 0, .int .i64 0] 74) : Obj) := ⟨_, rfl⟩
   replace a0 := bA (bH a0 a1) o_
   replace a5 := rA (rH a5 a1) o_
   replace a6 := rA (rH a6 a1) o_
   replace a7 := rA (rH a7 a1) o_
   replace a8 := rA (rH a8 a1) o_
   replace a2 := kA a2 o_
   replace a3 := kA a3 o_
   replace a4 := kA a4 o_
   subst ho_
   have a9 := Lib.hid (Blk.new b9 74 #[.int .i64 0, .slice none 0 0, .slice none 0 0, .int .i64 0, .slice none 0 0, .slice none 0 0, .int .i64 0, .int .i64 0, .int .i64 0, .int .i64 0])
   obtain ⟨d1, d2, d3⟩ := at3 a2
   obtain ⟨d4, d5, d6⟩ := at3 a3
   obtain ⟨d7, d8, d9, e0⟩ := at4 a4
   obtain ⟨e1, e2, e3, e4, e5, e6, e7, e8, e9, f0⟩ := at10 a9
   go_wp2
   go_ret2
   exact ⟨rfl, a0.out⟩
def flawV (P : Int) (l : List Bnd) (Q : Int) (k : List Bnd) : List Int × Bool × Bool :=
 if (circleV P l).2.1 then ((circleV P l).1, false, true) else if (circleV Q k).2.1 then ((circleV Q k).1, true, true) else ([], false, false)
def RetF (V : List Int × Bool × Bool) (w : World) (e : Ending) (w' : World) : Prop :=
 ∃ A n c, e = .returned (.tuple #[.agg #[.bool V.2.1, .slice A n c], .bool V.2.2]) ∧ RdI w' A n c V.1 ∧ n ≤ maxLen ∧ Below w.heap.size w w'
theorem circleV_form (P : Int) (l : List Bnd) : ∃ Z b q, circleV P l = (Z, b, q) := ⟨_, _, _, rfl⟩
set_option maxRecDepth 100000 in
theorem flawIn_any (P Q : Int) (A B : Option Addr) (n k m j : Nat) (l1 l2 : List Bnd) (w : World) (h1 : RdB w A n k l1) (h2 : RdB w B m j l2) (hn : n ≤ maxLen) (hm : m ≤ maxLen) :
 Calls Tryz.prog 40 #[.agg #[.int .i64 P, .slice A n k], .agg #[.int .i64 Q, .slice B m j]] w (RetF (flawV P l1 Q l2) w) := by
 obtain ⟨Z, b, q, hz⟩ := circleV_form P l1
 obtain ⟨Y, b2, q2, hy⟩ := circleV_form Q l2
 unfold flawV
 rw [hz, hy]
 have E1 := Lib.hid hz; have E2 := Lib.hid hy; clear hz hy
 dsimp only
 cases b
 · cases b2
   · simp only [Bool.false_eq_true, if_false]
     unfold RetF
     dsimp only
     go_enter Tryz.func40, Tryz.ntmps40
     obtain ⟨a3, a4, a0, a1⟩ := ent3 w #[.int .i64 P, .slice A n k] 84 #[.int .i64 Q, .slice B m j] 84 #[.bool false, .slice none 0 0] 40
     have a7 := rI h1 a1
     have a6 := rI h2 a1
     clear h1 h2
     obtain ⟨c3, c4⟩ := at2 a3
     obtain ⟨c5, a8⟩ := at2 a4
     obtain ⟨a9, b0⟩ := at2 a0
     have hc := Circle_any P A n k l1 _ a7.out hn
     rw [E1.out] at hc
     unfold RetI at hc
     dsimp only at hc
     have hc := hc
     have HC := Lib.hid hc; clear hc
     go_wp2_with fail
     refine HC.out.mono ?_
     rintro e b9 ⟨A8, n8, c8, rfl, ho8, hb⟩
     clear HC
     clear c3 c4 c5 a8 a9 b0
     have a2 := Lib.hid hb
     clear hb
     have hrd8 := OwnI.rd ho8; clear ho8
     have hmx8 := Nat.le_trans hrd8.1.cap hrd8.2
     have hrd8 := hrd8.1
     have c0 := Lib.hid (hrd8)
     clear hrd8
     replace a3 := kH a3 a2
     obtain ⟨b1, b3⟩ := at2 a3
     replace a4 := kH a4 a2
     obtain ⟨b4, b5⟩ := at2 a4
     replace a0 := kH a0 a2
     obtain ⟨b6, b7⟩ := at2 a0
     replace a6 := rH a6 a2
     have hc := Circle_any Q B m j l2 _ a6.out hm
     rw [E2.out] at hc
     unfold RetI at hc
     dsimp only at hc
     have hc := hc
     have HC := Lib.hid hc; clear hc
     go_wp2_with fail
     refine HC.out.mono ?_
     rintro e b8 ⟨A9, n9, c9, rfl, ho9, hb⟩
     clear HC
     clear b1 b3 b4 b5 b6 b7
     have a5 := Lib.hid hb
     clear hb
     have hrd9 := OwnI.rd ho9; clear ho9
     have hmx9 := Nat.le_trans hrd9.1.cap hrd9.2
     have hrd9 := hrd9.1
     have d4 := Lib.hid (hrd9)
     clear hrd9
     replace a3 := kH a3 a5
     obtain ⟨c6, c7⟩ := at2 a3
     replace a4 := kH a4 a5
     obtain ⟨d0, d1⟩ := at2 a4
     replace a0 := kH a0 a5
     obtain ⟨d2, d3⟩ := at2 a0
     have c1 : (b8).frozen? ⟨w.heap.size + 1 + 1, 0, none⟩ = false := Blk.frozen a0.out 0
     have c2 : (b8).frozen? ⟨w.heap.size + 1 + 1, 1, none⟩ = false := Blk.frozen a0.out 1
     have hlb_ := Blk.lt a0.out
     replace a1 := bH (bH a1 a2) a5
     have HK := Lib.hid (And.intro a0.out (And.intro a1.out (trivial)))
     go_wp2
     obtain ⟨bz_, bel_, z_⟩ := HK.out
     refine bodyPost_ret (v := .tuple #[.agg #[.bool false, .slice none 0 0], .bool false]) (by simp [results, Tryz.results40, go_sem, c6, c7, d0, d1, d2, d3, c1, c2]) rfl ?_
     exact ⟨none, 0, 0, rfl, RdI.nil_ _, by unfold maxLen; omega, (by have hsz_ := Below.size bel_; repeat' (first | with_reducible exact bel_ | with_reducible exact Below.refl _ _ | with_reducible refine Below.alloc ?_ ?_ _ | with_reducible refine Below.setCell ?_ ?_ _ | with_reducible refine Below.drew ?_ | with_reducible refine below_setRow ?_ ?_ _ | omega | (simp; done) | (simp; omega)))⟩
   · simp only [Bool.false_eq_true, if_false, if_true]
     unfold RetF
     dsimp only
     go_enter Tryz.func40, Tryz.ntmps40
     obtain ⟨a3, a4, a0, a1⟩ := ent3 w #[.int .i64 P, .slice A n k] 84 #[.int .i64 Q, .slice B m j] 84 #[.bool false, .slice none 0 0] 40
     have a7 := rI h1 a1
     have a6 := rI h2 a1
     clear h1 h2
     obtain ⟨c3, c4⟩ := at2 a3
     obtain ⟨c5, a8⟩ := at2 a4
     obtain ⟨a9, b0⟩ := at2 a0
     have hc := Circle_any P A n k l1 _ a7.out hn
     rw [E1.out] at hc
     unfold RetI at hc
     dsimp only at hc
     have hc := hc
     have HC := Lib.hid hc; clear hc
     go_wp2_with fail
     refine HC.out.mono ?_
     rintro e b9 ⟨A8, n8, c8, rfl, ho8, hb⟩
     clear HC
     clear c3 c4 c5 a8 a9 b0
     have a2 := Lib.hid hb
     clear hb
     have hrd8 := OwnI.rd ho8; clear ho8
     have hmx8 := Nat.le_trans hrd8.1.cap hrd8.2
     have hrd8 := hrd8.1
     have c0 := Lib.hid (hrd8)
     clear hrd8
     replace a3 := kH a3 a2
     obtain ⟨b1, b3⟩ := at2 a3
     replace a4 := kH a4 a2
     obtain ⟨b4, b5⟩ := at2 a4
     replace a0 := kH a0 a2
     obtain ⟨b6, b7⟩ := at2 a0
     replace a6 := rH a6 a2
     have hc := Circle_any Q B m j l2 _ a6.out hm
     rw [E2.out] at hc
     unfold RetI at hc
     dsimp only at hc
     have hc := hc
     have HC := Lib.hid hc; clear hc
     go_wp2_with fail
     refine HC.out.mono ?_
     rintro e b8 ⟨A9, n9, c9, rfl, ho9, hb⟩
     clear HC
     clear b1 b3 b4 b5 b6 b7
     have a5 := Lib.hid hb
     clear hb
     have hrd9 := OwnI.rd ho9; clear ho9
     have hmx9 := Nat.le_trans hrd9.1.cap hrd9.2
     have hrd9 := hrd9.1
     have d4 := Lib.hid (hrd9)
     clear hrd9
     replace a3 := kH a3 a5
     obtain ⟨c6, c7⟩ := at2 a3
     replace a4 := kH a4 a5
     obtain ⟨d0, d1⟩ := at2 a4
     replace a0 := kH a0 a5
     obtain ⟨d2, d3⟩ := at2 a0
     have c1 : (b8).frozen? ⟨w.heap.size + 1 + 1, 0, none⟩ = false := Blk.frozen a0.out 0
     have c2 : (b8).frozen? ⟨w.heap.size + 1 + 1, 1, none⟩ = false := Blk.frozen a0.out 1
     have hlb_ := Blk.lt a0.out
     replace a1 := bH (bH a1 a2) a5
     have HK := Lib.hid (And.intro a0.out (And.intro a1.out (d4.out)))
     go_wp2
     obtain ⟨bz_, bel_, z_⟩ := HK.out
     refine bodyPost_ret (v := .tuple #[.agg #[.bool true, .slice A9 n9 c9], .bool true]) (by simp [results, Tryz.results40, go_sem, c6, c7, d0, d1, d2, d3, c1, c2]) rfl ?_
     exact ⟨A9, n9, c9, rfl, rdI_setc (rdI_setc z_ ⟨w.heap.size + 1 + 1, 0, none⟩ (.bool true) bz_ (by simp)) ⟨w.heap.size + 1 + 1, 1, none⟩ (.slice A9 n9 c9) (Blk.set_ bz_ 0 (.bool true)) (by simp), hmx9, (by have hsz_ := Below.size bel_; repeat' (first | with_reducible exact bel_ | with_reducible exact Below.refl _ _ | with_reducible refine Below.alloc ?_ ?_ _ | with_reducible refine Below.setCell ?_ ?_ _ | with_reducible refine Below.drew ?_ | with_reducible refine below_setRow ?_ ?_ _ | omega | (simp; done) | (simp; omega)))⟩
 · simp only [if_true]
   unfold RetF
   dsimp only
   go_enter Tryz.func40, Tryz.ntmps40
   obtain ⟨a3, a4, a0, a1⟩ := ent3 w #[.int .i64 P, .slice A n k] 84 #[.int .i64 Q, .slice B m j] 84 #[.bool false, .slice none 0 0] 40
   have a7 := rI h1 a1
   have a6 := rI h2 a1
   clear h1 h2
   obtain ⟨c3, c4⟩ := at2 a3
   obtain ⟨c5, a8⟩ := at2 a4
   obtain ⟨a9, b0⟩ := at2 a0
   have hc := Circle_any P A n k l1 _ a7.out hn
   rw [E1.out] at hc
   unfold RetI at hc
   dsimp only at hc
   have hc := hc
   have HC := Lib.hid hc; clear hc
   go_wp2_with fail
   refine HC.out.mono ?_
   rintro e b9 ⟨A8, n8, c8, rfl, ho8, hb⟩
   clear HC
   clear c3 c4 c5 a8 a9 b0
   have a2 := Lib.hid hb
   clear hb
   have hrd8 := OwnI.rd ho8; clear ho8
   have hmx8 := Nat.le_trans hrd8.1.cap hrd8.2
   have hrd8 := hrd8.1
   have c0 := Lib.hid (hrd8)
   clear hrd8
   replace a3 := kH a3 a2
   obtain ⟨b1, b3⟩ := at2 a3
   replace a4 := kH a4 a2
   obtain ⟨b4, b5⟩ := at2 a4
   replace a0 := kH a0 a2
   obtain ⟨b6, b7⟩ := at2 a0
   have d5 : (b9).frozen? ⟨w.heap.size + 1 + 1, 0, none⟩ = false := Blk.frozen a0.out 0
   have d6 : (b9).frozen? ⟨w.heap.size + 1 + 1, 1, none⟩ = false := Blk.frozen a0.out 1
   have hlb_ := Blk.lt a0.out
   replace a1 := bH a1 a2
   have HK := Lib.hid (And.intro a0.out (And.intro a1.out (c0.out)))
   go_wp2
   obtain ⟨bz_, bel_, z_⟩ := HK.out
   refine bodyPost_ret (v := .tuple #[.agg #[.bool false, .slice A8 n8 c8], .bool true]) (by simp [results, Tryz.results40, go_sem, b1, b3, b4, b5, b6, b7, d5, d6]) rfl ?_
   exact ⟨A8, n8, c8, rfl, rdI_setc (rdI_setc z_ ⟨w.heap.size + 1 + 1, 0, none⟩ (.bool false) bz_ (by simp)) ⟨w.heap.size + 1 + 1, 1, none⟩ (.slice A8 n8 c8) (Blk.set_ bz_ 0 (.bool false)) (by simp), hmx8, (by have hsz_ := Below.size bel_; repeat' (first | with_reducible exact bel_ | with_reducible exact Below.refl _ _ | with_reducible refine Below.alloc ?_ ?_ _ | with_reducible refine Below.setCell ?_ ?_ _ | with_reducible refine Below.drew ?_ | with_reducible refine below_setRow ?_ ?_ _ | omega | (simp; done) | (simp; omega)))⟩
def clashV (a b : Otl) (p : Prg) : (List Int × Bool × Bool) × Int := if asked a b p = 0 then (flawV (wayP a b p) (wayL a b p) (turnP a b p) (turnL a b p), 0) else (([], false, false), asked a b p)
def RetFE (V : (List Int × Bool × Bool) × Int) (w : World) (e : Ending) (w' : World) : Prop :=
 ∃ A n c, e = .returned (.tuple #[.agg #[.bool V.1.2.1, .slice A n c], .bool V.1.2.2, .int .i64 V.2]) ∧ RdI w' A n c V.1.1 ∧ n ≤ maxLen ∧ Below w.heap.size w w'
def checkClashV (u : Bool) (a b : Otl) (p : Prg) (x : List Int) : Bool × Int := if asked a b p = 0 then checkCircleV (jP u a b p) (jL u a b p) x else (false, asked a b p)
theorem flawIn_wide (P Q : Int) (A B : Option Addr) (n k m j : Nat) (l1 l2 : List Bnd) (w : World) (h1 : RdB w A n k l1) (h2 : RdB w B m j l2) (hn : l1.length ≤ 400) (hm : l2.length ≤ 400) (V : List Int × Bool × Bool) (hV : flawV P l1 Q l2 = V) :
 Calls Tryz.prog 40 #[.agg #[.int .i64 P, .slice A n k], .agg #[.int .i64 Q, .slice B m j]] w fun e w' => ∃ A n c, e = .returned (.tuple #[.agg #[.bool V.2.1, .slice A n c], .bool V.2.2]) ∧ RdI w' A n c V.1 ∧ n ≤ maxLen ∧ Below w.heap.size w w' := by
 subst hV
 exact flawIn_any P Q A B n k m j l1 l2 w h1 h2 (by have := h1.len; unfold maxLen; omega) (by have := h2.len; unfold maxLen; omega)
set_option maxRecDepth 100000 in
theorem Clash_any (c : Int) (A B : Option Addr) (n k m j : Nat) (ws ts : List Bnd) (d : Int) (C D : Option Addr) (n2 k2 m2 j2 : Nat) (ws2 ts2 : List Bnd) (p1 p2 p3 p4 : Int) (w : World) (h1 : RdB w A n k ws) (h2 : RdB w B m j ts) (hn : n ≤ maxLen) (hm : m ≤ maxLen) (h3 : RdB w C n2 k2 ws2) (h4 : RdB w D m2 j2 ts2) (hn2 : n2 ≤ maxLen) (hm2 : m2 ≤ maxLen) : Calls Tryz.prog 12 #[.agg #[.int .i64 c, .slice A n k, .slice B m j], .agg #[.int .i64 d, .slice C n2 k2, .slice D m2 j2], .agg #[.int .i64 p1, .int .i64 p2, .int .i64 p3, .int .i64 p4]] w (RetFE (clashV ⟨c, ws, ts⟩ ⟨d, ws2, ts2⟩ ⟨p1, p2, p3, p4⟩) w) := by
 unfold clashV
 by_cases hq : asked ⟨c, ws, ts⟩ ⟨d, ws2, ts2⟩ ⟨p1, p2, p3, p4⟩ = 0
 · rw [if_pos hq]
   obtain ⟨V, hV⟩ : ∃ V, flawV (wayP ⟨c, ws, ts⟩ ⟨d, ws2, ts2⟩ ⟨p1, p2, p3, p4⟩) (wayL ⟨c, ws, ts⟩ ⟨d, ws2, ts2⟩ ⟨p1, p2, p3, p4⟩) (turnP ⟨c, ws, ts⟩ ⟨d, ws2, ts2⟩ ⟨p1, p2, p3, p4⟩) (turnL ⟨c, ws, ts⟩ ⟨d, ws2, ts2⟩ ⟨p1, p2, p3, p4⟩) = V := ⟨_, rfl⟩
   rw [hV]
   have HV := Lib.hid hV; clear hV
   obtain ⟨V1, V2, V3⟩ := V
   unfold RetFE
   dsimp only
   go_enter Tryz.func12, Tryz.ntmps12
   obtain ⟨a3, a4, a5, a2, a1⟩ := ent4 w #[.int .i64 c, .slice A n k, .slice B m j] 24 #[.int .i64 d, .slice C n2 k2, .slice D m2 j2] 24 #[.int .i64 p1, .int .i64 p2, .int .i64 p3, .int .i64 p4] 28 #[.bool false, .slice none 0 0] 40
   have a6 := rI h1 a1
   have a7 := rI h2 a1
   have a8 := rI h3 a1
   have a9 := rI h4 a1
   clear h1 h2 h3 h4
   obtain ⟨l9, m0, m1⟩ := at3 a3
   obtain ⟨m3, m4, m5⟩ := at3 a4
   obtain ⟨m6, m7, m8, m9⟩ := at4 a5
   obtain ⟨n0, n1⟩ := at2 a2
   have hc := pairOf_yes c A B n k m j ws ts d C D n2 k2 m2 j2 ws2 ts2 p1 p2 p3 p4 _ a6.out a7.out hn hm a8.out a9.out hn2 hm2 hq
   have HC := Lib.hid hc; clear hc
   go_wp2_with fail
   refine HC.out.mono ?_
   rintro e f8 ⟨rfl, hb⟩
   clear HC
   clear l9 m0 m1 m3 m4 m5 m6 m7 m8 m9 n0 n1
   have b3 := Lib.hid hb
   clear hb
   replace a3 := kH a3 b3
   obtain ⟨n3, n4, n5⟩ := at3 a3
   replace a4 := kH a4 b3
   obtain ⟨n6, n7, n8⟩ := at3 a4
   replace a5 := kH a5 b3
   obtain ⟨o0, o1, o2, o3⟩ := at4 a5
   replace a2 := kH a2 b3
   obtain ⟨o4, o5⟩ := at2 a2
   clear n3 n4 n5 n6 n7 n8 o0 o1 o2 o3 o4 o5
   obtain ⟨o_, ho_⟩ : ∃ o, o = ((.cells #[.int .i64 c, .slice A n k, .slice B m j, .int .i64 d, .slice C n2 k2, .slice D m2 j2, .int .i64 p1, .int .i64 p2, .int .i64 p3, .int .i64 p4] 74) : Obj) := ⟨_, rfl⟩
   replace a1 := bA (bH a1 b3) o_
   replace a6 := rA (rH a6 b3) o_
   replace a7 := rA (rH a7 b3) o_
   replace a8 := rA (rH a8 b3) o_
   replace a9 := rA (rH a9 b3) o_
   replace a3 := kA a3 o_
   replace a4 := kA a4 o_
   replace a5 := kA a5 o_
   replace a2 := kA a2 o_
   subst ho_
   have a0 := Lib.hid (Blk.new f8 74 #[.int .i64 c, .slice A n k, .slice B m j, .int .i64 d, .slice C n2 k2, .slice D m2 j2, .int .i64 p1, .int .i64 p2, .int .i64 p3, .int .i64 p4])
   obtain ⟨o6, o7, o8⟩ := at3 a3
   obtain ⟨o9, p0, p5⟩ := at3 a4
   obtain ⟨p6, p7, p8, p9⟩ := at4 a5
   obtain ⟨q0, q1⟩ := at2 a2
   obtain ⟨q2, q3, q4, q5, q6, q7, q8, q9, r0, r1⟩ := at10 a0
   have HQ1 := Lib.hid (asked_ok hq).1
   have HL1 := Lib.hid (show (wayL ⟨c, ws, ts⟩ ⟨d, ws2, ts2⟩ ⟨p1, p2, p3, p4⟩).length ≤ 400 from (chk_ok (wayL_chk hq)).2.2.1)
   have HL2 := Lib.hid (show (turnL ⟨c, ws, ts⟩ ⟨d, ws2, ts2⟩ ⟨p1, p2, p3, p4⟩).length ≤ 400 from (chk_ok (turnL_chk hq)).2.2.1)
   clear hq
   go_wp2_with fail
   clear o6 o7 o8 o9 p0 p5 p6 p7 p8 p9 q0 q1 q2 q3 q4 q5 q6 q7 q8 q9 r0 r1
   replace a1 := bD a1
   replace a6 := rD a6
   replace a7 := rD a7
   replace a8 := rD a8
   replace a9 := rD a9
   replace a3 := kD a3
   replace a4 := kD a4
   replace a5 := kD a5
   replace a2 := kD a2
   replace a0 := kD a0
   refine wp_region_held_drew (S := (fun W' => Blk W' (f8.heap.size) 74 #[.int .i64 c, .slice A n k, .slice B m j, .int .i64 d, .slice C n2 k2, .slice D m2 j2, .int .i64 p1, .int .i64 p2, .int .i64 p3, .int .i64 p4])) (by kernel_rfl) a0.out (fun _ => ?_)
   obtain ⟨r2, h5⟩ : ∃ w', w' = ((f8.alloc (.cells #[.int .i64 c, .slice A n k, .slice B m j, .int .i64 d, .slice C n2 k2, .slice D m2 j2, .int .i64 p1, .int .i64 p2, .int .i64 p3, .int .i64 p4] 74)).drew) := ⟨_, rfl⟩
   rw [← h5] at a1 a6 a7 a8 a9 a3 a4 a5 a2 a0
   rw [← h5]
   clear h5
   refine' tkH 0 a0.out ?r6 ?_
   case r6 => (rintro W' hS0; have hc0 := Blk.nth hS0 0; have hc1 := Blk.nth hS0 1; have hc2 := Blk.nth hS0 2; have hc3 := Blk.nth hS0 3; have hc4 := Blk.nth hS0 4; have hc5 := Blk.nth hS0 5; have hc6 := Blk.nth hS0 6; have hc7 := Blk.nth hS0 7; have hc8 := Blk.nth hS0 8; have hc9 := Blk.nth hS0 9; clear hS0; go_simp; try with_reducible rfl)
   refine' tkH 2 a0.out ?r7 ?_
   case r7 => (rintro W' hS0; have hc0 := Blk.nth hS0 0; have hc1 := Blk.nth hS0 1; have hc2 := Blk.nth hS0 2; have hc3 := Blk.nth hS0 3; have hc4 := Blk.nth hS0 4; have hc5 := Blk.nth hS0 5; have hc6 := Blk.nth hS0 6; have hc7 := Blk.nth hS0 7; have hc8 := Blk.nth hS0 8; have hc9 := Blk.nth hS0 9; clear hS0; go_simp; try with_reducible rfl)
   try simp only [Act.put, qsA, qsZ, qsS]
   refine wpAnyH_ready (rs := [1, 8]) (by kernel_rfl) (by simp) ?_
   refine rdH rfl (fun K hK => ?_) ?_
   · -- 1: call
    go_simp
    go_at_call 41
    refine (ways_q c A B n k m j ws ts d C D n2 k2 m2 j2 ws2 ts2 p1 p2 p3 p4 _ a6.out a7.out hn hm a8.out a9.out hn2 hm2 HQ1.out).mono ?_
    rintro e r3 ⟨A21, n21, l8, rfl, hr1, b1⟩
    dsimp only
    replace b1 := Lib.hid b1
    have b0 := Lib.hid (hr1)
    replace a0 := kH a0 b1
    refine hK.out _ _ a0.out (fun _ => ?_); clear hK K
    try simp only [Act.put, qsA, qsZ, qsS]
    refine wpAnyH_ready (rs := [3, 8]) (by kernel_rfl) (by simp) ?_
    refine rdH rfl (fun K hK => ?_) ?_
    · -- 3: call
     replace a6 := rH a6 b1
     replace a7 := rH a7 b1
     replace a8 := rH a8 b1
     replace a9 := rH a9 b1
     go_simp
     go_at_call 42
     refine (turns_q c A B n k m j ws ts d C D n2 k2 m2 j2 ws2 ts2 p1 p2 p3 p4 _ a6.out a7.out hn hm a8.out a9.out hn2 hm2 HQ1.out).mono ?_
     rintro e r4 ⟨A22, n22, h0, rfl, hr2, b2⟩
     dsimp only
     replace b2 := Lib.hid b2
     have c1 := Lib.hid (hr2)
     replace a0 := kH a0 b2
     refine hK.out _ _ a0.out (fun _ => ?_); clear hK K
     try simp only [Act.put, qsA, qsZ, qsS]
     refine wpAnyH_ready (rs := [4, 8]) (by kernel_rfl) (by simp) ?_
     refine rdH rfl (fun K hK => ?_) ?_
     · -- 4: call
      replace b0 := rH b0 b2
      go_simp
      go_at_call 40
      refine (flawIn_wide _ _ A21 A22 n21 l8 n22 h0 _ _ _ b0.out c1.out HL1.out HL2.out _ HV.out).mono ?_
      rintro e r5 ⟨A9, n9, c9, rfl, hz9, hm9, c5⟩
      dsimp only
      replace c5 := Lib.hid c5
      have f9 := Lib.hid (hz9)
      replace a0 := kH a0 c5
      refine hK.out _ _ a0.out (fun _ => ?_); clear hK K
      try simp only [Act.put, qsA, qsZ, qsS]
      refine' twH 5 a0.out ?_
      refine' twH 6 a0.out ?_
      refine' twH 7 a0.out ?_
      try simp only [Act.put, qsA, qsZ, qsS]
      refine oneH 8 rfl fun K hK => ?_
      replace a1 := bH (bH (bH a1 b1) b2) c5
      replace a6 := rH (rH a6 b2) c5
      replace a7 := rH (rH a7 b2) c5
      replace a8 := rH (rH a8 b2) c5
      replace a9 := rH (rH a9 b2) c5
      replace a3 := kH (kH (kH a3 b1) b2) c5
      replace a4 := kH (kH (kH a4 b1) b2) c5
      replace a5 := kH (kH (kH a5 b1) b2) c5
      replace a2 := kH (kH (kH a2 b1) b2) c5
      replace b0 := rH b0 c5
      replace c1 := rH c1 c5
      go_simp
      have h6 := Lib.hid (a1.out.size)
      have h7 := Lib.hid (Nat.ne_of_lt (Blk.lt a3.out))
      have h8 := Lib.hid (Nat.ne_of_lt (Blk.lt a4.out))
      have h9 := Lib.hid (Nat.ne_of_lt (Blk.lt a5.out))
      have i0 := Lib.hid (Nat.ne_of_lt (Blk.lt a2.out))
      have i1 := Lib.hid (Nat.ne_of_lt (Blk.lt a0.out))
      obtain ⟨o_, ho_⟩ : ∃ o, o = (.cells #[.bool false, .slice none 0 0] 40 : Obj) := ⟨_, rfl⟩
      replace a1 := bA a1 o_
      replace a6 := rA a6 o_
      replace a7 := rA a7 o_
      replace a8 := rA a8 o_
      replace a9 := rA a9 o_
      replace a3 := kA a3 o_
      replace a4 := kA a4 o_
      replace a5 := kA a5 o_
      replace a2 := kA a2 o_
      replace a0 := kA a0 o_
      replace b0 := rA b0 o_
      replace c1 := rA c1 o_
      replace f9 := iA f9 o_
      subst ho_
      have d0 := Lib.hid (Blk.new (r5) 40 #[.bool false, .slice none 0 0])
      obtain ⟨b4, i2⟩ : ∃ g, g = (r5).heap.size := ⟨_, rfl⟩
      obtain ⟨g4, i3⟩ : ∃ w', w' = (r5).alloc (.cells #[.bool false, .slice none 0 0] 40) := ⟨_, rfl⟩
      rw [← i3] at a1 a6 a7 a8 a9 a3 a4 a5 a2 a0 b0 c1 f9 d0
      rw [← i2] at h6 h7 h8 h9 i0 i1 d0
      rw [← i2, ← i3]
      clear i2 i3
      refine hK.out _ _ a0.out (fun _ => ?_); clear hK K
      try simp only [Act.put, qsA, qsZ, qsS]
      refine oneH 9 rfl fun K hK => ?_
      have v1 : (g4).cell? ⟨b4, 0, none⟩ = some (.bool false) := Blk.cell (d0.out) 0
      have v2 : (g4).frozen? ⟨b4, 0, none⟩ = false := Blk.frozen (d0.out) 0
      have v3 : (g4).cell? ⟨b4, 1, none⟩ = some (.slice none 0 0) := Blk.cell (d0.out) 1
      have v4 : (g4).frozen? ⟨b4, 1, none⟩ = false := Blk.frozen (d0.out) 1
      have hlt_ := Blk.lt (d0.out)
      go_simp
      have r8 := Lib.hid (Below.setCell (Below.setCell (a1.out) (p := ⟨b4, 0, none⟩) (h6.out) (.bool V2)) (p := ⟨b4, 1, none⟩) (h6.out) (.slice A9 n9 c9))
      have r9 := Lib.hid (Blk.far (Blk.far (a3.out) (p := ⟨b4, 0, none⟩) (h7.out) (.bool V2)) (p := ⟨b4, 1, none⟩) (h7.out) (.slice A9 n9 c9))
      have s0 := Lib.hid (Blk.far (Blk.far (a4.out) (p := ⟨b4, 0, none⟩) (h8.out) (.bool V2)) (p := ⟨b4, 1, none⟩) (h8.out) (.slice A9 n9 c9))
      have s1 := Lib.hid (Blk.far (Blk.far (a5.out) (p := ⟨b4, 0, none⟩) (h9.out) (.bool V2)) (p := ⟨b4, 1, none⟩) (h9.out) (.slice A9 n9 c9))
      have g0 := Lib.hid (Blk.far (Blk.far (a2.out) (p := ⟨b4, 0, none⟩) (i0.out) (.bool V2)) (p := ⟨b4, 1, none⟩) (i0.out) (.slice A9 n9 c9))
      have i4 := Lib.hid (Blk.far (Blk.far (a0.out) (p := ⟨b4, 0, none⟩) (i1.out) (.bool V2)) (p := ⟨b4, 1, none⟩) (i1.out) (.slice A9 n9 c9))
      have s2 := Lib.hid (rdI_setc (rdI_setc (f9.out) ⟨b4, 0, none⟩ (.bool V2) (d0.out) (by simp)) ⟨b4, 1, none⟩ (.slice A9 n9 c9) (Blk.set_ (d0.out) 0 (.bool V2)) (by simp))
      have s3 := Lib.hid (Blk.set_ (Blk.set_ (d0.out) 0 (.bool V2)) 1 (.slice A9 n9 c9))
      obtain ⟨s4, i5⟩ : ∃ w', w' = (((g4).setCell ⟨b4, 0, none⟩ (.bool V2)).setCell ⟨b4, 1, none⟩ (.slice A9 n9 c9)) := ⟨_, rfl⟩
      rw [← i5] at r8 r9 s0 s1 g0 i4 s2 s3
      rw [← i5]
      clear i5 v1 v2 v3 v4 hlt_
      refine hK.out _ _ i4.out (fun _ => ?_); clear hK K
      try simp only [Act.put, qsA, qsZ, qsS]
      refine' twH 10 i4.out ?_
      try simp only [Act.put, qsA, qsZ, qsS]
      refine wpAnyH_done (by kernel_rfl) ?_ _
      obtain ⟨d3, d4, d5⟩ := at3 r9
      obtain ⟨d6, d7, d8⟩ := at3 s0
      obtain ⟨d9, e0, e1, e2⟩ := at4 s1
      obtain ⟨e3, e4⟩ := at2 g0
      obtain ⟨e5, e6, e7, e8, e9, f0, f1, f2, f3, f4⟩ := at10 i4
      obtain ⟨f5, f6⟩ := at2 s3
      have d1 : (s4).frozen? ⟨w.heap.size + 1 + 1 + 1, 0, none⟩ = false := Blk.frozen g0.out 0
      have d2 : (s4).frozen? ⟨w.heap.size + 1 + 1 + 1, 1, none⟩ = false := Blk.frozen g0.out 1
      have hlb_ := Blk.lt g0.out
      have HK := Lib.hid (And.intro (g0.out) (And.intro r8.out s2.out))
      go_wp2
      obtain ⟨bz_, bel_, z_⟩ := HK.out
      refine bodyPost_ret (v := .tuple #[.agg #[.bool V2, .slice A9 n9 c9], .bool V3, .int .i64 0]) (by simp [results, Tryz.results12, go_sem, d3, d4, d5, d6, d7, d8, d9, e0, e1, e2, e3, e4, e5, e6, e7, e8, e9, f0, f1, f2, f3, f4, f5, f6, d1, d2]) rfl ?_
      exact ⟨A9, n9, c9, rfl, rdI_setc (rdI_setc z_ ⟨w.heap.size + 1 + 1 + 1, 0, none⟩ (.bool V2) bz_ (by simp)) ⟨w.heap.size + 1 + 1 + 1, 1, none⟩ (.slice A9 n9 c9) (Blk.set_ bz_ 0 (.bool V2)) (by simp), hm9, (by have hsz_ := Below.size bel_; repeat' (first | with_reducible exact bel_ | with_reducible exact Below.refl _ _ | with_reducible refine Below.alloc ?_ ?_ _ | with_reducible refine Below.setCell ?_ ?_ _ | with_reducible refine Below.drew ?_ | with_reducible refine below_setRow ?_ ?_ _ | omega | (simp; done) | (simp; omega)))⟩
     refine rdH rfl (fun K hK => ?_) ?_
     · -- 8: alloc
      replace a1 := bH (bH a1 b1) b2
      replace a6 := rH a6 b2
      replace a7 := rH a7 b2
      replace a8 := rH a8 b2
      replace a9 := rH a9 b2
      replace a3 := kH (kH a3 b1) b2
      replace a4 := kH (kH a4 b1) b2
      replace a5 := kH (kH a5 b1) b2
      replace a2 := kH (kH a2 b1) b2
      replace b0 := rH b0 b2
      go_simp
      have i6 := Lib.hid (a1.out.size)
      have i7 := Lib.hid (Nat.ne_of_lt (Blk.lt a3.out))
      have i8 := Lib.hid (Nat.ne_of_lt (Blk.lt a4.out))
      have i9 := Lib.hid (Nat.ne_of_lt (Blk.lt a5.out))
      have j0 := Lib.hid (Nat.ne_of_lt (Blk.lt a2.out))
      have j1 := Lib.hid (Nat.ne_of_lt (Blk.lt a0.out))
      obtain ⟨o_, ho_⟩ : ∃ o, o = (.cells #[.bool false, .slice none 0 0] 40 : Obj) := ⟨_, rfl⟩
      replace a1 := bA a1 o_
      replace a6 := rA a6 o_
      replace a7 := rA a7 o_
      replace a8 := rA a8 o_
      replace a9 := rA a9 o_
      replace a3 := kA a3 o_
      replace a4 := kA a4 o_
      replace a5 := kA a5 o_
      replace a2 := kA a2 o_
      replace a0 := kA a0 o_
      replace b0 := rA b0 o_
      replace c1 := rA c1 o_
      subst ho_
      have c2 := Lib.hid (Blk.new (r4) 40 #[.bool false, .slice none 0 0])
      obtain ⟨b5, j3⟩ : ∃ g, g = (r4).heap.size := ⟨_, rfl⟩
      obtain ⟨w7, j4⟩ : ∃ w', w' = (r4).alloc (.cells #[.bool false, .slice none 0 0] 40) := ⟨_, rfl⟩
      rw [← j4] at a1 a6 a7 a8 a9 a3 a4 a5 a2 a0 b0 c1 c2
      rw [← j3] at i6 i7 i8 i9 j0 j1 c2
      rw [← j3, ← j4]
      clear j3 j4
      refine hK.out _ _ a0.out (fun _ => ?_); clear hK K
      try simp only [Act.put, qsA, qsZ, qsS]
      refine oneH 4 rfl fun K hK => ?_
      go_simp
      go_at_call 40
      refine (flawIn_wide _ _ A21 A22 n21 l8 n22 h0 _ _ _ b0.out c1.out HL1.out HL2.out _ HV.out).mono ?_
      rintro e g5 ⟨A9, n9, c9, rfl, hz9, hm9, b8⟩
      dsimp only
      replace b8 := Lib.hid b8
      have s5 := Lib.hid (hz9)
      replace a0 := kH a0 b8
      refine hK.out _ _ a0.out (fun _ => ?_); clear hK K
      try simp only [Act.put, qsA, qsZ, qsS]
      refine' twH 5 a0.out ?_
      refine' twH 6 a0.out ?_
      refine' twH 7 a0.out ?_
      try simp only [Act.put, qsA, qsZ, qsS]
      refine oneH 9 rfl fun K hK => ?_
      replace c2 := kH c2 b8
      replace a1 := bH a1 b8
      replace a6 := rH a6 b8
      replace a7 := rH a7 b8
      replace a8 := rH a8 b8
      replace a9 := rH a9 b8
      replace a3 := kH a3 b8
      replace a4 := kH a4 b8
      replace a5 := kH a5 b8
      replace a2 := kH a2 b8
      replace b0 := rH b0 b8
      replace c1 := rH c1 b8
      have v5 : (g5).cell? ⟨b5, 0, none⟩ = some (.bool false) := Blk.cell (c2.out) 0
      have v6 : (g5).frozen? ⟨b5, 0, none⟩ = false := Blk.frozen (c2.out) 0
      have v7 : (g5).cell? ⟨b5, 1, none⟩ = some (.slice none 0 0) := Blk.cell (c2.out) 1
      have v8 : (g5).frozen? ⟨b5, 1, none⟩ = false := Blk.frozen (c2.out) 1
      have hlt_ := Blk.lt (c2.out)
      go_simp
      have s6 := Lib.hid (Below.setCell (Below.setCell (a1.out) (p := ⟨b5, 0, none⟩) (i6.out) (.bool V2)) (p := ⟨b5, 1, none⟩) (i6.out) (.slice A9 n9 c9))
      have s7 := Lib.hid (Blk.far (Blk.far (a3.out) (p := ⟨b5, 0, none⟩) (i7.out) (.bool V2)) (p := ⟨b5, 1, none⟩) (i7.out) (.slice A9 n9 c9))
      have s8 := Lib.hid (Blk.far (Blk.far (a4.out) (p := ⟨b5, 0, none⟩) (i8.out) (.bool V2)) (p := ⟨b5, 1, none⟩) (i8.out) (.slice A9 n9 c9))
      have s9 := Lib.hid (Blk.far (Blk.far (a5.out) (p := ⟨b5, 0, none⟩) (i9.out) (.bool V2)) (p := ⟨b5, 1, none⟩) (i9.out) (.slice A9 n9 c9))
      have g1 := Lib.hid (Blk.far (Blk.far (a2.out) (p := ⟨b5, 0, none⟩) (j0.out) (.bool V2)) (p := ⟨b5, 1, none⟩) (j0.out) (.slice A9 n9 c9))
      have j5 := Lib.hid (Blk.far (Blk.far (a0.out) (p := ⟨b5, 0, none⟩) (j1.out) (.bool V2)) (p := ⟨b5, 1, none⟩) (j1.out) (.slice A9 n9 c9))
      have t0 := Lib.hid (Blk.set_ (Blk.set_ (c2.out) 0 (.bool V2)) 1 (.slice A9 n9 c9))
      have t1 := Lib.hid (rdI_setc (rdI_setc (s5.out) ⟨b5, 0, none⟩ (.bool V2) (c2.out) (by simp)) ⟨b5, 1, none⟩ (.slice A9 n9 c9) (Blk.set_ (c2.out) 0 (.bool V2)) (by simp))
      obtain ⟨t2, j6⟩ : ∃ w', w' = (((g5).setCell ⟨b5, 0, none⟩ (.bool V2)).setCell ⟨b5, 1, none⟩ (.slice A9 n9 c9)) := ⟨_, rfl⟩
      rw [← j6] at s6 s7 s8 s9 g1 j5 t0 t1
      rw [← j6]
      clear j6 v5 v6 v7 v8 hlt_
      refine hK.out _ _ j5.out (fun _ => ?_); clear hK K
      try simp only [Act.put, qsA, qsZ, qsS]
      refine' twH 10 j5.out ?_
      try simp only [Act.put, qsA, qsZ, qsS]
      refine wpAnyH_done (by kernel_rfl) ?_ _
      obtain ⟨d3, d4, d5⟩ := at3 s7
      obtain ⟨d6, d7, d8⟩ := at3 s8
      obtain ⟨d9, e0, e1, e2⟩ := at4 s9
      obtain ⟨e3, e4⟩ := at2 g1
      obtain ⟨e5, e6, e7, e8, e9, f0, f1, f2, f3, f4⟩ := at10 j5
      obtain ⟨f5, f6⟩ := at2 t0
      have d1 : (t2).frozen? ⟨w.heap.size + 1 + 1 + 1, 0, none⟩ = false := Blk.frozen g1.out 0
      have d2 : (t2).frozen? ⟨w.heap.size + 1 + 1 + 1, 1, none⟩ = false := Blk.frozen g1.out 1
      have hlb_ := Blk.lt g1.out
      have HK := Lib.hid (And.intro (g1.out) (And.intro s6.out t1.out))
      go_wp2
      obtain ⟨bz_, bel_, z_⟩ := HK.out
      refine bodyPost_ret (v := .tuple #[.agg #[.bool V2, .slice A9 n9 c9], .bool V3, .int .i64 0]) (by simp [results, Tryz.results12, go_sem, d3, d4, d5, d6, d7, d8, d9, e0, e1, e2, e3, e4, e5, e6, e7, e8, e9, f0, f1, f2, f3, f4, f5, f6, d1, d2]) rfl ?_
      exact ⟨A9, n9, c9, rfl, rdI_setc (rdI_setc z_ ⟨w.heap.size + 1 + 1 + 1, 0, none⟩ (.bool V2) bz_ (by simp)) ⟨w.heap.size + 1 + 1 + 1, 1, none⟩ (.slice A9 n9 c9) (Blk.set_ bz_ 0 (.bool V2)) (by simp), hm9, (by have hsz_ := Below.size bel_; repeat' (first | with_reducible exact bel_ | with_reducible exact Below.refl _ _ | with_reducible refine Below.alloc ?_ ?_ _ | with_reducible refine Below.setCell ?_ ?_ _ | with_reducible refine Below.drew ?_ | with_reducible refine below_setRow ?_ ?_ _ | omega | (simp; done) | (simp; omega)))⟩
     exact AllReadyH.nil
    refine rdH rfl (fun K hK => ?_) ?_
    · -- 8: alloc
     replace a1 := bH a1 b1
     replace a6 := rH a6 b1
     replace a7 := rH a7 b1
     replace a8 := rH a8 b1
     replace a9 := rH a9 b1
     replace a3 := kH a3 b1
     replace a4 := kH a4 b1
     replace a5 := kH a5 b1
     replace a2 := kH a2 b1
     go_simp
     have j7 := Lib.hid (a1.out.size)
     have j8 := Lib.hid (Nat.ne_of_lt (Blk.lt a3.out))
     have j9 := Lib.hid (Nat.ne_of_lt (Blk.lt a4.out))
     have k0 := Lib.hid (Nat.ne_of_lt (Blk.lt a5.out))
     have k1 := Lib.hid (Nat.ne_of_lt (Blk.lt a2.out))
     have k3 := Lib.hid (Nat.ne_of_lt (Blk.lt a0.out))
     obtain ⟨o_, ho_⟩ : ∃ o, o = (.cells #[.bool false, .slice none 0 0] 40 : Obj) := ⟨_, rfl⟩
     replace a1 := bA a1 o_
     replace a6 := rA a6 o_
     replace a7 := rA a7 o_
     replace a8 := rA a8 o_
     replace a9 := rA a9 o_
     replace a3 := kA a3 o_
     replace a4 := kA a4 o_
     replace a5 := kA a5 o_
     replace a2 := kA a2 o_
     replace a0 := kA a0 o_
     replace b0 := rA b0 o_
     subst ho_
     have c3 := Lib.hid (Blk.new (r3) 40 #[.bool false, .slice none 0 0])
     obtain ⟨b6, k4⟩ : ∃ g, g = (r3).heap.size := ⟨_, rfl⟩
     obtain ⟨w8, k5⟩ : ∃ w', w' = (r3).alloc (.cells #[.bool false, .slice none 0 0] 40) := ⟨_, rfl⟩
     rw [← k5] at a1 a6 a7 a8 a9 a3 a4 a5 a2 a0 b0 c3
     rw [← k4] at j7 j8 j9 k0 k1 k3 c3
     rw [← k4, ← k5]
     clear k4 k5
     refine hK.out _ _ a0.out (fun _ => ?_); clear hK K
     try simp only [Act.put, qsA, qsZ, qsS]
     refine oneH 3 rfl fun K hK => ?_
     go_simp
     go_at_call 42
     refine (turns_q c A B n k m j ws ts d C D n2 k2 m2 j2 ws2 ts2 p1 p2 p3 p4 _ a6.out a7.out hn hm a8.out a9.out hn2 hm2 HQ1.out).mono ?_
     rintro e w9 ⟨A22, n22, h0, rfl, hr2, c6⟩
     dsimp only
     replace c6 := Lib.hid c6
     have g6 := Lib.hid (hr2)
     replace a0 := kH a0 c6
     refine hK.out _ _ a0.out (fun _ => ?_); clear hK K
     try simp only [Act.put, qsA, qsZ, qsS]
     refine oneH 4 rfl fun K hK => ?_
     replace b0 := rH b0 c6
     go_simp
     go_at_call 40
     refine (flawIn_wide _ _ A21 A22 n21 l8 n22 h0 _ _ _ b0.out g6.out HL1.out HL2.out _ HV.out).mono ?_
     rintro e g7 ⟨A9, n9, c9, rfl, hz9, hm9, b9⟩
     dsimp only
     replace b9 := Lib.hid b9
     have t3 := Lib.hid (hz9)
     replace a0 := kH a0 b9
     refine hK.out _ _ a0.out (fun _ => ?_); clear hK K
     try simp only [Act.put, qsA, qsZ, qsS]
     refine' twH 5 a0.out ?_
     refine' twH 6 a0.out ?_
     refine' twH 7 a0.out ?_
     try simp only [Act.put, qsA, qsZ, qsS]
     refine oneH 9 rfl fun K hK => ?_
     replace c3 := kH (kH c3 c6) b9
     replace a1 := bH (bH a1 c6) b9
     replace a6 := rH (rH a6 c6) b9
     replace a7 := rH (rH a7 c6) b9
     replace a8 := rH (rH a8 c6) b9
     replace a9 := rH (rH a9 c6) b9
     replace a3 := kH (kH a3 c6) b9
     replace a4 := kH (kH a4 c6) b9
     replace a5 := kH (kH a5 c6) b9
     replace a2 := kH (kH a2 c6) b9
     replace b0 := rH b0 b9
     replace g6 := rH g6 b9
     have v9 : (g7).cell? ⟨b6, 0, none⟩ = some (.bool false) := Blk.cell (c3.out) 0
     have w0 : (g7).frozen? ⟨b6, 0, none⟩ = false := Blk.frozen (c3.out) 0
     have w1 : (g7).cell? ⟨b6, 1, none⟩ = some (.slice none 0 0) := Blk.cell (c3.out) 1
     have w2 : (g7).frozen? ⟨b6, 1, none⟩ = false := Blk.frozen (c3.out) 1
     have hlt_ := Blk.lt (c3.out)
     go_simp
     have t4 := Lib.hid (Below.setCell (Below.setCell (a1.out) (p := ⟨b6, 0, none⟩) (j7.out) (.bool V2)) (p := ⟨b6, 1, none⟩) (j7.out) (.slice A9 n9 c9))
     have t5 := Lib.hid (Blk.far (Blk.far (a3.out) (p := ⟨b6, 0, none⟩) (j8.out) (.bool V2)) (p := ⟨b6, 1, none⟩) (j8.out) (.slice A9 n9 c9))
     have t6 := Lib.hid (Blk.far (Blk.far (a4.out) (p := ⟨b6, 0, none⟩) (j9.out) (.bool V2)) (p := ⟨b6, 1, none⟩) (j9.out) (.slice A9 n9 c9))
     have t7 := Lib.hid (Blk.far (Blk.far (a5.out) (p := ⟨b6, 0, none⟩) (k0.out) (.bool V2)) (p := ⟨b6, 1, none⟩) (k0.out) (.slice A9 n9 c9))
     have g2 := Lib.hid (Blk.far (Blk.far (a2.out) (p := ⟨b6, 0, none⟩) (k1.out) (.bool V2)) (p := ⟨b6, 1, none⟩) (k1.out) (.slice A9 n9 c9))
     have k6 := Lib.hid (Blk.far (Blk.far (a0.out) (p := ⟨b6, 0, none⟩) (k3.out) (.bool V2)) (p := ⟨b6, 1, none⟩) (k3.out) (.slice A9 n9 c9))
     have t8 := Lib.hid (Blk.set_ (Blk.set_ (c3.out) 0 (.bool V2)) 1 (.slice A9 n9 c9))
     have t9 := Lib.hid (rdI_setc (rdI_setc (t3.out) ⟨b6, 0, none⟩ (.bool V2) (c3.out) (by simp)) ⟨b6, 1, none⟩ (.slice A9 n9 c9) (Blk.set_ (c3.out) 0 (.bool V2)) (by simp))
     obtain ⟨u0, k7⟩ : ∃ w', w' = (((g7).setCell ⟨b6, 0, none⟩ (.bool V2)).setCell ⟨b6, 1, none⟩ (.slice A9 n9 c9)) := ⟨_, rfl⟩
     rw [← k7] at t4 t5 t6 t7 g2 k6 t8 t9
     rw [← k7]
     clear k7 v9 w0 w1 w2 hlt_
     refine hK.out _ _ k6.out (fun _ => ?_); clear hK K
     try simp only [Act.put, qsA, qsZ, qsS]
     refine' twH 10 k6.out ?_
     try simp only [Act.put, qsA, qsZ, qsS]
     refine wpAnyH_done (by kernel_rfl) ?_ _
     obtain ⟨d3, d4, d5⟩ := at3 t5
     obtain ⟨d6, d7, d8⟩ := at3 t6
     obtain ⟨d9, e0, e1, e2⟩ := at4 t7
     obtain ⟨e3, e4⟩ := at2 g2
     obtain ⟨e5, e6, e7, e8, e9, f0, f1, f2, f3, f4⟩ := at10 k6
     obtain ⟨f5, f6⟩ := at2 t8
     have d1 : (u0).frozen? ⟨w.heap.size + 1 + 1 + 1, 0, none⟩ = false := Blk.frozen g2.out 0
     have d2 : (u0).frozen? ⟨w.heap.size + 1 + 1 + 1, 1, none⟩ = false := Blk.frozen g2.out 1
     have hlb_ := Blk.lt g2.out
     have HK := Lib.hid (And.intro (g2.out) (And.intro t4.out t9.out))
     go_wp2
     obtain ⟨bz_, bel_, z_⟩ := HK.out
     refine bodyPost_ret (v := .tuple #[.agg #[.bool V2, .slice A9 n9 c9], .bool V3, .int .i64 0]) (by simp [results, Tryz.results12, go_sem, d3, d4, d5, d6, d7, d8, d9, e0, e1, e2, e3, e4, e5, e6, e7, e8, e9, f0, f1, f2, f3, f4, f5, f6, d1, d2]) rfl ?_
     exact ⟨A9, n9, c9, rfl, rdI_setc (rdI_setc z_ ⟨w.heap.size + 1 + 1 + 1, 0, none⟩ (.bool V2) bz_ (by simp)) ⟨w.heap.size + 1 + 1 + 1, 1, none⟩ (.slice A9 n9 c9) (Blk.set_ bz_ 0 (.bool V2)) (by simp), hm9, (by have hsz_ := Below.size bel_; repeat' (first | with_reducible exact bel_ | with_reducible exact Below.refl _ _ | with_reducible refine Below.alloc ?_ ?_ _ | with_reducible refine Below.setCell ?_ ?_ _ | with_reducible refine Below.drew ?_ | with_reducible refine below_setRow ?_ ?_ _ | omega | (simp; done) | (simp; omega)))⟩
    exact AllReadyH.nil
   refine rdH rfl (fun K hK => ?_) ?_
   · -- 8: alloc
    go_simp
    have k8 := Lib.hid (a1.out.size)
    have k9 := Lib.hid (Nat.ne_of_lt (Blk.lt a3.out))
    have l0 := Lib.hid (Nat.ne_of_lt (Blk.lt a4.out))
    have l1 := Lib.hid (Nat.ne_of_lt (Blk.lt a5.out))
    have l2 := Lib.hid (Nat.ne_of_lt (Blk.lt a2.out))
    have l3 := Lib.hid (Nat.ne_of_lt (Blk.lt a0.out))
    obtain ⟨o_, ho_⟩ : ∃ o, o = (.cells #[.bool false, .slice none 0 0] 40 : Obj) := ⟨_, rfl⟩
    replace a1 := bA a1 o_
    replace a6 := rA a6 o_
    replace a7 := rA a7 o_
    replace a8 := rA a8 o_
    replace a9 := rA a9 o_
    replace a3 := kA a3 o_
    replace a4 := kA a4 o_
    replace a5 := kA a5 o_
    replace a2 := kA a2 o_
    replace a0 := kA a0 o_
    subst ho_
    have c4 := Lib.hid (Blk.new (r2) 40 #[.bool false, .slice none 0 0])
    obtain ⟨b7, l4⟩ : ∃ g, g = (r2).heap.size := ⟨_, rfl⟩
    obtain ⟨x0, l5⟩ : ∃ w', w' = (r2).alloc (.cells #[.bool false, .slice none 0 0] 40) := ⟨_, rfl⟩
    rw [← l5] at a1 a6 a7 a8 a9 a3 a4 a5 a2 a0 c4
    rw [← l4] at k8 k9 l0 l1 l2 l3 c4
    rw [← l4, ← l5]
    clear l4 l5
    refine hK.out _ _ a0.out (fun _ => ?_); clear hK K
    try simp only [Act.put, qsA, qsZ, qsS]
    refine oneH 1 rfl fun K hK => ?_
    go_simp
    go_at_call 41
    refine (ways_q c A B n k m j ws ts d C D n2 k2 m2 j2 ws2 ts2 p1 p2 p3 p4 _ a6.out a7.out hn hm a8.out a9.out hn2 hm2 HQ1.out).mono ?_
    rintro e x1 ⟨A21, n21, l8, rfl, hr1, c8⟩
    dsimp only
    replace c8 := Lib.hid c8
    have f7 := Lib.hid (hr1)
    replace a0 := kH a0 c8
    refine hK.out _ _ a0.out (fun _ => ?_); clear hK K
    try simp only [Act.put, qsA, qsZ, qsS]
    refine oneH 3 rfl fun K hK => ?_
    replace a6 := rH a6 c8
    replace a7 := rH a7 c8
    replace a8 := rH a8 c8
    replace a9 := rH a9 c8
    go_simp
    go_at_call 42
    refine (turns_q c A B n k m j ws ts d C D n2 k2 m2 j2 ws2 ts2 p1 p2 p3 p4 _ a6.out a7.out hn hm a8.out a9.out hn2 hm2 HQ1.out).mono ?_
    rintro e x2 ⟨A22, n22, h0, rfl, hr2, c7⟩
    dsimp only
    replace c7 := Lib.hid c7
    have g8 := Lib.hid (hr2)
    replace a0 := kH a0 c7
    refine hK.out _ _ a0.out (fun _ => ?_); clear hK K
    try simp only [Act.put, qsA, qsZ, qsS]
    refine oneH 4 rfl fun K hK => ?_
    replace f7 := rH f7 c7
    go_simp
    go_at_call 40
    refine (flawIn_wide _ _ A21 A22 n21 l8 n22 h0 _ _ _ f7.out g8.out HL1.out HL2.out _ HV.out).mono ?_
    rintro e g9 ⟨A9, n9, c9, rfl, hz9, hm9, c0⟩
    dsimp only
    replace c0 := Lib.hid c0
    have u1 := Lib.hid (hz9)
    replace a0 := kH a0 c0
    refine hK.out _ _ a0.out (fun _ => ?_); clear hK K
    try simp only [Act.put, qsA, qsZ, qsS]
    refine' twH 5 a0.out ?_
    refine' twH 6 a0.out ?_
    refine' twH 7 a0.out ?_
    try simp only [Act.put, qsA, qsZ, qsS]
    refine oneH 9 rfl fun K hK => ?_
    replace c4 := kH (kH (kH c4 c8) c7) c0
    replace a1 := bH (bH (bH a1 c8) c7) c0
    replace a6 := rH (rH a6 c7) c0
    replace a7 := rH (rH a7 c7) c0
    replace a8 := rH (rH a8 c7) c0
    replace a9 := rH (rH a9 c7) c0
    replace a3 := kH (kH (kH a3 c8) c7) c0
    replace a4 := kH (kH (kH a4 c8) c7) c0
    replace a5 := kH (kH (kH a5 c8) c7) c0
    replace a2 := kH (kH (kH a2 c8) c7) c0
    replace f7 := rH f7 c0
    replace g8 := rH g8 c0
    have w3 : (g9).cell? ⟨b7, 0, none⟩ = some (.bool false) := Blk.cell (c4.out) 0
    have w4 : (g9).frozen? ⟨b7, 0, none⟩ = false := Blk.frozen (c4.out) 0
    have w5 : (g9).cell? ⟨b7, 1, none⟩ = some (.slice none 0 0) := Blk.cell (c4.out) 1
    have w6 : (g9).frozen? ⟨b7, 1, none⟩ = false := Blk.frozen (c4.out) 1
    have hlt_ := Blk.lt (c4.out)
    go_simp
    have u2 := Lib.hid (Below.setCell (Below.setCell (a1.out) (p := ⟨b7, 0, none⟩) (k8.out) (.bool V2)) (p := ⟨b7, 1, none⟩) (k8.out) (.slice A9 n9 c9))
    have u3 := Lib.hid (Blk.far (Blk.far (a3.out) (p := ⟨b7, 0, none⟩) (k9.out) (.bool V2)) (p := ⟨b7, 1, none⟩) (k9.out) (.slice A9 n9 c9))
    have u4 := Lib.hid (Blk.far (Blk.far (a4.out) (p := ⟨b7, 0, none⟩) (l0.out) (.bool V2)) (p := ⟨b7, 1, none⟩) (l0.out) (.slice A9 n9 c9))
    have u5 := Lib.hid (Blk.far (Blk.far (a5.out) (p := ⟨b7, 0, none⟩) (l1.out) (.bool V2)) (p := ⟨b7, 1, none⟩) (l1.out) (.slice A9 n9 c9))
    have g3 := Lib.hid (Blk.far (Blk.far (a2.out) (p := ⟨b7, 0, none⟩) (l2.out) (.bool V2)) (p := ⟨b7, 1, none⟩) (l2.out) (.slice A9 n9 c9))
    have l6 := Lib.hid (Blk.far (Blk.far (a0.out) (p := ⟨b7, 0, none⟩) (l3.out) (.bool V2)) (p := ⟨b7, 1, none⟩) (l3.out) (.slice A9 n9 c9))
    have u6 := Lib.hid (Blk.set_ (Blk.set_ (c4.out) 0 (.bool V2)) 1 (.slice A9 n9 c9))
    have u7 := Lib.hid (rdI_setc (rdI_setc (u1.out) ⟨b7, 0, none⟩ (.bool V2) (c4.out) (by simp)) ⟨b7, 1, none⟩ (.slice A9 n9 c9) (Blk.set_ (c4.out) 0 (.bool V2)) (by simp))
    obtain ⟨u8, l7⟩ : ∃ w', w' = (((g9).setCell ⟨b7, 0, none⟩ (.bool V2)).setCell ⟨b7, 1, none⟩ (.slice A9 n9 c9)) := ⟨_, rfl⟩
    rw [← l7] at u2 u3 u4 u5 g3 l6 u6 u7
    rw [← l7]
    clear l7 w3 w4 w5 w6 hlt_
    refine hK.out _ _ l6.out (fun _ => ?_); clear hK K
    try simp only [Act.put, qsA, qsZ, qsS]
    refine' twH 10 l6.out ?_
    try simp only [Act.put, qsA, qsZ, qsS]
    refine wpAnyH_done (by kernel_rfl) ?_ _
    obtain ⟨d3, d4, d5⟩ := at3 u3
    obtain ⟨d6, d7, d8⟩ := at3 u4
    obtain ⟨d9, e0, e1, e2⟩ := at4 u5
    obtain ⟨e3, e4⟩ := at2 g3
    obtain ⟨e5, e6, e7, e8, e9, f0, f1, f2, f3, f4⟩ := at10 l6
    obtain ⟨f5, f6⟩ := at2 u6
    have d1 : (u8).frozen? ⟨w.heap.size + 1 + 1 + 1, 0, none⟩ = false := Blk.frozen g3.out 0
    have d2 : (u8).frozen? ⟨w.heap.size + 1 + 1 + 1, 1, none⟩ = false := Blk.frozen g3.out 1
    have hlb_ := Blk.lt g3.out
    have HK := Lib.hid (And.intro (g3.out) (And.intro u2.out u7.out))
    go_wp2
    obtain ⟨bz_, bel_, z_⟩ := HK.out
    refine bodyPost_ret (v := .tuple #[.agg #[.bool V2, .slice A9 n9 c9], .bool V3, .int .i64 0]) (by simp [results, Tryz.results12, go_sem, d3, d4, d5, d6, d7, d8, d9, e0, e1, e2, e3, e4, e5, e6, e7, e8, e9, f0, f1, f2, f3, f4, f5, f6, d1, d2]) rfl ?_
    exact ⟨A9, n9, c9, rfl, rdI_setc (rdI_setc z_ ⟨w.heap.size + 1 + 1 + 1, 0, none⟩ (.bool V2) bz_ (by simp)) ⟨w.heap.size + 1 + 1 + 1, 1, none⟩ (.slice A9 n9 c9) (Blk.set_ bz_ 0 (.bool V2)) (by simp), hm9, (by have hsz_ := Below.size bel_; repeat' (first | with_reducible exact bel_ | with_reducible exact Below.refl _ _ | with_reducible refine Below.alloc ?_ ?_ _ | with_reducible refine Below.setCell ?_ ?_ _ | with_reducible refine Below.drew ?_ | with_reducible refine below_setRow ?_ ?_ _ | omega | (simp; done) | (simp; omega)))⟩
   exact AllReadyH.nil
 · rw [if_neg hq]
   obtain ⟨q, hq2⟩ : ∃ q, asked ⟨c, ws, ts⟩ ⟨d, ws2, ts2⟩ ⟨p1, p2, p3, p4⟩ = q := ⟨_, rfl⟩
   rw [hq2] at hq
   rw [hq2]
   have hne := hq
   have hqe : (q != 0) = true := by simpa using hq
   clear hq
   have hq := hq2; clear hq2
   unfold RetFE
   dsimp only
   go_enter Tryz.func12, Tryz.ntmps12
   obtain ⟨a3, a4, a5, a2, a1⟩ := ent4 w #[.int .i64 c, .slice A n k, .slice B m j] 24 #[.int .i64 d, .slice C n2 k2, .slice D m2 j2] 24 #[.int .i64 p1, .int .i64 p2, .int .i64 p3, .int .i64 p4] 28 #[.bool false, .slice none 0 0] 40
   have a6 := rI h1 a1
   have a7 := rI h2 a1
   have a8 := rI h3 a1
   have a9 := rI h4 a1
   clear h1 h2 h3 h4
   obtain ⟨l9, m0, m1⟩ := at3 a3
   obtain ⟨m3, m4, m5⟩ := at3 a4
   obtain ⟨m6, m7, m8, m9⟩ := at4 a5
   obtain ⟨n0, n1⟩ := at2 a2
   have hc := pairOf_no c A B n k m j ws ts d C D n2 k2 m2 j2 ws2 ts2 p1 p2 p3 p4 _ a6.out a7.out hn hm a8.out a9.out hn2 hm2 q hq hne
   have HC := Lib.hid hc; clear hc
   go_wp2_with fail
   refine HC.out.mono ?_
   rintro e f8 ⟨rfl, hb⟩
   clear HC
   clear l9 m0 m1 m3 m4 m5 m6 m7 m8 m9 n0 n1
   have b3 := Lib.hid hb
   clear hb
   replace a3 := kH a3 b3
   obtain ⟨n3, n4, n5⟩ := at3 a3
   replace a4 := kH a4 b3
   obtain ⟨n6, n7, n8⟩ := at3 a4
   replace a5 := kH a5 b3
   obtain ⟨o0, o1, o2, o3⟩ := at4 a5
   replace a2 := kH a2 b3
   obtain ⟨o4, o5⟩ := at2 a2
   clear n3 n4 n5 n6 n7 n8 o0 o1 o2 o3 o4 o5
   obtain ⟨o_, ho_⟩ : ∃ o, o = ((.cells #[.int .i64 0, .slice none 0 0, .slice none 0 0, .int .i64 0, .slice none 0 0, .slice none 0 0, .int .i64 0, .int .i64 0, .int .i64 0, .int .i64 0] 74) : Obj) := ⟨_, rfl⟩
   replace a1 := bA (bH a1 b3) o_
   replace a6 := rA (rH a6 b3) o_
   replace a7 := rA (rH a7 b3) o_
   replace a8 := rA (rH a8 b3) o_
   replace a9 := rA (rH a9 b3) o_
   replace a3 := kA a3 o_
   replace a4 := kA a4 o_
   replace a5 := kA a5 o_
   replace a2 := kA a2 o_
   subst ho_
   have a0 := Lib.hid (Blk.new f8 74 #[.int .i64 0, .slice none 0 0, .slice none 0 0, .int .i64 0, .slice none 0 0, .slice none 0 0, .int .i64 0, .int .i64 0, .int .i64 0, .int .i64 0])
   obtain ⟨o6, o7, o8⟩ := at3 a3
   obtain ⟨o9, p0, p5⟩ := at3 a4
   obtain ⟨p6, p7, p8, p9⟩ := at4 a5
   obtain ⟨q0, q1⟩ := at2 a2
   obtain ⟨q2, q3, q4, q5, q6, q7, q8, q9, r0, r1⟩ := at10 a0
   have u9 : ((f8.alloc (.cells #[.int .i64 0, .slice none 0 0, .slice none 0 0, .int .i64 0, .slice none 0 0, .slice none 0 0, .int .i64 0, .int .i64 0, .int .i64 0, .int .i64 0] 74))).frozen? ⟨w.heap.size + 1 + 1 + 1, 0, none⟩ = false := Blk.frozen a2.out 0
   have v0 : ((f8.alloc (.cells #[.int .i64 0, .slice none 0 0, .slice none 0 0, .int .i64 0, .slice none 0 0, .slice none 0 0, .int .i64 0, .int .i64 0, .int .i64 0, .int .i64 0] 74))).frozen? ⟨w.heap.size + 1 + 1 + 1, 1, none⟩ = false := Blk.frozen a2.out 1
   have hlb_ := Blk.lt a2.out
   have HK := Lib.hid (a1.out)
   go_wp2
   have bel_ := HK.out
   refine bodyPost_ret (v := .tuple #[.agg #[.bool false, .slice none 0 0], .bool false, .int .i64 q]) (by simp [results, Tryz.results12, go_sem, o6, o7, o8, o9, p0, p5, p6, p7, p8, p9, q0, q1, q2, q3, q4, q5, q6, q7, q8, q9, r0, r1, u9, v0]) rfl ?_
   exact ⟨none, 0, 0, rfl, RdI.nil_ _, by unfold maxLen; omega, (by have hsz_ := Below.size bel_; repeat' (first | with_reducible exact bel_ | with_reducible exact Below.refl _ _ | with_reducible refine Below.alloc ?_ ?_ _ | with_reducible refine Below.setCell ?_ ?_ _ | with_reducible refine Below.drew ?_ | with_reducible refine below_setRow ?_ ?_ _ | omega | (simp; done) | (simp; omega)))⟩
end Go.Proofs.YtjjmifcjailpaaaGreat
