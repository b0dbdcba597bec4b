import Derived.Test.YtjjmifcjailpaaaGreatTEPub
set_option linter.unusedSimpArgs false
set_option linter.unusedVariables false
namespace Go.Proofs.YtjjmifcjailpaaaGreat
open Go.RowKit
set_option maxRecDepth 100000 in
set_option maxHeartbeats 4000000 in
theorem CheckClash_any (c : Int) (A B : Option Addr) (n k m j : Nat) (ws ts : List Bnd) (d : Int) (C D : Option Addr) (n2 k2 m2 j2 : Nat) (ws2 ts2 : List Bnd) (p1 p2 p3 p4 : Int) (w : World) (h1 : RdB w A n k ws) (h2 : RdB w B m j ts) (hn : n ≤ maxLen) (hm : m ≤ maxLen) (h3 : RdB w C n2 k2 ws2) (h4 : RdB w D m2 j2 ts2) (hn2 : n2 ≤ maxLen) (hm2 : m2 ≤ maxLen) (u : Bool) (X : Option Addr) (xn xk : Nat) (x : List Int) (hx : RdI w X xn xk x) (hxm : xn ≤ maxLen) : Calls Tryz.prog 19 #[.agg #[.int .i64 c, .slice A n k, .slice B m j], .agg #[.int .i64 d, .slice C n2 k2, .slice D m2 j2], .agg #[.int .i64 p1, .int .i64 p2, .int .i64 p3, .int .i64 p4], .agg #[.bool u, .slice X xn xk]] w fun e w' => e = .returned (.tuple #[.bool (checkClashV u ⟨c, ws, ts⟩ ⟨d, ws2, ts2⟩ ⟨p1, p2, p3, p4⟩ x).1, .int .i64 (checkClashV u ⟨c, ws, ts⟩ ⟨d, ws2, ts2⟩ ⟨p1, p2, p3, p4⟩ x).2]) ∧ Below w.heap.size w w' := by
 unfold checkClashV
 by_cases hq : asked ⟨c, ws, ts⟩ ⟨d, ws2, ts2⟩ ⟨p1, p2, p3, p4⟩ = 0
 · rw [if_pos hq]
   obtain ⟨V, hV⟩ : ∃ V, checkCircleV (jP u ⟨c, ws, ts⟩ ⟨d, ws2, ts2⟩ ⟨p1, p2, p3, p4⟩) (jL u ⟨c, ws, ts⟩ ⟨d, ws2, ts2⟩ ⟨p1, p2, p3, p4⟩) x = V := ⟨_, rfl⟩
   rw [hV]
   have EV := Lib.hid hV; clear hV
   obtain ⟨V1, V2⟩ := V
   dsimp only
   go_enter Tryz.func19, Tryz.ntmps19
   obtain ⟨a4, a5, a6, a0, a1⟩ := ent4 w #[.int .i64 c, .slice A n k, .slice B m j] 24 #[.int .i64 d, .slice C n2 k2, .slice D m2 j2] 24 #[.int .i64 p1, .int .i64 p2, .int .i64 p3, .int .i64 p4] 28 #[.bool u, .slice X xn xk] 40
   have a8 := rI h1 a1
   have a9 := rI h2 a1
   have b0 := rI h3 a1
   have b1 := rI h4 a1
   have a7 := iI hx a1
   clear h1 h2 h3 h4 hx
   obtain ⟨b7, b8, b9⟩ := at3 a4
   obtain ⟨c0, c1, c2⟩ := at3 a5
   obtain ⟨c3, c4, c5, c6⟩ := at4 a6
   obtain ⟨c7, c8⟩ := at2 a0
   have hc := pairOf_yes c A B n k m j ws ts d C D n2 k2 m2 j2 ws2 ts2 p1 p2 p3 p4 _ a8.out a9.out hn hm b0.out b1.out hn2 hm2 hq
   have HC := Lib.hid hc; clear hc
   go_wp2_with fail
   refine HC.out.mono ?_
   rintro e b4 ⟨rfl, hb⟩
   clear HC
   clear b7 b8 b9 c0 c1 c2 c3 c4 c5 c6 c7 c8
   have a3 := Lib.hid hb
   clear hb
   replace a4 := kH a4 a3
   obtain ⟨c9, d0, d1⟩ := at3 a4
   replace a5 := kH a5 a3
   obtain ⟨d2, d3, d4⟩ := at3 a5
   replace a6 := kH a6 a3
   obtain ⟨d5, d6, d7, d8⟩ := at4 a6
   replace a0 := kH a0 a3
   obtain ⟨d9, e0⟩ := at2 a0
   clear c9 d0 d1 d2 d3 d4 d5 d6 d7 d8 d9 e0
   obtain ⟨o_, ho_⟩ : ∃ o, o = ((.cells #[.int .i64 c, .slice A n k, .slice B m j, .int .i64 d, .slice C n2 k2, .slice D m2 j2, .int .i64 p1, .int .i64 p2, .int .i64 p3, .int .i64 p4] 74) : Obj) := ⟨_, rfl⟩
   replace a1 := bA (bH a1 a3) o_
   replace a8 := rA (rH a8 a3) o_
   replace a9 := rA (rH a9 a3) o_
   replace b0 := rA (rH b0 a3) o_
   replace b1 := rA (rH b1 a3) o_
   replace a7 := iA (iH a7 a3) o_
   replace a4 := kA a4 o_
   replace a5 := kA a5 o_
   replace a6 := kA a6 o_
   replace a0 := kA a0 o_
   subst ho_
   have a2 := Lib.hid (Blk.new b4 74 #[.int .i64 c, .slice A n k, .slice B m j, .int .i64 d, .slice C n2 k2, .slice D m2 j2, .int .i64 p1, .int .i64 p2, .int .i64 p3, .int .i64 p4])
   obtain ⟨e1, e2, e3⟩ := at3 a4
   obtain ⟨e4, e5, e6⟩ := at3 a5
   obtain ⟨e7, e8, e9, f0⟩ := at4 a6
   obtain ⟨f1, f2⟩ := at2 a0
   obtain ⟨f3, f4, f5, f6, f7, f8, f9, g0, g1, g2⟩ := at10 a2
   have HQ1 := Lib.hid (asked_ok hq).1
   have HL1 := Lib.hid (show (jL u ⟨c, ws, ts⟩ ⟨d, ws2, ts2⟩ ⟨p1, p2, p3, p4⟩).length ≤ 400 from jL_len hq u)
   clear hq
   go_wp2_with fail
   clear e1 e2 e3 e4 e5 e6 e7 e8 e9 f0 f1 f2 f3 f4 f5 f6 f7 f8 f9 g0 g1 g2
   replace a1 := bD a1
   replace a8 := rD a8
   replace a9 := rD a9
   replace b0 := rD b0
   replace b1 := rD b1
   replace a7 := iD a7
   replace a4 := kD a4
   replace a5 := kD a5
   replace a6 := kD a6
   replace a0 := kD a0
   replace a2 := kD a2
   refine wp_region_held_drew (S := (fun W' => Blk W' (b4.heap.size) 74 #[.int .i64 c, .slice A n k, .slice B m j, .int .i64 d, .slice C n2 k2, .slice D m2 j2, .int .i64 p1, .int .i64 p2, .int .i64 p3, .int .i64 p4] ∧ Blk W' (w.heap.size + 1 + 1 + 1) 40 #[.bool u, .slice X xn xk])) (by kernel_rfl) ⟨a2.out, a0.out⟩ (fun _ => ?_)
   obtain ⟨g6, b5⟩ : ∃ w', w' = ((b4.alloc (.cells #[.int .i64 c, .slice A n k, .slice B m j, .int .i64 d, .slice C n2 k2, .slice D m2 j2, .int .i64 p1, .int .i64 p2, .int .i64 p3, .int .i64 p4] 74)).drew) := ⟨_, rfl⟩
   rw [← b5] at a1 a8 a9 b0 b1 a7 a4 a5 a6 a0 a2
   rw [← b5]
   clear b5
   refine' tkH 0 ⟨a2.out, a0.out⟩ ?g3 ?_
   case g3 => (rintro W' ⟨hS0, hS1⟩; have hc0 := Blk.nth hS0 0; have hc1 := Blk.nth hS0 1; have hc2 := Blk.nth hS0 2; have hc3 := Blk.nth hS0 3; have hc4 := Blk.nth hS0 4; have hc5 := Blk.nth hS0 5; have hc6 := Blk.nth hS0 6; have hc7 := Blk.nth hS0 7; have hc8 := Blk.nth hS0 8; have hc9 := Blk.nth hS0 9; clear hS0 hS1; go_simp; try with_reducible rfl)
   refine' twH 1 ⟨a2.out, a0.out⟩ ?_
   refine' tkH 2 ⟨a2.out, a0.out⟩ ?g4 ?_
   case g4 => (rintro W' ⟨hS0, hS1⟩; have hc0 := Blk.nth hS1 0; clear hS0 hS1; go_simp; try with_reducible rfl)
   refine' twH 4 ⟨a2.out, a0.out⟩ ?_
   try simp only [Act.put, qsA, qsZ, qsS]
   refine' tkH 5 ⟨a2.out, a0.out⟩ ?g5 ?_
   case g5 => (rintro W' ⟨hS0, hS1⟩; have hc0 := Blk.nth hS1 1; clear hS0 hS1; go_simp; try with_reducible rfl)
   try simp only [Act.put, qsA, qsZ, qsS]
   refine oneH 3 rfl fun K hK => ?_
   go_simp
   go_at_call 53
   refine (joint_q u c A B n k m j ws ts d C D n2 k2 m2 j2 ws2 ts2 p1 p2 p3 p4 _ a8.out a9.out hn hm b0.out b1.out hn2 hm2 HQ1.out).mono ?_
   rintro e g7 ⟨Ar, nr, kr, rfl, hrl, b2⟩
   dsimp only
   replace b2 := Lib.hid b2
   have b6 := Lib.hid (hrl)
   replace a2 := kH a2 b2
   replace a0 := kH a0 b2
   refine hK.out _ _ ⟨a2.out, a0.out⟩ (fun _ => ?_); clear hK K
   try simp only [Act.put, qsA, qsZ, qsS]
   refine oneH 6 rfl fun K hK => ?_
   replace a7 := iH a7 b2
   have hl_ : nr ≤ maxLen := by have h1 := (b6.out).len; have h2 := HL1.out; unfold maxLen; omega
   go_simp
   go_at_call 52
   refine (CheckCircle_is _ Ar X nr kr xn xk _ x _ b6.out hl_ a7.out hxm _ EV.out).mono ?_
   rintro e g8 ⟨rfl, b3⟩
   dsimp only
   replace b3 := Lib.hid b3
   replace a2 := kH a2 b3
   replace a0 := kH a0 b3
   refine hK.out _ _ ⟨a2.out, a0.out⟩ (fun _ => ?_); clear hK K
   try simp only [Act.put, qsA, qsZ, qsS]
   refine' twH 7 ⟨a2.out, a0.out⟩ ?_
   refine' twH 8 ⟨a2.out, a0.out⟩ ?_
   refine' twH 9 ⟨a2.out, a0.out⟩ ?_
   refine' twH 10 ⟨a2.out, a0.out⟩ ?_
   try simp only [Act.put, qsA, qsZ, qsS]
   refine wpAnyH_done (by kernel_rfl) ?_ _
   go_wp2
   go_ret2
   replace a1 := bH (bH a1 b2) b3
   exact ⟨rfl, a1.out⟩
 · rw [if_neg hq]
   obtain ⟨q, hq2⟩ : ∃ q, asked ⟨c, ws, ts⟩ ⟨d, ws2, ts2⟩ ⟨p1, p2, p3, p4⟩ = q := ⟨_, rfl⟩
   rw [hq2] at hq
   rw [hq2]
   have hne := hq
   have hqe : (q != 0) = true := by simpa using hq
   clear hq
   have hq := hq2; clear hq2
   dsimp only
   go_enter Tryz.func19, Tryz.ntmps19
   obtain ⟨a4, a5, a6, a0, a1⟩ := ent4 w #[.int .i64 c, .slice A n k, .slice B m j] 24 #[.int .i64 d, .slice C n2 k2, .slice D m2 j2] 24 #[.int .i64 p1, .int .i64 p2, .int .i64 p3, .int .i64 p4] 28 #[.bool u, .slice X xn xk] 40
   have a8 := rI h1 a1
   have a9 := rI h2 a1
   have b0 := rI h3 a1
   have b1 := rI h4 a1
   have a7 := iI hx a1
   clear h1 h2 h3 h4 hx
   obtain ⟨b7, b8, b9⟩ := at3 a4
   obtain ⟨c0, c1, c2⟩ := at3 a5
   obtain ⟨c3, c4, c5, c6⟩ := at4 a6
   obtain ⟨c7, c8⟩ := at2 a0
   have hc := pairOf_no c A B n k m j ws ts d C D n2 k2 m2 j2 ws2 ts2 p1 p2 p3 p4 _ a8.out a9.out hn hm b0.out b1.out hn2 hm2 q hq hne
   have HC := Lib.hid hc; clear hc
   go_wp2_with fail
   refine HC.out.mono ?_
   rintro e b4 ⟨rfl, hb⟩
   clear HC
   clear b7 b8 b9 c0 c1 c2 c3 c4 c5 c6 c7 c8
   have a3 := Lib.hid hb
   clear hb
   replace a4 := kH a4 a3
   obtain ⟨c9, d0, d1⟩ := at3 a4
   replace a5 := kH a5 a3
   obtain ⟨d2, d3, d4⟩ := at3 a5
   replace a6 := kH a6 a3
   obtain ⟨d5, d6, d7, d8⟩ := at4 a6
   replace a0 := kH a0 a3
   obtain ⟨d9, e0⟩ := at2 a0
   clear c9 d0 d1 d2 d3 d4 d5 d6 d7 d8 d9 e0
   obtain ⟨o_, ho_⟩ : ∃ o, o = ((.cells #[.int .i64 0, .slice none 0 0, .slice none 0 0, .int .i64 0, .slice none 0 0, .slice none 0 0, .int .i64 0, .int .i64 0, .int .i64 0, .int .i64 0] 74) : Obj) := ⟨_, rfl⟩
   replace a1 := bA (bH a1 a3) o_
   replace a8 := rA (rH a8 a3) o_
   replace a9 := rA (rH a9 a3) o_
   replace b0 := rA (rH b0 a3) o_
   replace b1 := rA (rH b1 a3) o_
   replace a7 := iA (iH a7 a3) o_
   replace a4 := kA a4 o_
   replace a5 := kA a5 o_
   replace a6 := kA a6 o_
   replace a0 := kA a0 o_
   subst ho_
   have a2 := Lib.hid (Blk.new b4 74 #[.int .i64 0, .slice none 0 0, .slice none 0 0, .int .i64 0, .slice none 0 0, .slice none 0 0, .int .i64 0, .int .i64 0, .int .i64 0, .int .i64 0])
   obtain ⟨e1, e2, e3⟩ := at3 a4
   obtain ⟨e4, e5, e6⟩ := at3 a5
   obtain ⟨e7, e8, e9, f0⟩ := at4 a6
   obtain ⟨f1, f2⟩ := at2 a0
   obtain ⟨f3, f4, f5, f6, f7, f8, f9, g0, g1, g2⟩ := at10 a2
   go_wp2
   go_ret2
   exact ⟨rfl, a1.out⟩
end Go.Proofs.YtjjmifcjailpaaaGreat
