/- For every system GaugeRigid returns true: two points have the same point in Rigid exactly if their difference is fixed. No condition. -/
import Derived.Test.YthlnialipjihdaaShz
import Derived.Test.YthlnialipjihdaaTri
import Derived.Test.YthlnialipjihdaaRows
set_option linter.unusedSimpArgs false
set_option linter.unusedVariables false
namespace Go.Proofs.Ythlnialipjihdaa
open Go.ChangeShapes Go.WideShapes Go.ChangeAt Go.RowKit

/-- A fixed difference. -/
def Fix (l : List Bnd) (P a b : Nat) : Prop := dist l P a b = -dist l P b a
instance (l : List Bnd) (P a b : Nat) : Decidable (Fix l P a b) := inferInstanceAs (Decidable (_ = _))

theorem fix_fin {p : Int} {l : List Bnd} {a b : Nat} (hk : chk p l = 0) (ha : a < 60) (hb : b < 60) (h : Fix l p.toNat a b) : dist l p.toNat a b ≠ Inf ∧ dist l p.toNat b a ≠ Inf := by
  obtain ⟨hp1, hp2, -, -⟩ := chk_ok hk
  have h1 := dist_bd (p := p.toNat) (okB_of hk) (by omega) ha hb
  have h2 := dist_bd (p := p.toNat) (okB_of hk) (by omega) hb ha
  unfold Fix at h
  unfold Inf at h1 h2 ⊢
  omega
theorem fix_symm {l : List Bnd} {P a b : Nat} (h : Fix l P a b) : Fix l P b a := by unfold Fix at h ⊢; omega
theorem fix_trans {p : Int} {l : List Bnd} {a b c : Nat} (hk : chk p l = 0) (hs : (settle l p.toNat zeros).isSome = true) (ha : a < 60) (hb : b < 60) (hc : c < 60) (h1 : Fix l p.toNat a b) (h2 : Fix l p.toNat b c) : Fix l p.toNat a c := by
  obtain ⟨f1, f2⟩ := fix_fin hk ha hb h1
  obtain ⟨f3, f4⟩ := fix_fin hk hb hc h2
  obtain ⟨g1, g2⟩ := dist_tri hk hs ha hb hc f1 f3
  obtain ⟨g3, g4⟩ := dist_tri hk hs hc hb ha f4 f2
  obtain ⟨g5, g6⟩ := dist_tri hk hs ha hc ha g1 g3
  have := dist_self hk hs ha
  unfold Fix at *
  omega

theorem fixK_spec {l : List Bnd} {P p : Nat} : ∀ (n q : Nat), Fix l P (q + n) p → q ≤ fixK l P p n q ∧ fixK l P p n q ≤ q + n ∧ Fix l P (fixK l P p n q) p ∧ ∀ r, q ≤ r → r < fixK l P p n q → ¬ Fix l P r p
  | 0, q, h => ⟨Nat.le_refl _, Nat.le_refl _, h, fun r h1 h2 => by unfold fixK at h2; omega⟩
  | n + 1, q, h => by
    unfold fixK
    by_cases hq : dist l P q p = -dist l P p q
    · rw [if_pos hq]
      exact ⟨Nat.le_refl _, by omega, hq, fun r h1 h2 => by omega⟩
    · rw [if_neg hq]
      obtain ⟨h1, h2, h3, h4⟩ := fixK_spec n (q + 1) (by rw [show q + 1 + n = q + (n + 1) from by omega]; exact h)
      refine ⟨by omega, by omega, h3, fun r r1 r2 => ?_⟩
      by_cases e : r = q
      · subst e; exact hq
      · exact h4 r (by omega) r2

/-- THE SAME POINT EXACTLY IF FIXED. -/
theorem rigid_iff {p : Int} {l : List Bnd} {a b : Nat} (hk : chk p l = 0) (hs : (settle l p.toNat zeros).isSome = true) (ha : a < p.toNat) (hb : b < p.toNat) :
    (Fix l p.toNat a b ↔ rigidP l p.toNat a = rigidP l p.toNat b) ∧ rigidP l p.toNat a ≤ a := by
  obtain ⟨hp1, hp2, -, -⟩ := chk_ok hk
  have hself : ∀ v, v < 60 → Fix l p.toNat v v := fun v hv => by unfold Fix; rw [dist_self hk hs hv]; rfl
  obtain ⟨-, a2, a3, a4⟩ := fixK_spec (l := l) (P := p.toNat) (p := a) a 0 (by rw [Nat.zero_add]; exact hself a (by omega))
  obtain ⟨-, b2, b3, b4⟩ := fixK_spec (l := l) (P := p.toNat) (p := b) b 0 (by rw [Nat.zero_add]; exact hself b (by omega))
  unfold rigidP
  refine ⟨⟨fun h => ?_, fun h => ?_⟩, by omega⟩
  · rcases Nat.lt_trichotomy (fixK l p.toNat a a 0) (fixK l p.toNat b b 0) with h1 | h1 | h1
    · exact absurd (fix_trans hk hs (by omega) (by omega) (by omega) a3 h) (b4 _ (Nat.zero_le _) h1)
    · exact h1
    · exact absurd (fix_trans hk hs (by omega) (by omega) (by omega) b3 (fix_symm h)) (a4 _ (Nat.zero_le _) h1)
  · rw [← h] at b3
    exact fix_trans hk hs (by omega) (by omega) (by omega) (fix_symm a3) b3

theorem rigidL_at (l : List Bnd) {P v : Nat} (hv : v < P) : (rigidL l P)[v]? = some (rigidP l P v : Int) := by
  unfold rigidL
  rw [List.getElem?_map, List.getElem?_range hv]
  rfl
theorem rigidL_length (l : List Bnd) (P : Nat) : (rigidL l P).length = P := by simp [rigidL]

/-- What Fixed answers in a system with a solution. -/
theorem fixed_yes {p : Int} {l : List Bnd} {a b : Nat} (hk : chk p l = 0) (hs : (settle l p.toNat zeros).isSome = true) (ha : a < p.toNat) (hb : b < p.toNat) :
    ∃ x, fixedV p l a b = (x, decide (rigidP l p.toNat a = rigidP l p.toNat b), 0) := by
  have h0 : scode p l [(a : Int), (b : Int)] = 0 := code_pts hk (by simp [isPt]; omega) hs
  have hi := (rigid_iff hk hs ha hb).1
  unfold fixedV
  rw [if_pos h0, Int.toNat_natCast, Int.toNat_natCast]
  by_cases h : dist l p.toNat a b = -dist l p.toNat b a
  · rw [if_pos h, decide_eq_true (hi.1 h)]; exact ⟨_, rfl⟩
  · rw [if_neg h, decide_eq_false (fun e => h (hi.2 e))]; exact ⟨_, rfl⟩

set_option maxRecDepth 100000 in
set_option maxHeartbeats 4000000 in
theorem rig_w (P : Int) (A : Option Addr) (n k : Nat) (l : List Bnd) (w : World) (hr : RdB w A n k l) (hn : n ≤ maxLen) (hw : (decide (P ≤ 9) && decide (n ≤ 20)) = false) :
    Calls Try.prog 16 #[.agg #[.int .i64 P, .slice A n k]] w fun e w' => e = .returned (.bool true) ∧ Below w.heap.size w w' := by
  go_enter Try.func16, Try.ntmps16
  have bel_1 := Lib.hid (show Below w.heap.size w w from Below.refl _ w)
  have rd_2 := Lib.hid (hr)
  clear hr
  have bel_3 := Lib.hid (Below.alloc bel_1.out (bel_1.out.size) (.cells #[.int .i64 P, .slice A n k] 24))
  clear bel_1
  have rd_4 := Lib.hid (RdB.alloc rd_2.out (.cells #[.int .i64 P, .slice A n k] 24))
  clear rd_2
  have srd_5 := Lib.hid (Blk.new w 24 #[.int .i64 P, .slice A n k])
  have hc := (show Calls Try.prog 43 #[.agg #[.int .i64 P, .slice A n k]] ((w.alloc (.cells #[.int .i64 P, .slice A n k] 24))) fun e w' => e = .returned (.bool false) ∧ Below ((w.alloc (.cells #[.int .i64 P, .slice A n k] 24))).heap.size ((w.alloc (.cells #[.int .i64 P, .slice A n k] 24))) w' from by have h := small_any P A n k ((w.alloc (.cells #[.int .i64 P, .slice A n k] 24))); rw [show (decide (P ≤ 9) && decide (n ≤ 20)) = false from hw] at h; exact h)
  have HC := Lib.hid hc; clear hc
  go_wp2_with fail
  refine HC.out.mono ?_
  rintro e w_6 ⟨rfl, hb⟩
  clear HC
  have bel_7 := Lib.hid (Below.trans bel_3.out (Below.mono hb (bel_3.out.size)))
  clear bel_3
  have rd_8 := Lib.hid (RdB.below rd_4.out hb)
  clear rd_4
  have srd_9 := Lib.hid (Blk.keep srd_5.out hb)
  clear srd_5
  clear hb
  have z_10 : (w_6).cell? ⟨w.heap.size, 0, none⟩ = some (.int .i64 P) := Blk.cell srd_9.out 0
  have z_11 : (w_6).cell? ⟨w.heap.size, 1, none⟩ = some (.slice A n k) := Blk.cell srd_9.out 1
  go_wp2_with fail
  refine (alive_ok _).mono ?_
  rintro e w_12 ⟨rfl, hb⟩
  clear z_10 z_11
  have bel_13 := Lib.hid (Below.trans bel_7.out (Below.mono hb (bel_7.out.size)))
  clear bel_7
  have rd_14 := Lib.hid (RdB.below rd_8.out hb)
  clear rd_8
  have srd_15 := Lib.hid (Blk.keep srd_9.out hb)
  clear srd_9
  clear hb
  go_wp2
  go_ret
  exact ⟨rfl, bel_13.out⟩

set_option maxRecDepth 100000 in
set_option maxHeartbeats 4000000 in
theorem rig_err (P : Int) (A : Option Addr) (n k : Nat) (l : List Bnd) (w : World) (hr : RdB w A n k l) (hn : n ≤ maxLen) (hw : (decide (P ≤ 9) && decide (n ≤ 20)) = true) (q : Int) (hq : (q != 0) = true) (E1 : Hid (rigidV P l = ([], q))) :
    Calls Try.prog 16 #[.agg #[.int .i64 P, .slice A n k]] w fun e w' => e = .returned (.bool true) ∧ Below w.heap.size w w' := by
  go_enter Try.func16, Try.ntmps16
  have bel_1 := Lib.hid (show Below w.heap.size w w from Below.refl _ w)
  have rd_2 := Lib.hid (hr)
  clear hr
  have bel_3 := Lib.hid (Below.alloc bel_1.out (bel_1.out.size) (.cells #[.int .i64 P, .slice A n k] 24))
  clear bel_1
  have rd_4 := Lib.hid (RdB.alloc rd_2.out (.cells #[.int .i64 P, .slice A n k] 24))
  clear rd_2
  have srd_5 := Lib.hid (Blk.new w 24 #[.int .i64 P, .slice A n k])
  have hc := (show Calls Try.prog 43 #[.agg #[.int .i64 P, .slice A n k]] ((w.alloc (.cells #[.int .i64 P, .slice A n k] 24))) fun e w' => e = .returned (.bool true) ∧ Below ((w.alloc (.cells #[.int .i64 P, .slice A n k] 24))).heap.size ((w.alloc (.cells #[.int .i64 P, .slice A n k] 24))) w' from by have h := small_any P A n k ((w.alloc (.cells #[.int .i64 P, .slice A n k] 24))); rw [show (decide (P ≤ 9) && decide (n ≤ 20)) = true from hw] at h; exact h)
  have HC := Lib.hid hc; clear hc
  go_wp2_with fail
  refine HC.out.mono ?_
  rintro e w_6 ⟨rfl, hb⟩
  clear HC
  have bel_7 := Lib.hid (Below.trans bel_3.out (Below.mono hb (bel_3.out.size)))
  clear bel_3
  have rd_8 := Lib.hid (RdB.below rd_4.out hb)
  clear rd_4
  have srd_9 := Lib.hid (Blk.keep srd_5.out hb)
  clear srd_5
  clear hb
  have z_10 : (w_6).cell? ⟨w.heap.size, 0, none⟩ = some (.int .i64 P) := Blk.cell srd_9.out 0
  have z_11 : (w_6).cell? ⟨w.heap.size, 1, none⟩ = some (.slice A n k) := Blk.cell srd_9.out 1
  have hc := Rigid_any P A n k l _ rd_8.out hn
  rw [E1.out] at hc
  unfold RetL at hc; dsimp only at hc
  have HC := Lib.hid hc; clear hc
  go_wp2_with fail
  refine HC.out.mono ?_
  rintro e w_12 ⟨Az, nz, cz, rfl, ho, hb⟩
  clear HC
  clear z_10 z_11
  have bel_13 := Lib.hid (Below.trans bel_7.out (Below.mono hb (bel_7.out.size)))
  clear bel_7
  have rd_14 := Lib.hid (RdB.below rd_8.out hb)
  clear rd_8
  have srd_15 := Lib.hid (Blk.keep srd_9.out hb)
  clear srd_9
  have z_16 := Lib.hid ((OwnI.rd ho).1)
  obtain rfl : nz = 0 := z_16.out.len.symm
  clear ho hb
  have z_17 : (w_12).cell? ⟨w.heap.size, 0, none⟩ = some (.int .i64 P) := Blk.cell srd_15.out 0
  have z_18 : (w_12).cell? ⟨w.heap.size, 1, none⟩ = some (.slice A n k) := Blk.cell srd_15.out 1
  go_wp2_with fail
  refine (alive_ok _).mono ?_
  rintro e w_19 ⟨rfl, hb⟩
  clear z_17 z_18
  have bel_20 := Lib.hid (Below.trans bel_13.out (Below.mono hb (bel_13.out.size)))
  clear bel_13
  have rd_21 := Lib.hid (RdB.below rd_14.out hb)
  clear rd_14
  have srd_22 := Lib.hid (Blk.keep srd_15.out hb)
  clear srd_15
  have z_23 := Lib.hid (RdI.below z_16.out hb)
  clear z_16
  clear hb
  go_wp2
  go_ret
  exact ⟨rfl, bel_20.out⟩

set_option maxRecDepth 100000 in
set_option maxHeartbeats 4000000 in
theorem rig_ok (p : Nat) (A : Option Addr) (n k : Nat) (l : List Bnd) (w : World) (hr : RdB w A n k l) (hn : n ≤ maxLen) (hw : (decide ((p : Int) ≤ 9) && decide (n ≤ 20)) = true) (hP2 : p ≤ 60) (E1 : Hid (rigidV p l = (rigidL l p, 0))) (H : Hid (∀ q v, q < p → v < p → ∃ x, fixedV p l (q : Nat) (v : Nat) = (x, decide (rigidP l p q = rigidP l p v), 0))) (HL : Hid (∀ q, q < p → rigidP l p q ≤ q)) :
    Calls Try.prog 16 #[.agg #[.int .i64 (p : Int), .slice A n k]] w fun e w' => e = .returned (.bool true) ∧ Below w.heap.size w w' := by
  go_enter Try.func16, Try.ntmps16
  have bel_1 := Lib.hid (show Below w.heap.size w w from Below.refl _ w)
  have rd_2 := Lib.hid (hr)
  clear hr
  have bel_3 := Lib.hid (Below.alloc bel_1.out (bel_1.out.size) (.cells #[.int .i64 (p : Int), .slice A n k] 24))
  clear bel_1
  have rd_4 := Lib.hid (RdB.alloc rd_2.out (.cells #[.int .i64 (p : Int), .slice A n k] 24))
  clear rd_2
  have srd_5 := Lib.hid (Blk.new w 24 #[.int .i64 (p : Int), .slice A n k])
  have hc := (show Calls Try.prog 43 #[.agg #[.int .i64 (p : Int), .slice A n k]] ((w.alloc (.cells #[.int .i64 (p : Int), .slice A n k] 24))) fun e w' => e = .returned (.bool true) ∧ Below ((w.alloc (.cells #[.int .i64 (p : Int), .slice A n k] 24))).heap.size ((w.alloc (.cells #[.int .i64 (p : Int), .slice A n k] 24))) w' from by have h := small_any (p : Int) A n k ((w.alloc (.cells #[.int .i64 (p : Int), .slice A n k] 24))); rw [show (decide ((p : Int) ≤ 9) && decide (n ≤ 20)) = true from hw] at h; exact h)
  have HC := Lib.hid hc; clear hc
  go_wp2_with fail
  refine HC.out.mono ?_
  rintro e w_6 ⟨rfl, hb⟩
  clear HC
  have bel_7 := Lib.hid (Below.trans bel_3.out (Below.mono hb (bel_3.out.size)))
  clear bel_3
  have rd_8 := Lib.hid (RdB.below rd_4.out hb)
  clear rd_4
  have srd_9 := Lib.hid (Blk.keep srd_5.out hb)
  clear srd_5
  clear hb
  have z_10 : (w_6).cell? ⟨w.heap.size, 0, none⟩ = some (.int .i64 (p : Int)) := Blk.cell srd_9.out 0
  have z_11 : (w_6).cell? ⟨w.heap.size, 1, none⟩ = some (.slice A n k) := Blk.cell srd_9.out 1
  have hc := Rigid_any p A n k l _ rd_8.out hn
  rw [E1.out] at hc
  unfold RetL at hc; dsimp only at hc
  have HC := Lib.hid hc; clear hc
  go_wp2_with fail
  refine HC.out.mono ?_
  rintro e w_12 ⟨Az, nz, cz, rfl, ho, hb⟩
  clear HC
  clear z_10 z_11
  have bel_13 := Lib.hid (Below.trans bel_7.out (Below.mono hb (bel_7.out.size)))
  clear bel_7
  have rd_14 := Lib.hid (RdB.below rd_8.out hb)
  clear rd_8
  have srd_15 := Lib.hid (Blk.keep srd_9.out hb)
  clear srd_9
  have z_16 := Lib.hid ((OwnI.rd ho).1)
  obtain rfl : p = nz := (z_16.out.len.symm.trans (rigidL_length l p)).symm
  clear ho hb
  have z_17 : (w_12).cell? ⟨w.heap.size, 0, none⟩ = some (.int .i64 (p : Int)) := Blk.cell srd_15.out 0
  have z_18 : (w_12).cell? ⟨w.heap.size, 1, none⟩ = some (.slice A n k) := Blk.cell srd_15.out 1
  go_wp2_with fail
  clear z_17 z_18
  go_loopw [34] (fun i wr => ∃ q : Nat, q ≤ p ∧ i = .int .i64 q ∧ RdB wr A n k l ∧ RdI wr Az p cz (rigidL l p) ∧ Blk wr w.heap.size 24 #[.int .i64 (p : Int), .slice A n k] ∧ Below w.heap.size w wr) (fun i _ => p - (intOf i).toNat)
  case atStart => exact ⟨0, Nat.zero_le _, rfl, rd_14.out, z_16.out, srd_15.out, bel_13.out⟩
  case round =>
    clear bel_13 rd_14 z_16 srd_15
    obtain ⟨q, hq, rfl, r1, r2, r3, r4⟩ := hrel
    have R1 := Lib.hid r1; have R2 := Lib.hid r2; have R3 := Lib.hid r3; have R4 := Lib.hid r4; clear r1 r2 r3 r4
    by_cases hlt : q < p
    · have hlt' : (q : Int) < (p : Int) := by omega
      go_wp2
      go_loopw [39] (fun i wr => ∃ v : Nat, v ≤ p ∧ i = .int .i64 v ∧ RdB wr A n k l ∧ RdI wr Az p cz (rigidL l p) ∧ Blk wr w.heap.size 24 #[.int .i64 (p : Int), .slice A n k] ∧ Below w.heap.size w wr) (fun i _ => p - (intOf i).toNat)
      case atStart => exact ⟨0, Nat.zero_le _, rfl, R1.out, R2.out, R3.out, R4.out⟩
      case round =>
        clear R1 R2 R3 R4
        obtain ⟨v, hv, rfl, r1, r2, r3, r4⟩ := hrel
        have R1 := Lib.hid r1; have R2 := Lib.hid r2; have R3 := Lib.hid r3; have R4 := Lib.hid r4; clear r1 r2 r3 r4
        by_cases hlv : v < p
        · have hlv' : (v : Int) < (p : Int) := by omega
          obtain ⟨X, hX⟩ := H.out q v hlt hlv
          have hc := Fixed_any p q v A n k l _ R1.out hn
          rw [hX] at hc
          have HC := Lib.hid hc; clear hc hX
          have y0 : wr.cell? ⟨w.heap.size, 0, none⟩ = some (.int .i64 (p : Int)) := Blk.cell R3.out 0
          have y1 : wr.cell? ⟨w.heap.size, 1, none⟩ = some (.slice A n k) := Blk.cell R3.out 1
          go_wp2_with fail
          refine HC.out.mono ?_
          rintro e w5 ⟨rfl, hb⟩
          clear HC y0 y1
          have r1 := Lib.hid (RdB.below R1.out hb); have r2 := Lib.hid (RdI.below R2.out hb); have r3 := Lib.hid (Blk.keep R3.out hb); have r4 := Lib.hid (Below.trans R4.out (Below.mono hb R4.out.size))
          clear R1 R2 R3 R4 hb
          obtain ⟨bz, oz, hAz⟩ := rdI_some r2.out (rigidL_at l hlt)
          subst hAz
          obtain ⟨ca, cl⟩ := rdI_at r2.out (rigidL_at l hlt); have cb := (rdI_at r2.out (rigidL_at l hlv)).1
          have hle := HL.out q hlt
          by_cases heq : rigidP l p q = rigidP l p v
          · rw [decide_eq_true heq]
            rw [← heq] at cb
            have hgt : decide ((q : Int) < (rigidP l p q : Int)) = false := decide_eq_false (by omega)
            have hgt2 : decide (q < rigidP l p q) = false := decide_eq_false (by omega)
            skip
            generalize rigidP l p q = f1 at *
            go_wp2_with fail
            go_quiet (fail)
            go_wp2
            exact ⟨⟨v + 1, by omega, by go_num, rdB_drewN r1.out _, rdI_drewN r2.out _, blk_drewN r3.out _, bdN r4.out _⟩, by simp [intOf]; omega⟩
          · rw [decide_eq_false heq]
            have hgt : decide ((q : Int) < (rigidP l p q : Int)) = false := decide_eq_false (by omega)
            have hgt2 : decide (q < rigidP l p q) = false := decide_eq_false (by omega)
            have hne : decide ((rigidP l p q : Int) = (rigidP l p v : Int)) = false := decide_eq_false (by omega)
            have hne3 : ((rigidP l p q : Int) == (rigidP l p v : Int)) = false := beq_eq_false_iff_ne.2 (by omega)
            have hne4 : (rigidP l p q == rigidP l p v) = false := beq_eq_false_iff_ne.2 heq
            have hne2 : decide (rigidP l p q = rigidP l p v) = false := decide_eq_false heq
            skip
            generalize rigidP l p q = f1 at *
            generalize rigidP l p v = f2 at *
            go_wp2_with fail
            go_quiet (fail)
            go_wp2
            exact ⟨⟨v + 1, by omega, by go_num, rdB_drewN r1.out _, rdI_drewN r2.out _, blk_drewN r3.out _, bdN r4.out _⟩, by simp [intOf]; omega⟩
        · obtain rfl : v = p := by omega
          go_wp2
          go_roundw
          case rel => exact ⟨q + 1, by omega, by go_num, R1.out, R2.out, R3.out, R4.out⟩
          case measure => simp [intOf]; omega
    · obtain rfl : q = p := by omega
      go_wp2_with fail
      refine (alive_ok _).mono ?_
      rintro e w5 ⟨rfl, hb⟩
      go_wp2
      go_ret
      exact ⟨rfl, Below.trans R4.out (Below.mono hb R4.out.size)⟩

theorem rig_walk (w : World) (P : Int) (A : Option Addr) (n k : Nat) (l : List Bnd) (_ : (Lit.int .i64 P).wf = true) (hr : RdB w A n k l) (hn : n ≤ maxLen) :
    Calls Try.prog 16 #[.agg #[.int .i64 P, .slice A n k]] w fun e w' => e = .returned (.bool true) ∧ Below w.heap.size w w' := by
  cases hw : (decide (P ≤ 9) && decide (n ≤ 20))
  · exact rig_w P A n k l w hr hn hw
  · by_cases h1 : scode P l [] = 0
    · obtain ⟨hk, -, hs⟩ := scode_ok h1
      obtain ⟨hp1, hp2, -, -⟩ := chk_ok hk
      obtain ⟨p, rfl⟩ := Int.eq_ofNat_of_zero_le (show 0 ≤ P by omega)
      exact rig_ok p A n k l w hr hn hw (by omega) (Lib.hid (by unfold rigidV; rw [if_pos h1, Int.toNat_natCast])) (Lib.hid fun q v hq hv => fixed_yes hk hs hq hv) (Lib.hid fun q hq => (rigid_iff hk hs hq hq).2)
    · exact rig_err P A n k l w hr hn hw (scode P l []) (by simpa using h1) (Lib.hid (by unfold rigidV; rw [if_neg h1]))

set_option maxRecDepth 100000 in
theorem gaugeRigid_lifted (os : Os) (started : os.Started) (H : Type) (enc : TypeId × Value → H) :
    ReturnsInHanded {} Try.checked os 16 .any (Rows.gaugeRigidSpec.pre6 enc Try.prog Try.f16 Rows.gaugeRigidRow.domain false) (Rows.gaugeRigidSpec.post enc Try.prog Try.f16 false true false false) := by
  refine returnsInHanded_of_change (C := Try.checked) Law.own started (by kernel_rfl) Try.func16
    (ChangeSpec.witness6 (enc := enc) (C := Try.checked) false ⟨#[], #[.agg #[.int .i64 0, .slice none 0 0]], []⟩ 8 (by kernel_rfl) (by kernel_rfl) (by kernel_rfl) (by kernel_rfl)) ?_
  intro W base args ds gs before hval0 hW hcnd _
  have hval : ∀ (j : Nat) t v, Try.f16.params[j]? = some t → args[j]? = some v → Value.okWide Try.prog W .any base t v := hval0
  have hW' := hW
  obtain ⟨p, q, hA0, hV, rfl, hfz, hnd⟩ := hW
  have hA : DataW.TrodAll enc Try.prog W 0 (fun _ => true) true Try.f16.params.toList args.toList ds p := hA0
  rw [Try.params16] at hA hval
  obtain ⟨v0, vs0, d0, ds0, p0, q0, hargs, rfl, rfl, h0, r0⟩ := trodAll_cons hA
  obtain ⟨rfl, rfl, rfl⟩ := trodAll_nil r0
  obtain rfl : args = #[v0] := by cases args; simp_all
  obtain ⟨rfl, rfl⟩ := trodVars_none hV
  have k0 := h0
  have lt0 : ∀ x ∈ p0, x.block < W.heap.size := by obtain ⟨m, hm⟩ := k0; exact DataW.trod_lt m _ _ _ hm
  obtain ⟨P0, A0, n0, c0, l0, rfl, w0, rd0, mx0⟩ := open_sys (hval 0 24 v0 rfl rfl) h0
  clear hA0 hval0
  refine (rig_walk W P0 A0 n0 c0 l0 w0 rd0 mx0).mono fun e W' ⟨he, bel⟩ => ?_
  subst he
  exact ⟨_, rfl, _, _, _, [], _, [], hW', trodAll_mk1 (shut_bool Try.underlying4 _), (trodAll_cons_mk (Below.trod Law.laidOut (by kernel_rfl) (of_decide_eq_true (by kernel_rfl)) k0 bel lt0) trodAll_mk0), rfl, bel.frame _, fun h => by cases h⟩

theorem gaugeRigid_over : Rows.gaugeRigidRow.holds Try.pinned (OpenSpec.ofChange Rows.gaugeRigidSpec) :=
  OpenClaim.holds_of_wide 16 Try.f16 rfl rfl rfl rfl rfl rfl rfl ⟨rfl, rfl, rfl, rfl, rfl⟩ rfl rfl rfl rfl rfl (by kernel_rfl) Try.func16 (by kernel_rfl)
    (of_decide_eq_true (by kernel_rfl)) (by unfold Func.isWrapper; first | (rw [if_pos (by decide +kernel)]; kernel_rfl) | (rw [if_neg (by decide +kernel)]; exact ⟨rfl, rfl⟩))
    (fun os started H enc _ => gaugeRigid_lifted os started H enc)

theorem gaugeRigid_proved : Rows.GaugeRigidSaid := gaugeRigid_over
end Go.Proofs.Ythlnialipjihdaa
