import Derived.Test.YtaoanagmgheicaaGreatQEWays
set_option maxHeartbeats 4000000
set_option linter.unusedSimpArgs false
set_option linter.unusedVariables false
namespace Go.Proofs.YtaoanagmgheicaaGreat
open Go.RowKit
theorem bdrewB {B : Nat} {a w : World} (h : Below B a w) (n : Nat) : Below B a (w.drewN n) := h.trans ⟨rfl, rfl, rfl, Nat.le_refl _, fun _ _ => rfl⟩
set_option maxRecDepth 100000 in
theorem SameB_true (A B : Option Addr) (n c m d : Nat) (l : List Bnd) (w : World) (hx : RdB w A n c l) (hy : RdB w B m d l) (hm : n ≤ maxLen) :
 Calls Tryz.prog 29 #[.slice A n c, .slice B m d] w fun e w' => e = .returned (.bool true) ∧ Below w.heap.size w w' := by
 unfold maxLen at hm
 obtain rfl : n = m := hx.len.symm.trans hy.len
 have HX := Lib.hid hx; have HY := Lib.hid hy; clear hx hy
 go_enter Tryz.func29, Tryz.ntmps29
 go_wp2
 go_loopw [5] (fun i wr => ∃ j : Nat, j ≤ n ∧ i = .int .i64 j ∧ Below w.heap.size w wr) (fun i _ => n - (intOf i).toNat)
 case atStart => exact ⟨0, Nat.zero_le _, rfl, Below.refl _ _⟩
 case round =>
  obtain ⟨j, hj, rfl, hb⟩ := hrel
  by_cases hlt : j < n
  · obtain ⟨b, o, f, t, mm, i, rfl, hbw, hx, e0, e1, e2, e3⟩ := (HX.out.below hb).get hlt
    obtain ⟨b', o', f', t', mm', i', rfl, hbw', hx', g0, g1, g2, g3⟩ := (HY.out.below hb).get hlt
    rw [hx] at hx'
    cases hx'
    clear hx
    have HB := Lib.hid hb; clear hb
    go_wp2_with fail
    go_quiet (fail)
    go_wp2
    go_roundw
    case rel => exact ⟨j + 1, by omega, by go_num, bdrewB HB.out _⟩
    case measure => simp [intOf]; omega
  · obtain rfl : j = n := by omega
    go_wp2
    go_ret
    exact ⟨rfl, hb⟩
set_option maxRecDepth 100000 in
theorem SameO_true (c : Int) (A B C D : Option Addr) (n k m j n2 k2 m2 j2 : Nat) (ws ts : List Bnd) (w : World) (h1 : RdB w A n k ws) (h2 : RdB w B m j ts) (hn : n ≤ maxLen) (hm : m ≤ maxLen) (h3 : RdB w C n2 k2 ws) (h4 : RdB w D m2 j2 ts) :
 Calls Tryz.prog 26 #[.agg #[.int .i64 c, .slice A n k, .slice B m j], .agg #[.int .i64 c, .slice C n2 k2, .slice D m2 j2]] w fun e w' => e = .returned (.bool true) ∧ Below w.heap.size w w' := by
  go_enter Tryz.func26, Tryz.ntmps26
  obtain ⟨ba_1, bb_2, bel_3⟩ := ent2 w #[.int .i64 c, .slice A n k, .slice B m j] 24 #[.int .i64 c, .slice C n2 k2, .slice D m2 j2] 24
  have ra_4 := rI h1 bel_3
  have rb_5 := rI h2 bel_3
  have rc_6 := rI h3 bel_3
  have rd_7 := rI h4 bel_3
  clear h1 h2 h3 h4
  obtain ⟨z_8, z_9, z_10⟩ := at3 ba_1
  obtain ⟨z_11, z_12, z_13⟩ := at3 bb_2
  have hcc : (c == c) = true := by simp
  have hc := SameB_true A C n k n2 k2 ws _ ra_4.out rc_6.out hn
  have HC := Lib.hid hc; clear hc
  go_wp2_with fail
  refine HC.out.mono ?_
  rintro e w_14 ⟨rfl, hb⟩
  clear HC
  clear z_8 z_9 z_10 z_11 z_12 z_13
  have hb_15 := Lib.hid hb
  clear hb
  replace ba_1 := kH ba_1 hb_15
  obtain ⟨z_16, z_17, z_18⟩ := at3 ba_1
  replace bb_2 := kH bb_2 hb_15
  obtain ⟨z_19, z_20, z_21⟩ := at3 bb_2
  replace rb_5 := rH rb_5 hb_15
  replace rd_7 := rH rd_7 hb_15
  have hc := SameB_true B D m j m2 j2 ts _ rb_5.out rd_7.out hm
  have HC := Lib.hid hc; clear hc
  go_wp2_with fail
  refine HC.out.mono ?_
  rintro e w_22 ⟨rfl, hb⟩
  clear HC
  clear z_16 z_17 z_18 z_19 z_20 z_21
  have hb_23 := Lib.hid hb
  clear hb
  replace ba_1 := kH ba_1 hb_23
  obtain ⟨z_24, z_25, z_26⟩ := at3 ba_1
  replace bb_2 := kH bb_2 hb_23
  obtain ⟨z_27, z_28, z_29⟩ := at3 bb_2
  go_wp2
  go_ret
  replace bel_3 := bH (bH bel_3 hb_15) hb_23
  exact ⟨rfl, bel_3.out⟩
end Go.Proofs.YtaoanagmgheicaaGreat
