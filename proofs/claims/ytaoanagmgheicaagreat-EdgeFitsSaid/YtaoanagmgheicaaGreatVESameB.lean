import Derived.Test.YtaoanagmgheicaaGreatQEWays
set_option linter.unusedSimpArgs false
set_option linter.unusedVariables false
namespace Go.Proofs.YtaoanagmgheicaaGreat
open Go.RowKit
theorem bdrewB {B : Nat} {a w : World} (h : Below B a w) (n : Nat) : Below B a (w.drewN n) := h.trans ⟨rfl, rfl, rfl, Nat.le_refl _, fun _ _ => rfl⟩
set_option maxRecDepth 100000 in
set_option maxHeartbeats 4000000 in
theorem SameB_true (A B : Option Addr) (n c m d : Nat) (l : List Bnd) (w : World) (hx : RdB w A n c l) (hy : RdB w B m d l) (hm : n ≤ maxLen) :
 Calls Tryz.prog 29 #[.slice A n c, .slice B m d] w fun e w' => e = .returned (.bool true) ∧ Below w.heap.size w w' := by
 unfold maxLen at hm
 obtain rfl : n = m := hx.len.symm.trans hy.len
 have HX := Lib.hid hx; have HY := Lib.hid hy; clear hx hy
 go_enter Tryz.func29, Tryz.ntmps29
 go_wp2
 go_loopw [5] (fun i wr => ∃ j : Nat, j ≤ n ∧ i = .int .i64 j ∧ Below w.heap.size w wr) (fun i _ => n - (intOf i).toNat)
 case atStart => exact ⟨0, Nat.zero_le _, rfl, Below.refl _ _⟩
 case round =>
  obtain ⟨j, hj, rfl, hb⟩ := hrel
  by_cases hlt : j < n
  · obtain ⟨b, o, f, t, mm, i, rfl, hbw, hx, e0, e1, e2, e3⟩ := (HX.out.below hb).get hlt
    obtain ⟨b', o', f', t', mm', i', rfl, hbw', hx', g0, g1, g2, g3⟩ := (HY.out.below hb).get hlt
    rw [hx] at hx'
    cases hx'
    clear hx
    have HB := Lib.hid hb; clear hb
    go_wp2_with fail
    go_quiet (fail)
    go_wp2
    go_roundw
    case rel => exact ⟨j + 1, by omega, by go_num, bdrewB HB.out _⟩
    case measure => simp [intOf]; omega
  · obtain rfl : j = n := by omega
    go_wp2
    go_ret
    exact ⟨rfl, hb⟩
end Go.Proofs.YtaoanagmgheicaaGreat
