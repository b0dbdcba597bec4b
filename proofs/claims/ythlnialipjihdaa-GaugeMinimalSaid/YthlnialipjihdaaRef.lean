/- The reference's small functions: within, point, Same, has, CheckSystem. -/
import Derived.Test.YthlnialipjihdaaMem
import Derived.BigQuiet
import Derived.Test.YthlnialipjihdaaEnds
import Derived.Test.YthlnialipjihdaaJoined
import Derived.Laws.AppendOwnNone
set_option linter.unusedSimpArgs false
set_option linter.unusedVariables false
namespace Go.Proofs.Ythlnialipjihdaa
open Go.RowKit

theorem rwithin_any (n lo hi : Int) (w : World) :
    Calls Try.prog 68 #[.int .i64 n, .int .i64 lo, .int .i64 hi] w fun e w' => e = .returned (.bool (decide (lo ≤ n) && decide (n ≤ hi))) ∧ w = w' := by
  by_cases h : lo ≤ n
  · go_enter Try.func68, Try.ntmps68
    go_wp2
    go_ret
    exact ⟨by simp [h], rfl⟩
  · go_enter Try.func68, Try.ntmps68
    go_wp2
    go_ret
    exact ⟨by simp [h]; try omega, rfl⟩

theorem rpoint_any (p : Int) (A : Option Addr) (n c : Nat) (a : Int) (w : World) :
    Calls Try.prog 67 #[.agg #[.int .i64 p, .slice A n c], .int .i64 a] w fun e w' => e = .returned (.bool (decide (0 ≤ a) && decide (a < p))) ∧ w' = w.alloc (.cells #[.int .i64 p, .slice A n c] 24) := by
  by_cases h : 0 ≤ a
  · go_enter Try.func67, Try.ntmps67
    go_wp2
    go_ret
    exact ⟨by simp [h], rfl⟩
  · go_enter Try.func67, Try.ntmps67
    go_wp2
    go_ret
    exact ⟨by simp [h]; try omega, rfl⟩

set_option maxHeartbeats 1000000 in
theorem has_any (A : Option Addr) (m d : Nat) (x : List Int) (v : Int) (w : World) (hr : RdI w A m d x) (hm : m ≤ maxLen) :
    Calls Try.prog 108 #[.slice A m d, .int .i64 v] w fun e w' => e = .returned (.bool (x.contains v)) ∧ w = w' := by
  unfold maxLen at hm
  have hl := hr.len
  have HR := Lib.hid hr; have HL := Lib.hid hl; clear hr hl
  go_enter Try.func108, Try.ntmps108
  go_wp2
  go_loopw [5] (fun i wr => ∃ k : Nat, k ≤ m ∧ i = .int .i64 k ∧ v ∉ x.take k ∧ w = wr) (fun i _ => m - (intOf i).toNat)
  case atStart => exact ⟨0, Nat.zero_le _, rfl, by simp, rfl⟩
  case round =>
    obtain ⟨k, hk, rfl, hno, rfl⟩ := hrel
    have HNO := Lib.hid hno; clear hno
    by_cases hlt : k < m
    · obtain ⟨b, o, u, rfl, hbw, hx, c0⟩ := HR.out.get hlt
      have HX := Lib.hid hx; clear hx
      by_cases hu : u = v
      · have h1 : (u == v) = true := by simpa using hu
        have HU := Lib.hid hu; clear hu
        go_wp2
        go_ret
        exact ⟨ret_bool (by rw [List.contains_iff_mem.2 (by rw [← HU.out]; exact List.mem_of_getElem? HX.out)]), by first | rfl | trivial⟩
      · have h1 : (u == v) = false := by simpa using hu
        have HU := Lib.hid hu; clear hu
        go_wp2
        go_roundw
        case rel => exact ⟨k + 1, by omega, by go_num, (by
          rw [List.take_add_one, HX.out]
          intro h
          rcases List.mem_append.1 h with h | h
          · exact HNO.out h
          · simp at h; exact HU.out h.symm), by first | rfl | trivial⟩
        case measure => simp [intOf]; omega
    · obtain rfl : k = m := by omega
      have hno : v ∉ x := by have := HNO.out; rwa [List.take_of_length_le (by rw [HL.out]; exact Nat.le_refl _)] at this
      have HN := Lib.hid hno; clear hno
      go_wp2
      go_ret
      exact ⟨ret_bool (by symm; rw [← Bool.not_eq_true, List.contains_iff_mem]; exact HN.out), by first | rfl | trivial⟩

set_option maxHeartbeats 1000000 in
theorem Same_any (A B : Option Addr) (m d m' d' : Nat) (x y : List Int) (w : World) (hx : RdI w A m d x) (hy : RdI w B m' d' y) (hm : m ≤ maxLen) :
    Calls Try.prog 27 #[.slice A m d, .slice B m' d'] w fun e w' => e = .returned (.bool (decide (x = y))) ∧ Below w.heap.size w w' := by
  unfold maxLen at hm
  have hl := hx.len
  have hl' := hy.len
  have HX := Lib.hid hx; have HY := Lib.hid hy; have HL := Lib.hid hl; have HL' := Lib.hid hl'; clear hx hy hl hl'
  by_cases hmm : m = m'
  · subst hmm
    go_enter Try.func27, Try.ntmps27
    go_wp2
    go_loopw [5] (fun i wr => ∃ k : Nat, k ≤ m ∧ i = .int .i64 k ∧ x.take k = y.take k ∧ Below w.heap.size w wr) (fun i _ => m - (intOf i).toNat)
    case atStart => exact ⟨0, Nat.zero_le _, rfl, by simp, Below.refl _ _⟩
    case round =>
      obtain ⟨k, hk, rfl, heq, hb⟩ := hrel
      have HE := Lib.hid heq; clear heq
      by_cases hlt : k < m
      · obtain ⟨b, o, u, rfl, hbw, hx, c0⟩ := (HX.out.below hb).get hlt
        obtain ⟨b', o', u', rfl, hbw', hx', c0'⟩ := (HY.out.below hb).get hlt
        have HXX := Lib.hid hx; have HYY := Lib.hid hx'; clear hx hx'
        by_cases hu : u = u'
        · have h1 : (u != u') = false := by simpa using hu
          have HU := Lib.hid hu; clear hu
          go_wp2_with fail
          go_quiet (fail)
          go_wp2
          go_roundw
          case rel => exact ⟨k + 1, by omega, by go_num, by rw [List.take_add_one, List.take_add_one, HE.out, HXX.out, HYY.out, HU.out], hb.trans ⟨rfl, rfl, rfl, Nat.le_refl _, fun _ _ => rfl⟩⟩
          case measure => simp [intOf]; omega
        · have h1 : (u != u') = true := by simpa using hu
          have HU := Lib.hid hu; clear hu
          go_wp2_with fail
          go_quiet (fail)
          go_wp2
          go_ret
          exact ⟨ret_bool (by
            symm
            apply decide_eq_false
            intro h
            rw [h, HYY.out] at HXX
            exact HU.out (by injection HXX.out with h; exact h.symm)), hb.trans ⟨rfl, rfl, rfl, Nat.le_refl _, fun _ _ => rfl⟩⟩
      · obtain rfl : k = m := by omega
        go_wp2
        go_ret
        exact ⟨ret_bool (by
          symm
          apply decide_eq_true
          have := HE.out
          rwa [List.take_of_length_le (by rw [HL.out]; exact Nat.le_refl _), List.take_of_length_le (by rw [HL'.out]; exact Nat.le_refl _)] at this), hb⟩
  · have h1 : ((m : Int) != (m' : Int)) = true := by simp; omega
    have H := Lib.hid hmm; clear hmm
    go_enter Try.func27, Try.ntmps27
    go_wp2
    go_ret
    exact ⟨ret_bool (by
      symm
      apply decide_eq_false
      intro h
      exact H.out (by rw [← HL.out, ← HL'.out, h])), Below.refl _ _⟩
end Go.Proofs.Ythlnialipjihdaa

/- The reference's CheckSystem. -/
namespace Go.Proofs.Ythlnialipjihdaa
open Go.RowKit

theorem rwithin_yes (n lo hi : Int) (w : World) (h : lo ≤ n ∧ n ≤ hi) :
    Calls Try.prog 68 #[.int .i64 n, .int .i64 lo, .int .i64 hi] w fun e w' => e = .returned (.bool true) ∧ w = w' :=
  (rwithin_any n lo hi w).mono fun _ _ ⟨h1, h2⟩ => ⟨by simp [h1, h.1, h.2], h2⟩
theorem rwithin_no (n lo hi : Int) (w : World) (h : ¬ (lo ≤ n ∧ n ≤ hi)) :
    Calls Try.prog 68 #[.int .i64 n, .int .i64 lo, .int .i64 hi] w fun e w' => e = .returned (.bool false) ∧ w = w' :=
  (rwithin_any n lo hi w).mono fun _ _ ⟨h1, h2⟩ => ⟨by rw [h1]; congr 2; simpa using h, h2⟩
theorem rpoint_yes (p : Int) (A : Option Addr) (n c : Nat) (a : Int) (w : World) (h : 0 ≤ a ∧ a ≤ p - 1) :
    Calls Try.prog 67 #[.agg #[.int .i64 p, .slice A n c], .int .i64 a] w fun e w' => e = .returned (.bool true) ∧ w' = w.alloc (.cells #[.int .i64 p, .slice A n c] 24) :=
  (rpoint_any p A n c a w).mono fun _ _ ⟨h1, h2⟩ => ⟨by rw [h1]; congr 2; simp; omega, h2⟩
theorem rpoint_no (p : Int) (A : Option Addr) (n c : Nat) (a : Int) (w : World) (h : ¬ (0 ≤ a ∧ a ≤ p - 1)) :
    Calls Try.prog 67 #[.agg #[.int .i64 p, .slice A n c], .int .i64 a] w fun e w' => e = .returned (.bool false) ∧ w' = w.alloc (.cells #[.int .i64 p, .slice A n c] 24) :=
  (rpoint_any p A n c a w).mono fun _ _ ⟨h1, h2⟩ => ⟨by rw [h1]; congr 2; simp; omega, h2⟩

set_option maxHeartbeats 2000000 in
theorem rCheckSystem_any (p : Int) (A : Option Addr) (n c : Nat) (l : List Bnd) (w : World) (hr : RdB w A n c l) (hn : n ≤ maxLen) :
    Calls Try.prog 62 #[.agg #[.int .i64 p, .slice A n c]] w fun e w' => e = .returned (.int .i64 (chk p l)) ∧ Below w.heap.size w w' := by
  unfold maxLen at hn
  have HR := Lib.hid hr
  by_cases h : p ≤ 60
  · by_cases h2 : n ≤ 400
    · by_cases h1 : 1 ≤ p
      · have hl := hr.len
        have HL := Lib.hid hl; clear hl hr
        have b0 := Blk.new w 24 #[.int .i64 p, .slice A n c]
        have B0 := Lib.hid b0; clear b0
        have hB : Below w.heap.size w (w.alloc (.cells #[.int .i64 p, .slice A n c] 24)) := (Below.refl _ w).alloc (Nat.le_refl _) _
        go_enter Try.func62, Try.ntmps62
        go_wp2
        go_loopw [3] (fun i wr => ∃ k : Nat, k ≤ n ∧ i = .int .i64 k ∧ (l.take k).all (okBnd (p - 1)) = true ∧ Blk wr w.heap.size 24 #[.int .i64 p, .slice A n c] ∧ Below w.heap.size w wr) (fun i _ => n - (intOf i).toNat)
        case atStart => exact ⟨0, Nat.zero_le _, rfl, rfl, B0.out, hB⟩
        case round =>
          obtain ⟨k, hk, rfl, hall, c0, hb⟩ := hrel
          have HA := Lib.hid hall; clear hall
          have hz := Blk.lt c0
          have y0 : wr.cell? ⟨w.heap.size, 0, none⟩ = some (.int .i64 p) := c0.cell 0
          have y1 : wr.cell? ⟨w.heap.size, 1, none⟩ = some (.slice A n c) := c0.cell 1
          have C0 := Lib.hid c0; clear c0
          by_cases hlt : k < n
          · obtain ⟨b, o, f, t, m, i, rfl, hbw, hx, c0, c1, c2, c3⟩ := (HR.out.below hb).get hlt
            have HX := Lib.hid hx; clear hx
            by_cases hf : 0 ≤ f ∧ f ≤ p - 1
            · have hpf := fun w => rpoint_yes p (some ⟨b, o, none⟩) n c f w hf
              by_cases ht : 0 ≤ t ∧ t ≤ p - 1
              · have hpt := fun w => rpoint_yes p (some ⟨b, o, none⟩) n c t w ht
                have HPF := Lib.hid hpf; have HPT := Lib.hid hpt; clear hpf hpt
                by_cases hft : f = t
                · have hok : okBnd (p - 1) ⟨f, t, m, i⟩ = false := by simp [okBnd, hft]
                  have h9 : (f == t) = true := by simpa using hft
                  clear hft
                  have HO := Lib.hid hok; clear hok
                  go_wp2_with (first | (go_at_call 67; with_reducible refine (HPF.out _).mono ?_; rintro e w' ⟨rfl, rfl⟩) | (go_at_call 67; with_reducible refine (HPT.out _).mono ?_; rintro e w' ⟨rfl, rfl⟩))
                  go_ret
                  exact ⟨ret_int (by rw [chk, if_neg (by rw [HL.out]; omega), if_neg (by omega), if_neg]; rw [all_no HX.out HO.out]; simp), (by have hsz_ := Below.size hb; repeat' (first | with_reducible exact hb | with_reducible exact Below.refl _ _ | with_reducible refine Below.alloc ?_ ?_ _ | with_reducible refine Below.setCell ?_ ?_ _ | with_reducible refine Below.drew ?_ | with_reducible refine below_setRow ?_ ?_ _ | omega | (simp; done) | (simp; omega)))⟩
                · have h9 : (f == t) = false := by simpa using hft
                  by_cases hm : -1000000 ≤ m ∧ m ≤ 1000000
                  · have hwm := fun w => rwithin_yes m (-1000000) 1000000 w hm
                    by_cases hi : 0 ≤ i ∧ i ≤ 1000000
                    · have hwi := fun w => rwithin_yes i 0 1000000 w hi
                      have hok : okBnd (p - 1) ⟨f, t, m, i⟩ = true := by simp [okBnd, hft, hf, ht, hm, hi]
                      have HWM := Lib.hid hwm; have HWI := Lib.hid hwi; clear hwm hwi hft hm hi hf ht
                      have HO := Lib.hid hok; clear hok
                      go_wp2_with (first | (go_at_call 67; with_reducible refine (HPF.out _).mono ?_; rintro e w' ⟨rfl, rfl⟩) | (go_at_call 67; with_reducible refine (HPT.out _).mono ?_; rintro e w' ⟨rfl, rfl⟩) | (go_at_call 68; with_reducible refine (HWM.out _).mono ?_; rintro e w' ⟨rfl, rfl⟩) | (go_at_call 68; with_reducible refine (HWI.out _).mono ?_; rintro e w' ⟨rfl, rfl⟩))
                      go_roundw
                      case rel => exact ⟨k + 1, by omega, by go_num, all_take_succ HX.out HA.out HO.out, ((C0.out.alloc _).alloc _).alloc _, (by have hsz_ := Below.size hb; repeat' (first | with_reducible exact hb | with_reducible exact Below.refl _ _ | with_reducible refine Below.alloc ?_ ?_ _ | with_reducible refine Below.setCell ?_ ?_ _ | with_reducible refine Below.drew ?_ | with_reducible refine below_setRow ?_ ?_ _ | omega | (simp; done) | (simp; omega)))⟩
                      case measure => simp [intOf]; omega
                    · have hwi := fun w => rwithin_no i 0 1000000 w hi
                      have hok : okBnd (p - 1) ⟨f, t, m, i⟩ = false := by simp [okBnd]; intros; omega
                      have HWM := Lib.hid hwm; have HWI := Lib.hid hwi; clear hwm hwi hft hm hi hf ht
                      have HO := Lib.hid hok; clear hok
                      go_wp2_with (first | (go_at_call 67; with_reducible refine (HPF.out _).mono ?_; rintro e w' ⟨rfl, rfl⟩) | (go_at_call 67; with_reducible refine (HPT.out _).mono ?_; rintro e w' ⟨rfl, rfl⟩) | (go_at_call 68; with_reducible refine (HWM.out _).mono ?_; rintro e w' ⟨rfl, rfl⟩) | (go_at_call 68; with_reducible refine (HWI.out _).mono ?_; rintro e w' ⟨rfl, rfl⟩))
                      go_ret
                      exact ⟨ret_int (by rw [chk, if_neg (by rw [HL.out]; omega), if_neg (by omega), if_neg]; rw [all_no HX.out HO.out]; simp), (by have hsz_ := Below.size hb; repeat' (first | with_reducible exact hb | with_reducible exact Below.refl _ _ | with_reducible refine Below.alloc ?_ ?_ _ | with_reducible refine Below.setCell ?_ ?_ _ | with_reducible refine Below.drew ?_ | with_reducible refine below_setRow ?_ ?_ _ | omega | (simp; done) | (simp; omega)))⟩
                  · have hwm := fun w => rwithin_no m (-1000000) 1000000 w hm
                    have hok : okBnd (p - 1) ⟨f, t, m, i⟩ = false := by simp [okBnd]; intros; omega
                    have HWM := Lib.hid hwm; clear hwm hft hm hf ht
                    have HO := Lib.hid hok; clear hok
                    go_wp2_with (first | (go_at_call 67; with_reducible refine (HPF.out _).mono ?_; rintro e w' ⟨rfl, rfl⟩) | (go_at_call 67; with_reducible refine (HPT.out _).mono ?_; rintro e w' ⟨rfl, rfl⟩) | (go_at_call 68; with_reducible refine (HWM.out _).mono ?_; rintro e w' ⟨rfl, rfl⟩))
                    go_ret
                    exact ⟨ret_int (by rw [chk, if_neg (by rw [HL.out]; omega), if_neg (by omega), if_neg]; rw [all_no HX.out HO.out]; simp), (by have hsz_ := Below.size hb; repeat' (first | with_reducible exact hb | with_reducible exact Below.refl _ _ | with_reducible refine Below.alloc ?_ ?_ _ | with_reducible refine Below.setCell ?_ ?_ _ | with_reducible refine Below.drew ?_ | with_reducible refine below_setRow ?_ ?_ _ | omega | (simp; done) | (simp; omega)))⟩
              · have hpt := fun w => rpoint_no p (some ⟨b, o, none⟩) n c t w ht
                have hok : okBnd (p - 1) ⟨f, t, m, i⟩ = false := by simp [okBnd]; intros; omega
                have HPF := Lib.hid hpf; have HPT := Lib.hid hpt; clear hpf hpt hf ht
                have HO := Lib.hid hok; clear hok
                go_wp2_with (first | (go_at_call 67; with_reducible refine (HPF.out _).mono ?_; rintro e w' ⟨rfl, rfl⟩) | (go_at_call 67; with_reducible refine (HPT.out _).mono ?_; rintro e w' ⟨rfl, rfl⟩))
                go_ret
                exact ⟨ret_int (by rw [chk, if_neg (by rw [HL.out]; omega), if_neg (by omega), if_neg]; rw [all_no HX.out HO.out]; simp), (by have hsz_ := Below.size hb; repeat' (first | with_reducible exact hb | with_reducible exact Below.refl _ _ | with_reducible refine Below.alloc ?_ ?_ _ | with_reducible refine Below.setCell ?_ ?_ _ | with_reducible refine Below.drew ?_ | with_reducible refine below_setRow ?_ ?_ _ | omega | (simp; done) | (simp; omega)))⟩
            · have hpf := fun w => rpoint_no p (some ⟨b, o, none⟩) n c f w hf
              have hpt := fun w => rpoint_any p (some ⟨b, o, none⟩) n c t w
              have hok : okBnd (p - 1) ⟨f, t, m, i⟩ = false := by simp [okBnd]; intros; omega
              generalize (decide (0 ≤ t) && decide (t < p)) = bt at *
              have HPF := Lib.hid hpf; have HPT := Lib.hid hpt; clear hpf hpt hf
              have HO := Lib.hid hok; clear hok
              go_wp2_with (first | (go_at_call 67; with_reducible refine (HPF.out _).mono ?_; rintro e w' ⟨rfl, rfl⟩) | (go_at_call 67; with_reducible refine (HPT.out _).mono ?_; rintro e w' ⟨rfl, rfl⟩))
              go_ret
              exact ⟨ret_int (by rw [chk, if_neg (by rw [HL.out]; omega), if_neg (by omega), if_neg]; rw [all_no HX.out HO.out]; simp), (by have hsz_ := Below.size hb; repeat' (first | with_reducible exact hb | with_reducible exact Below.refl _ _ | with_reducible refine Below.alloc ?_ ?_ _ | with_reducible refine Below.setCell ?_ ?_ _ | with_reducible refine Below.drew ?_ | with_reducible refine below_setRow ?_ ?_ _ | omega | (simp; done) | (simp; omega)))⟩
          · go_wp2
            go_ret
            obtain rfl : k = n := by omega
            exact ⟨ret_int (by rw [chk, if_neg (by rw [HL.out]; omega), if_neg (by omega), if_pos]; have := HA.out; rwa [List.take_of_length_le (by rw [HL.out]; omega)] at this), hb⟩
      · go_enter Try.func62, Try.ntmps62
        go_wp2
        go_ret
        exact ⟨ret_int (by rw [chk, if_neg (by rw [HR.out.len]; omega), if_pos (by omega)]), (by (repeat (first | exact Below.refl _ _ | refine Below.drew ?_ | refine Below.alloc ?_ (by simp) _)))⟩
    · go_enter Try.func62, Try.ntmps62
      go_wp2
      go_ret
      exact ⟨ret_int (by rw [chk, if_pos (by rw [HR.out.len]; omega)]), (by (repeat (first | exact Below.refl _ _ | refine Below.drew ?_ | refine Below.alloc ?_ (by simp) _)))⟩
  · go_enter Try.func62, Try.ntmps62
    go_wp2
    go_ret
    exact ⟨ret_int (by rw [chk, if_pos (by omega)]), (by (repeat (first | exact Below.refl _ _ | refine Below.drew ?_ | refine Below.alloc ?_ (by simp) _)))⟩
end Go.Proofs.Ythlnialipjihdaa

/- The reference's asked. -/
namespace Go.Proofs.Ythlnialipjihdaa
open Go.RowKit

set_option maxHeartbeats 2000000 in
theorem asked_any (p a b : Int) (A : Option Addr) (n c : Nat) (l : List Bnd) (w : World) (hr : RdB w A n c l) (hn : n ≤ maxLen) :
    Calls Try.prog 77 #[.agg #[.int .i64 p, .slice A n c], .int .i64 a, .int .i64 b] w fun e w' => e = .returned (.int .i64 (gcode p l [a, b])) ∧ Below w.heap.size w w' := by
  have hB : Below w.heap.size w (w.alloc (.cells #[.int .i64 p, .slice A n c] 24)) := (Below.refl _ w).alloc (Nat.le_refl _) _
  have b0 := Blk.new w 24 #[.int .i64 p, .slice A n c]
  have hc := rCheckSystem_any p A n c l _ (hr.below hB) hn
  have HC := Lib.hid hc; have B0 := Lib.hid b0; clear hc hr b0
  unfold gcode
  by_cases hk : chk p l = 0
  · rw [if_pos hk]
    rw [hk] at HC
    clear hk
    by_cases ha : 0 ≤ a ∧ a ≤ p - 1
    · have hpf := fun w => rpoint_yes p A n c a w ha
      by_cases hb : 0 ≤ b ∧ b ≤ p - 1
      · have hpt := fun w => rpoint_yes p A n c b w hb
        rw [if_pos (by simp [isPt]; omega)]
        have HPF := Lib.hid hpf; have HPT := Lib.hid hpt; have HA := Lib.hid ha; have HB := Lib.hid hb; clear hpf hpt ha hb
        go_enter Try.func77, Try.ntmps77
        go_wp2_with fail
        refine HC.out.mono ?_
        rintro e w1 ⟨rfl, hb1⟩
        have hB1 := hB.trans (hb1.mono hB.size)
        have c1 := B0.out.keep hb1
        have hz := c1.lt
        have y0 : w1.cell? ⟨w.heap.size, 0, none⟩ = some (.int .i64 p) := c1.cell 0
        have y1 : w1.cell? ⟨w.heap.size, 1, none⟩ = some (.slice A n c) := c1.cell 1
        clear c1
        go_wp2_with (first | (go_at_call 67; with_reducible refine (HPF.out _).mono ?_; rintro e w' ⟨rfl, rfl⟩) | (go_at_call 67; with_reducible refine (HPT.out _).mono ?_; rintro e w' ⟨rfl, rfl⟩))
        go_ret
        exact ⟨rfl, (by have hsz_ := Below.size hB1; repeat' (first | with_reducible exact hB1 | with_reducible exact Below.refl _ _ | with_reducible refine Below.alloc ?_ ?_ _ | with_reducible refine Below.setCell ?_ ?_ _ | with_reducible refine Below.drew ?_ | with_reducible refine below_setRow ?_ ?_ _ | omega | (simp; done) | (simp; omega)))⟩
      · have hpt := fun w => rpoint_no p A n c b w hb
        rw [if_neg (by simp [isPt]; omega)]
        have HPF := Lib.hid hpf; have HPT := Lib.hid hpt; have HA := Lib.hid ha; have HB := Lib.hid hb; clear hpf hpt ha hb
        go_enter Try.func77, Try.ntmps77
        go_wp2_with fail
        refine HC.out.mono ?_
        rintro e w1 ⟨rfl, hb1⟩
        have hB1 := hB.trans (hb1.mono hB.size)
        have c1 := B0.out.keep hb1
        have hz := c1.lt
        have y0 : w1.cell? ⟨w.heap.size, 0, none⟩ = some (.int .i64 p) := c1.cell 0
        have y1 : w1.cell? ⟨w.heap.size, 1, none⟩ = some (.slice A n c) := c1.cell 1
        clear c1
        go_wp2_with (first | (go_at_call 67; with_reducible refine (HPF.out _).mono ?_; rintro e w' ⟨rfl, rfl⟩) | (go_at_call 67; with_reducible refine (HPT.out _).mono ?_; rintro e w' ⟨rfl, rfl⟩))
        go_ret
        exact ⟨rfl, (by have hsz_ := Below.size hB1; repeat' (first | with_reducible exact hB1 | with_reducible exact Below.refl _ _ | with_reducible refine Below.alloc ?_ ?_ _ | with_reducible refine Below.setCell ?_ ?_ _ | with_reducible refine Below.drew ?_ | with_reducible refine below_setRow ?_ ?_ _ | omega | (simp; done) | (simp; omega)))⟩
    · have hpf := fun w => rpoint_no p A n c a w ha
      rw [if_neg (by simp [isPt]; omega)]
      have hpt := fun w => rpoint_any p A n c b w
      generalize (decide (0 ≤ b) && decide (b < p)) = bt at *
      have HPF := Lib.hid hpf; have HPT := Lib.hid hpt; have HA := Lib.hid ha; clear hpf hpt ha
      go_enter Try.func77, Try.ntmps77
      go_wp2_with fail
      refine HC.out.mono ?_
      rintro e w1 ⟨rfl, hb1⟩
      have hB1 := hB.trans (hb1.mono hB.size)
      have c1 := B0.out.keep hb1
      have hz := c1.lt
      have y0 : w1.cell? ⟨w.heap.size, 0, none⟩ = some (.int .i64 p) := c1.cell 0
      have y1 : w1.cell? ⟨w.heap.size, 1, none⟩ = some (.slice A n c) := c1.cell 1
      clear c1
      go_wp2_with (first | (go_at_call 67; with_reducible refine (HPF.out _).mono ?_; rintro e w' ⟨rfl, rfl⟩) | (go_at_call 67; with_reducible refine (HPT.out _).mono ?_; rintro e w' ⟨rfl, rfl⟩))
      go_ret
      exact ⟨rfl, (by have hsz_ := Below.size hB1; repeat' (first | with_reducible exact hB1 | with_reducible exact Below.refl _ _ | with_reducible refine Below.alloc ?_ ?_ _ | with_reducible refine Below.setCell ?_ ?_ _ | with_reducible refine Below.drew ?_ | with_reducible refine below_setRow ?_ ?_ _ | omega | (simp; done) | (simp; omega)))⟩
  · rw [if_neg hk]
    generalize chk p l = q at *
    have hne : (q != 0) = true := by simpa using hk
    clear hk
    go_enter Try.func77, Try.ntmps77
    go_wp2_with fail
    refine HC.out.mono ?_
    rintro e w1 ⟨rfl, hb1⟩
    go_wp2
    go_ret
    exact ⟨rfl, hB.trans (hb1.mono hB.size)⟩
end Go.Proofs.Ythlnialipjihdaa

/- The reference's copied. -/
namespace Go.Proofs.Ythlnialipjihdaa
open Go.RowKit

set_option maxRecDepth 100000 in
set_option maxHeartbeats 1000000 in
theorem copied_any (A : Option Addr) (n c : Nat) (l : List Bnd) (w : World) (hl : RdB w A n c l) (hs : n ≤ 100000) :
    Calls Try.prog 63 #[.slice A n c] w fun e w' => ∃ B d, e = .returned (.slice B n d) ∧ OwnB w' w.heap.size B n d l ∧ Below w.heap.size w w' := by
  obtain ⟨i0, hi0, hz0, hz1, hz2⟩ := info_parts infoB
  have hown : (w.alloc (.cells #[] 54)).ownsRow w.heap.size 54 4 (.slice (some ⟨w.heap.size, 0, none⟩) 0 0) 0 [] := World.ownsRow_lit w #[] 0 (Nat.le_refl _) (by unfold maxLen; omega) rfl
  have hb : Below w.heap.size w (w.alloc (.cells #[] 54)) := (Below.refl _ w).alloc (Nat.le_refl _) _
  have hl2 := hl.below hb
  have HO := Lib.hid hown; have HL := Lib.hid hl2; have HB := Lib.hid hb; clear hown hl hl2 hb
  have HI := Lib.hid hi0; have HZ0 := Lib.hid hz0; have HZ1 := Lib.hid hz1; have HZ2 := Lib.hid hz2; clear hi0 hz0 hz1 hz2
  cases A with
  | none =>
    obtain ⟨rfl, rfl⟩ := HL.out.nil rfl
    have hl0 : l = [] := List.length_eq_zero_iff.1 HL.out.len
    subst hl0
    go_enter Try.func63, Try.ntmps63
    go_wp2_with (at_builtin; refine wpList_append_own_none rfl (.tmp 3) (.tmp 4) 22 rfl w.heap.size 54 i0 4 Try.underlying22 HI.out _ 0 [] rfl HO.out rfl ?_)
    go_ret
    exact ⟨_, _, rfl, HO.out, HB.out⟩
  | some ad =>
    go_enter Try.func63, Try.ntmps63
    go_wp2_with (at_builtin; refine wpList_append_own _ rfl (.tmp 3) (.tmp 4) 22 rfl w.heap.size 54 i0 _ 4 32 Try.underlying22 HI.out HZ0.out HZ1.out HZ2.out rfl (by omega) _ 0 [] rfl HO.out ad n c (bcells l) rfl (by rw [bcells_length, HL.out.len]) (HL.out.cells.hc ad rfl) (bcells_one l) (by unfold maxLen; omega) (by omega) (by simp) ?_; intro v' w' hown' hg' _; rw [Nat.zero_add, List.nil_append] at hown'; obtain ⟨B', d', rfl, -⟩ := own_form hown'; have HO' := Lib.hid hown'; have HG' := Lib.hid hg'; clear hown' hg')
    go_ret
    exact ⟨_, _, rfl, HO'.out, HB.out.grown HG'.out (by simp) (fun k e => by cases e; exact Nat.le_refl _)⟩
end Go.Proofs.Ythlnialipjihdaa

/- The reference's SameSystem. -/
namespace Go.Proofs.Ythlnialipjihdaa
open Go.RowKit

theorem bdrew4 {B : Nat} {a w : World} (h : Below B a w) (n : Nat) : Below B a (w.drewN n) := h.trans ⟨rfl, rfl, rfl, Nat.le_refl _, fun _ _ => rfl⟩

set_option maxHeartbeats 2000000 in
theorem SameSystem_any (p q : Int) (A B : Option Addr) (n c m d : Nat) (l k : List Bnd) (w : World) (hx : RdB w A n c l) (hy : RdB w B m d k) (hm : n ≤ maxLen) :
    Calls Try.prog 24 #[.agg #[.int .i64 p, .slice A n c], .agg #[.int .i64 q, .slice B m d]] w fun e w' => e = .returned (.bool (decide (p = q ∧ l = k))) ∧ Below w.heap.size w w' := by
  unfold maxLen at hm
  have hB : Below w.heap.size w ((w.alloc (.cells #[.int .i64 p, .slice A n c] 24)).alloc (.cells #[.int .i64 q, .slice B m d] 24)) := ((Below.refl _ w).alloc (Nat.le_refl _) _).alloc (by simp) _
  have b0 := (Blk.new w 24 #[.int .i64 p, .slice A n c]).alloc (.cells #[.int .i64 q, .slice B m d] 24)
  have b1 := Blk.new (w.alloc (.cells #[.int .i64 p, .slice A n c] 24)) 24 #[.int .i64 q, .slice B m d]
  simp only [World.size_alloc] at b1
  have B0 := Lib.hid b0; have B1 := Lib.hid b1; clear b0 b1
  have hl := hx.len
  have hl' := hy.len
  have HX := Lib.hid hx; have HY := Lib.hid hy; have HL := Lib.hid hl; have HL' := Lib.hid hl'; clear hx hy hl hl'
  by_cases hpq : p = q
  · have h0 : (p != q) = false := by simpa using hpq
    have HPQ := Lib.hid hpq; clear hpq
    by_cases hmm : n = m
    · subst hmm
      go_enter Try.func24, Try.ntmps24
      go_wp2
      go_loopw [5] (fun i wr => ∃ j : Nat, j ≤ n ∧ i = .int .i64 j ∧ l.take j = k.take j ∧ Blk wr w.heap.size 24 #[.int .i64 p, .slice A n c] ∧ Blk wr (w.heap.size + 1) 24 #[.int .i64 q, .slice B n d] ∧ Below w.heap.size w wr) (fun i _ => n - (intOf i).toNat)
      case atStart => exact ⟨0, Nat.zero_le _, rfl, by simp, B0.out, B1.out, hB⟩
      case round =>
        obtain ⟨j, hj, rfl, heq, c0, c1, hb⟩ := hrel
        have HE := Lib.hid heq; clear heq
        have y0 : wr.cell? ⟨w.heap.size, 1, none⟩ = some (.slice A n c) := c0.cell 1
        have y1 : wr.cell? ⟨w.heap.size + 1, 1, none⟩ = some (.slice B n d) := c1.cell 1
        have C0 := Lib.hid c0; have C1 := Lib.hid c1; clear c0 c1
        by_cases hlt : j < n
        · obtain ⟨b, o, f, t, mm, i, rfl, hbw, hx, e0, e1, e2, e3⟩ := (HX.out.below hb).get hlt
          obtain ⟨b', o', f', t', mm', i', rfl, hbw', hx', g0, g1, g2, g3⟩ := (HY.out.below hb).get hlt
          have HXX := Lib.hid hx; have HYY := Lib.hid hx'; clear hx hx'
          by_cases hu : (⟨f, t, mm, i⟩ : Bnd) = ⟨f', t', mm', i'⟩
          · cases hu
            go_wp2_with fail
            go_quiet (fail)
            go_wp2
            go_roundw
            case rel => exact ⟨j + 1, by omega, by go_num, by rw [List.take_add_one, List.take_add_one, HE.out, HXX.out, HYY.out], C0.out, C1.out, bdrew4 hb _⟩
            case measure => simp [intOf]; omega
          · have hd : f ≠ f' ∨ (f = f' ∧ t ≠ t') ∨ (f = f' ∧ t = t' ∧ mm ≠ mm') ∨ (f = f' ∧ t = t' ∧ mm = mm' ∧ i ≠ i') := by
              simp only [Bnd.mk.injEq] at hu
              omega
            have fin : Ending.returned (.bool false) = .returned (.bool (decide (p = q ∧ l = k))) := ret_bool (by
              symm
              apply decide_eq_false
              rintro ⟨-, h⟩
              rw [h, HYY.out] at HXX
              exact hu (by injection HXX.out with h; exact h.symm))
            have FIN := Lib.hid fin; clear fin hu
            rcases hd with hd | hd | hd | hd
            · have hne := hd
              have h9 : (f == f') = false := by simpa using hne
              clear hne hd
              go_wp2_with fail
              go_quiet (fail)
              go_wp2
              go_ret
              exact ⟨FIN.out, bdrew4 hb _⟩
            · obtain ⟨rfl, hne⟩ := hd
              have h9 : (t == t') = false := by simpa using hne
              clear hne
              go_wp2_with fail
              go_quiet (fail)
              go_wp2
              go_ret
              exact ⟨FIN.out, bdrew4 hb _⟩
            · obtain ⟨rfl, rfl, hne⟩ := hd
              have h9 : (mm == mm') = false := by simpa using hne
              clear hne
              go_wp2_with fail
              go_quiet (fail)
              go_wp2
              go_ret
              exact ⟨FIN.out, bdrew4 hb _⟩
            · obtain ⟨rfl, rfl, rfl, hne⟩ := hd
              have h9 : (i == i') = false := by simpa using hne
              clear hne
              go_wp2_with fail
              go_quiet (fail)
              go_wp2
              go_ret
              exact ⟨FIN.out, bdrew4 hb _⟩
        · obtain rfl : j = n := by omega
          go_wp2
          go_ret
          exact ⟨ret_bool (by
            symm
            apply decide_eq_true
            have := HE.out
            rw [List.take_of_length_le (by rw [HL.out]; exact Nat.le_refl _), List.take_of_length_le (by rw [HL'.out]; exact Nat.le_refl _)] at this
            exact ⟨HPQ.out, this⟩), hb⟩
    · have h1 : ((n : Int) != (m : Int)) = true := by simp; omega
      have H := Lib.hid hmm; clear hmm
      go_enter Try.func24, Try.ntmps24
      go_wp2
      go_ret
      exact ⟨ret_bool (by
        symm
        apply decide_eq_false
        rintro ⟨-, h⟩
        exact H.out (by rw [← HL.out, ← HL'.out, h])), hB⟩
  · have h0 : (p != q) = true := by simpa using hpq
    have H := Lib.hid hpq; clear hpq
    go_enter Try.func24, Try.ntmps24
    go_wp2
    go_ret
    exact ⟨ret_bool (by
      symm
      apply decide_eq_false
      rintro ⟨h, -⟩
      exact H.out h), hB⟩
end Go.Proofs.Ythlnialipjihdaa

/- wide, small, three: what the laws of layer 1 begin with. -/
namespace Go.Proofs.Ythlnialipjihdaa
open Go.RowKit

theorem wide_any (p : Int) (A : Option Addr) (n c : Nat) (w : World) :
    Calls Try.prog 18 #[.agg #[.int .i64 p, .slice A n c]] w fun e w' => e = .returned (.bool (decide (n ≤ 403))) ∧ Below w.heap.size w w' := by
  go_enter Try.func18, Try.ntmps18
  go_wp2
  go_ret
  exact ⟨ret_bool (by by_cases h : n ≤ 403 <;> simp [h] <;> omega), (Below.refl _ w).alloc (Nat.le_refl _) _⟩

theorem small_any (p : Int) (A : Option Addr) (n c : Nat) (w : World) :
    Calls Try.prog 43 #[.agg #[.int .i64 p, .slice A n c]] w fun e w' => e = .returned (.bool (decide (p ≤ 9) && decide (n ≤ 20))) ∧ Below w.heap.size w w' := by
  by_cases hp : p ≤ 9
  · go_enter Try.func43, Try.ntmps43
    go_wp2
    go_ret
    exact ⟨ret_bool (by by_cases h : n ≤ 20 <;> simp [h, hp] <;> omega), (Below.refl _ w).alloc (Nat.le_refl _) _⟩
  · go_enter Try.func43, Try.ntmps43
    go_wp2
    go_ret
    exact ⟨ret_bool (by simp; omega), (Below.refl _ w).alloc (Nat.le_refl _) _⟩

/-- The bounds of three. -/
def threeL : List Bnd := [⟨0, 1, 5, 7⟩, ⟨1, 0, -2, 8⟩, ⟨1, 2, 4, 9⟩, ⟨2, 1, -4, 9⟩]

set_option maxHeartbeats 1000000 in
theorem three_any (w : World) :
    Calls Try.prog 57 #[] w fun e w' => ∃ g, e = .returned (.agg #[.int .i64 3, .slice (some ⟨g, 0, none⟩) 4 4]) ∧ OwnB w' w.heap.size (some ⟨g, 0, none⟩) 4 4 threeL ∧ Below w.heap.size w w' := by
  go_enter Try.func57, Try.ntmps57
  go_wp2
  refine bodyPost_ret (v := .agg #[.int .i64 3, .slice (some ⟨w.heap.size + 1, 0, none⟩) 4 4]) (by simp [results, Try.results57, go_sem]) rfl ?_
  have hown : ((w.alloc (.cells #[.int .i64 3, .slice (some ⟨w.heap.size + 1, 0, none⟩) 4 4] 24)).alloc (.cells (bcells threeL).toArray 54)).ownsRow (w.heap.size + 1) 54 4 (.slice (some ⟨(w.alloc (.cells #[.int .i64 3, .slice (some ⟨w.heap.size + 1, 0, none⟩) 4 4] 24)).heap.size, 0, none⟩) 4 4) 4 (bcells threeL).toArray.toList := World.ownsRow_lit _ (bcells threeL).toArray 4 (by simp) (by unfold maxLen; omega) rfl
  rw [World.size_alloc] at hown
  refine ⟨w.heap.size + 1, rfl, ?_, ?_⟩
  · exact owns_base hown (Nat.le_succ _)
  · exact ((Below.refl _ w).alloc (Nat.le_refl _) _).alloc (by simp) _
end Go.Proofs.Ythlnialipjihdaa
