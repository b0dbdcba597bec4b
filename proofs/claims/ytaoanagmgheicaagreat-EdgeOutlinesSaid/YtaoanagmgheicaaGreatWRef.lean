import Derived.Laws.AppendOwnNone
import Derived.Test.YtaoanagmgheicaaGreatQSet
set_option linter.unusedSimpArgs false
set_option linter.unusedVariables false
namespace Go.Proofs.YtaoanagmgheicaaGreat
open Go.RowKit
set_option maxHeartbeats 1000000 in
theorem has_any (A : Option Addr) (m d : Nat) (x : List Int) (v : Int) (w : World) (hr : RdI w A m d x) (hm : m ≤ maxLen) :
 Calls Tryz.prog 144 #[.slice A m d, .int .i64 v] w fun e w' => e = .returned (.bool (x.contains v)) ∧ w = w' := by
 unfold maxLen at hm
 have hl := hr.len
 have HR := Lib.hid hr; have HL := Lib.hid hl; clear hr hl
 go_enter Tryz.func144, Tryz.ntmps144
 go_wp2
 go_loopw [5] (fun i wr => ∃ k : Nat, k ≤ m ∧ i = .int .i64 k ∧ v ∉ x.take k ∧ w = wr) (fun i _ => m - (intOf i).toNat)
 case atStart => exact ⟨0, Nat.zero_le _, rfl, by simp, rfl⟩
 case round =>
  obtain ⟨k, hk, rfl, hno, rfl⟩ := hrel
  have HNO := Lib.hid hno; clear hno
  by_cases hlt : k < m
  · obtain ⟨b, o, u, rfl, hbw, hx, c0⟩ := HR.out.get hlt
    have HX := Lib.hid hx; clear hx
    by_cases hu : u = v
    · have h1 : (u == v) = true := by simpa using hu
      have HU := Lib.hid hu; clear hu
      go_wp2
      go_ret
      exact ⟨ret_bool (by rw [List.contains_iff_mem.2 (by rw [← HU.out]; exact List.mem_of_getElem? HX.out)]), by first | rfl | trivial⟩
    · have h1 : (u == v) = false := by simpa using hu
      have HU := Lib.hid hu; clear hu
      go_wp2
      go_roundw
      case rel => exact ⟨k + 1, by omega, by go_num, (by
       rw [List.take_add_one, HX.out]
       intro h
       rcases List.mem_append.1 h with h | h
       · exact HNO.out h
       · simp at h; exact HU.out h.symm), by first | rfl | trivial⟩
      case measure => simp [intOf]; omega
  · obtain rfl : k = m := by omega
    have hno : v ∉ x := by have := HNO.out; rwa [List.take_of_length_le (by rw [HL.out]; exact Nat.le_refl _)] at this
    have HN := Lib.hid hno; clear hno
    go_wp2
    go_ret
    exact ⟨ret_bool (by symm; rw [← Bool.not_eq_true, List.contains_iff_mem]; exact HN.out), by first | rfl | trivial⟩
end Go.Proofs.YtaoanagmgheicaaGreat
/- The reference's CheckSystem. -/
namespace Go.Proofs.YtaoanagmgheicaaGreat
open Go.RowKit
end Go.Proofs.YtaoanagmgheicaaGreat
/- The reference's asked. -/
namespace Go.Proofs.YtaoanagmgheicaaGreat
open Go.RowKit
end Go.Proofs.YtaoanagmgheicaaGreat
/- The reference's copied. -/
namespace Go.Proofs.YtaoanagmgheicaaGreat
open Go.RowKit
end Go.Proofs.YtaoanagmgheicaaGreat
/- The reference's SameSystem. -/
namespace Go.Proofs.YtaoanagmgheicaaGreat
open Go.RowKit
end Go.Proofs.YtaoanagmgheicaaGreat
/- wide, small, three: what the laws of layer 1 begin with. -/
namespace Go.Proofs.YtaoanagmgheicaaGreat
open Go.RowKit
end Go.Proofs.YtaoanagmgheicaaGreat
