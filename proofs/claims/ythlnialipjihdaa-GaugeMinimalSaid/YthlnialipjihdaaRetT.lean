/- A system in new memory, or an error with the empty one: one shape for both. -/
import Derived.Test.YthlnialipjihdaaWith
import Derived.Test.YthlnialipjihdaaRef
set_option linter.unusedSimpArgs false
set_option linter.unusedVariables false
namespace Go.Proofs.Ythlnialipjihdaa
open Go.RowKit

def sp (q p : Int) : Int := if q = 0 then p else 0
def sl (q : Int) (l : List Bnd) : List Bnd := if q = 0 then l else []
def RetT (q p : Int) (l : List Bnd) (w : World) (e : Ending) (w' : World) : Prop :=
  ∃ A n c, e = .returned (.tuple #[.agg #[.int .i64 p, .slice A n c], .int .i64 q]) ∧ OwnB w' w.heap.size A n c l ∧ Below w.heap.size w w'
theorem retT_of {q p : Int} {l : List Bnd} {w : World} {e : Ending} {w' : World} (h : RetS q p l w e w') : RetT q (sp q p) (sl q l) w e w' := by
  obtain ⟨A, n, c, he, ho, hb⟩ := h
  by_cases hq : q = 0
  · subst hq
    rw [sysR_yes] at he
    exact ⟨A, n, c, by rw [he]; rfl, by unfold sl; rw [if_pos rfl]; exact ho rfl, hb⟩
  · rw [sysR_no hq] at he
    exact ⟨none, 0, 0, by rw [he]; unfold sp; rw [if_neg hq], by unfold sl; rw [if_neg hq]; exact World.ownsRow_nil _ _ _ _, hb⟩
theorem ownB_max {w : World} {base : Nat} {A : Option Addr} {n c : Nat} {l : List Bnd} (h : OwnB w base A n c l) : n ≤ maxLen := Nat.le_trans (OwnB.rd h).1.cap (OwnB.rd h).2
theorem SameSystem_yes (p : Int) (A B : Option Addr) (n c m d : Nat) (l : List Bnd) (w : World) (hx : RdB w A n c l) (hy : RdB w B m d l) (hm : n ≤ maxLen) :
    Calls Try.prog 24 #[.agg #[.int .i64 p, .slice A n c], .agg #[.int .i64 p, .slice B m d]] w fun e w' => e = .returned (.bool true) ∧ Below w.heap.size w w' :=
  (SameSystem_any p p A B n c m d l l w hx hy hm).mono fun _ _ ⟨h1, h2⟩ => ⟨by rw [h1]; simp, h2⟩
end Go.Proofs.Ythlnialipjihdaa
