/- The ends of a difference, as triples. -/
import Derived.Test.YthlnialipjihdaaShz
import Derived.Test.YthlnialipjihdaaFixed
import Derived.Test.YthlnialipjihdaaTri
set_option linter.unusedSimpArgs false
set_option linter.unusedVariables false
namespace Go.Proofs.Ythlnialipjihdaa
open Go.RowKit

def greatT (p : Int) (l : List Bnd) (a b : Int) : Int × Bool × Int := if scode p l [a, b] = 0 then (fin (dist l p.toNat a.toNat b.toNat), isF (dist l p.toNat a.toNat b.toNat), 0) else (0, false, scode p l [a, b])
def leastT (p : Int) (l : List Bnd) (a b : Int) : Int × Bool × Int := if scode p l [a, b] = 0 then (-fin (dist l p.toNat b.toNat a.toNat), isF (dist l p.toNat b.toNat a.toNat), 0) else (0, false, scode p l [a, b])
def tup (V : Int × Bool × Int) : Value := .tuple #[.int .i64 V.1, .bool V.2.1, .int .i64 V.2.2]
theorem endV_great (p : Int) (l : List Bnd) (a b : Int) : endV p l a b true = tup (greatT p l a b) := by
  unfold endV greatT tup
  by_cases h : scode p l [a, b] = 0
  · simp only [if_pos h]; rfl
  · simp only [if_neg h]
theorem endV_least (p : Int) (l : List Bnd) (a b : Int) : endV p l a b false = tup (leastT p l a b) := by
  unfold endV leastT tup
  by_cases h : scode p l [a, b] = 0
  · simp only [if_pos h]; rfl
  · simp only [if_neg h]
theorem tup_inj {V : Int × Bool × Int} {x q : Int} {t : Bool} (h : tup V = .tuple #[.int .i64 x, .bool t, .int .i64 q]) : x = V.1 ∧ t = V.2.1 ∧ q = V.2.2 := by
  unfold tup at h
  injection h with h; injection h with h; injection h with e1 h; injection h with e2 h; injection h with e3 h
  injection e1 with _ e1; injection e2 with e2; injection e3 with _ e3
  exact ⟨e1.symm, e2.symm, e3.symm⟩

theorem gcode_pts {P : Int} {l : List Bnd} {a b : Int} (h : gcode P l [a, b] = 0) : chk P l = 0 ∧ (0 ≤ a ∧ a < P) ∧ 0 ≤ b ∧ b < P := by
  obtain ⟨hk, hp⟩ := gcode_ok h
  simp only [List.all_cons, List.all_nil, Bool.and_true, Bool.and_eq_true, isPt, decide_eq_true_eq] at hp
  exact ⟨hk, by omega, by omega⟩
end Go.Proofs.Ythlnialipjihdaa
