import Derived.Test.YtaoanagmgheicaaGreatQEMeet
import Derived.Test.YtaoanagmgheicaaGreatVEPub
set_option linter.unusedSimpArgs false
set_option linter.unusedVariables false
namespace Go.Proofs.YtaoanagmgheicaaGreat
def fitE (u : Bool) (a b : Otl) (p : Prg) : Int := if chkP a b p ≠ 0 then chkP a b p else chk (jP u a b p) (jL u a b p)
theorem way_fitc {a b : Otl} {p : Prg} (h : chkP a b p = 0) (hl : a.ws.length + b.ws.length ≤ 400) : chk (wayP a b p) (wayL a b p) = 0 := by
 obtain ⟨oa, ob, sa, sb, hk⟩ := chkP_ok h
 obtain ⟨a1, a2, a3, a4⟩ := chkO_ok oa
 obtain ⟨b1, b2, b3, b4⟩ := chkO_ok ob
 rw [wayL_jnt, show wayP a b p = a.c + 1 + (b.c + 1) - (p.bt - p.bf + 1) by unfold wayP; omega]
 exact jnt_chk ⟨by omega, by omega, by omega, by omega, by omega⟩ a3 (chk_rev b3) (by simp [revL]; omega) (by omega)
theorem turn_fitc {a b : Otl} {p : Prg} (h : chkP a b p = 0) (hl : a.ts.length + b.ts.length ≤ 400) : chk (turnP a b p) (turnL a b p) = 0 := by
 obtain ⟨oa, ob, sa, sb, hk⟩ := chkP_ok h
 obtain ⟨a1, a2, a3, a4⟩ := chkO_ok oa
 obtain ⟨b1, b2, b3, b4⟩ := chkO_ok ob
 rw [turnL_jnt, show turnP a b p = a.c + b.c - (p.bt - 1 - p.bf + 1) by unfold turnP; omega]
 exact jnt_chk ⟨by omega, by omega, by omega, by omega, by omega⟩ a4 b4 (by omega) (by omega)
theorem jL_length (u : Bool) (a b : Otl) (p : Prg) : (jL u a b p).length = (oL u a).length + (oL u b).length := by
 cases u <;> simp [jL, oL, wayL, turnL]
theorem fit_same (u : Bool) {a b : Otl} {p : Prg} (h : chkP a b p = 0) : chk (jP u a b p) (jL u a b p) = if 400 < (jL u a b p).length then 2 else 0 := by
 by_cases hl : 400 < (jL u a b p).length
 · rw [if_pos hl]
   unfold chk
   rw [if_pos (.inr hl)]
 · rw [if_neg hl]
   cases u
   · simp only [jL, Bool.false_eq_true, if_false, wayL, List.length_append, List.length_map] at hl
     exact way_fitc h (by omega)
   · simp only [jL, if_true, turnL, List.length_append, List.length_map] at hl
     exact turn_fitc h (by omega)
end Go.Proofs.YtaoanagmgheicaaGreat
