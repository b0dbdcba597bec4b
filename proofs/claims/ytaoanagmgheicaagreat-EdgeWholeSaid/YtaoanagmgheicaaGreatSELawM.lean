import Derived.Test.YtaoanagmgheicaaGreatSEShared
set_option linter.unusedSimpArgs false
set_option linter.unusedVariables false
namespace Go.Proofs.YtaoanagmgheicaaGreat
theorem isStr_yes {f t c : Int} (h : 0 ≤ f ∧ f < t ∧ t ≤ c) : isStr f t c = true := by simp [isStr, h]
theorem chkP_zero {a b : Otl} {p : Prg} (h1 : chkO a = 0) (h2 : chkO b = 0) (h3 : 0 ≤ p.af ∧ p.af < p.at2 ∧ p.at2 ≤ a.c) (h4 : 0 ≤ p.bf ∧ p.bf < p.bt ∧ p.bt ≤ b.c) (h5 : p.at2 - p.af = p.bt - p.bf) : chkP a b p = 0 := by
 unfold chkP
 have h6 : chkOO a b = 0 := by unfold chkOO; rw [if_neg (by simpa using h1), h2]
 rw [if_neg (by simpa using h6), if_neg (by rw [isStr_yes h3]; simp), if_neg (by rw [isStr_yes h4]; simp), if_neg (by simpa using h5)]
theorem asked_zero {a b : Otl} {p : Prg} (h1 : chkP a b p = 0) (h2 : a.ws.length + b.ws.length ≤ 400) (h3 : a.ts.length + b.ts.length ≤ 400) : asked a b p = 0 := by
 unfold asked
 rw [if_neg (by simpa using h1), if_neg]
 simp only [large, Bool.or_eq_true, decide_eq_true_eq, not_or]
 omega
theorem swp_swp (p : Prg) : swp (swp p) = p := rfl
theorem asked_swap {a b : Otl} {p : Prg} (h : asked a b p = 0) : asked b a (swp p) = 0 := by
 obtain ⟨h1, h2, h3⟩ := asked_ok h
 obtain ⟨oa, ob, sa, sb, hk⟩ := chkP_ok h1
 exact asked_zero (chkP_zero ob oa sb sa (by simp only [swp]; omega)) (by omega) (by omega)
theorem sides_eq {a b : Otl} {p : Prg} (h : asked a b p = 0) : p.at2 - p.af = p.bt - p.bf := (chkP_ok (asked_ok h).1).2.2.2.2
theorem way_swap {a b : Otl} {p : Prg} (h : asked a b p = 0) : wayS a b p = wayS b a (swp p) := by
 have h' := asked_swap h
 rw [Bool.eq_iff_iff, wayS_iff h, wayS_iff h']
 exact ⟨fun ⟨x, y, hf⟩ => ⟨y, x, hf.swap (sides_eq h)⟩, fun ⟨x, y, hf⟩ => ⟨y, x, by have := hf.swap (sides_eq h'); rwa [swp_swp] at this⟩⟩
theorem turn_swap {a b : Otl} {p : Prg} (h : asked a b p = 0) : turnS a b p = turnS b a (swp p) := by
 have h' := asked_swap h
 rw [Bool.eq_iff_iff, turnS_iff h, turnS_iff h']
 exact ⟨fun ⟨x, y, hf⟩ => ⟨y, x, hf.swap (sides_eq h)⟩, fun ⟨x, y, hf⟩ => ⟨y, x, by have := hf.swap (sides_eq h'); rwa [swp_swp] at this⟩⟩
theorem meets_swap {a b : Otl} {p : Prg} (h : asked a b p = 0) : meetsB a b p = meetsB b a (swp p) := by
 unfold meetsB
 rw [way_swap h, turn_swap h]
theorem sol_swap {a b : Otl} {p : Prg} (h : asked a b p = 0) {f : Nat → Int} (hf : Sol (wayL a b p) f) : ∃ g, Sol (wayL b a (swp p)) g ∧ g p.bt.toNat - g p.bf.toNat = f p.at2.toNat - f p.af.toNat := by
 have hk := sides_eq h
 have hw := way_fit h hf
 obtain ⟨g, hg, hg2⟩ := fit_way (asked_swap h) (hw.swap hk)
 obtain ⟨oa, ob, sa, sb, -⟩ := chkP_ok (asked_ok h).1
 refine ⟨g, hg, ?_⟩
 have e1 := hg2 p.bt.toNat (by omega)
 have e2 := hg2 p.bf.toNat (by omega)
 have e3 := hw.2.2 p.bf (Int.le_refl _) (by omega)
 rw [show p.af + p.bt - p.bf = p.at2 by omega] at e3
 dsimp only at e1 e2 e3
 rw [e1, e2]
 omega
theorem way_in {a b : Otl} {p : Prg} (h : asked a b p = 0) : p.af.toNat < (wayP a b p).toNat ∧ p.at2.toNat < (wayP a b p).toNat := by
 obtain ⟨oa, ob, sa, sb, hk⟩ := chkP_ok (asked_ok h).1
 obtain ⟨b1, b2, -, -⟩ := chkO_ok ob
 unfold wayP
 omega
theorem dist_swap {a b : Otl} {p : Prg} (h : asked a b p = 0) (hm : wayS a b p = true) :
 dist (wayL a b p) (wayP a b p).toNat p.af.toNat p.at2.toNat = dist (wayL b a (swp p)) (wayP b a (swp p)).toNat p.bf.toNat p.bt.toNat ∧
 dist (wayL a b p) (wayP a b p).toNat p.at2.toNat p.af.toNat = dist (wayL b a (swp p)) (wayP b a (swp p)).toNat p.bt.toNat p.bf.toNat := by
 have h' := asked_swap h
 have hm' : wayS b a (swp p) = true := by rw [← way_swap h]; exact hm
 obtain ⟨i1, i2⟩ := way_in h
 obtain ⟨j1, j2⟩ := way_in h'
 simp only [swp] at j1 j2
 have back : ∀ g, Sol (wayL b a (swp p)) g → ∃ f, Sol (wayL a b p) f ∧ f p.at2.toNat - f p.af.toNat = g p.bt.toNat - g p.bf.toNat := fun g hg => by
  have := sol_swap h' hg
  rw [swp_swp] at this
  exact this
 constructor
 · exact dist_same (wayL_chk h) hm i1 i2 (wayL_chk h') hm' j1 j2 (fun f hf => sol_swap h hf) back
 · refine dist_same (wayL_chk h) hm i2 i1 (wayL_chk h') hm' j2 j1 (fun f hf => ?_) (fun g hg => ?_)
   · obtain ⟨g, hg, e⟩ := sol_swap h hf
     exact ⟨g, hg, by omega⟩
   · obtain ⟨f, hf, e⟩ := back g hg
     exact ⟨f, hf, by omega⟩
theorem meets_way {a b : Otl} {p : Prg} (h : meetsB a b p = true) : wayS a b p = true ∧ turnS a b p = true := by
 unfold meetsB at h
 rwa [Bool.and_eq_true] at h
theorem shared_swap {a b : Otl} {p : Prg} (h : asked a b p = 0) : sharedV a b p = sharedV b a (swp p) := by
 unfold sharedV
 rw [if_pos h, if_pos (asked_swap h), meets_swap h]
 cases hm : meetsB b a (swp p)
 · rfl
 · have hm2 : meetsB a b p = true := by rw [meets_swap h]; exact hm
   obtain ⟨d1, d2⟩ := dist_swap h (meets_way hm2).1
   simp only [if_true]
   unfold lowV highV
   simp only [swp] at d1 d2 ⊢
   rw [d1, d2]
   rfl
theorem asked_front {a b : Otl} {p : Prg} (h : asked a b p = 0) (hl : 2 ≤ p.at2 - p.af) : asked a b ⟨p.af + 1, p.at2, p.bf, p.bt - 1⟩ = 0 ∧ asked a b ⟨p.af, p.at2 - 1, p.bf + 1, p.bt⟩ = 0 := by
 obtain ⟨h1, h2, h3⟩ := asked_ok h
 obtain ⟨oa, ob, sa, sb, hk⟩ := chkP_ok h1
 exact ⟨asked_zero (chkP_zero oa ob (by dsimp only; omega) (by dsimp only; omega) (by dsimp only; omega)) h2 h3, asked_zero (chkP_zero oa ob (by dsimp only; omega) (by dsimp only; omega) (by dsimp only; omega)) h2 h3⟩
theorem meets_front {a b : Otl} {p : Prg} (h : asked a b p = 0) (hl : 2 ≤ p.at2 - p.af) (hm : meetsB a b p = true) : meetsB a b ⟨p.af + 1, p.at2, p.bf, p.bt - 1⟩ = true := by
 have hk := sides_eq h
 obtain ⟨h1, -⟩ := asked_front h hl
 obtain ⟨m1, m2⟩ := meets_way hm
 obtain ⟨x, y, f1⟩ := (wayS_iff h).1 m1
 obtain ⟨u, v, f2⟩ := (turnS_iff h).1 m2
 unfold meetsB
 rw [Bool.and_eq_true]
 exact ⟨(wayS_iff h1).2 ⟨x, y, f1.front hk (by omega)⟩, (turnS_iff h1).2 ⟨u, v, f2.front (by omega)⟩⟩
theorem meets_back {a b : Otl} {p : Prg} (h : asked a b p = 0) (hl : 2 ≤ p.at2 - p.af) (hm : meetsB a b p = true) : meetsB a b ⟨p.af, p.at2 - 1, p.bf + 1, p.bt⟩ = true := by
 obtain ⟨-, h1⟩ := asked_front h hl
 obtain ⟨m1, m2⟩ := meets_way hm
 obtain ⟨x, y, f1⟩ := (wayS_iff h).1 m1
 obtain ⟨u, v, f2⟩ := (turnS_iff h).1 m2
 unfold meetsB
 rw [Bool.and_eq_true]
 exact ⟨(wayS_iff h1).2 ⟨x, y, f1.back⟩, (turnS_iff h1).2 ⟨u, v, f2.back⟩⟩
end Go.Proofs.YtaoanagmgheicaaGreat
