import Derived.Test.YtaoanagmgheicaaGreatSELawM
import Derived.Test.YtaoanagmgheicaaGreatSEWith
set_option linter.unusedSimpArgs false
set_option linter.unusedVariables false
namespace Go.Proofs.YtaoanagmgheicaaGreat
theorem dist_mono {P : Int} {l k : List Bnd} {a b : Nat} (h1 : chk P l = 0) (h2 : slv P l = true) (ha : a < P.toNat) (hb : b < P.toNat) (h3 : chk P k = 0) (h4 : slv P k = true)
 (e : ∀ f, Sol k f → Sol l f) (i1 : dist l P.toNat a b ≠ Inf) : dist k P.toNat a b ≠ Inf ∧ dist k P.toNat a b ≤ dist l P.toNat a b := by
 obtain ⟨p1, p2, -, -⟩ := chk_ok h1
 by_cases i2 : dist k P.toNat a b = Inf
 · obtain ⟨f, hf, hf2⟩ := dist_far h3 h4 ha hb i2
   have := dist_sol h1 h2 ha hb (e f hf) i1
   have := dist_top (a := a) (v := b) h1 h2 (by omega) i1
   omega
 · obtain ⟨f, hf, hf2⟩ := dist_at h3 h4 ha hb i2
   have := dist_sol h1 h2 ha hb (e f hf) i1
   exact ⟨i2, by omega⟩
section
variable {a b : Otl} {p : Prg} {u : Bool} {x : Bnd}
theorem withO_c : (withO u a x).c = a.c := by cases u <;> rfl
theorem more_way {y : Bnd} (h : y ∈ wayL a b p) : y ∈ wayL (withO u a x) b p := by
 have e : wayB (withO u a x) p = wayB a p := by unfold wayB cor; rw [withO_c]
 unfold wayL at h ⊢
 rw [e]
 rcases List.mem_append.1 h with h | h
 · refine List.mem_append_left _ ?_
   cases u
   · exact List.mem_append_left _ h
   · exact h
 · exact List.mem_append_right _ h
theorem more_turn {y : Bnd} (h : y ∈ turnL a b p) : y ∈ turnL (withO u a x) b p := by
 have e : turnB (withO u a x) p = turnB a p := by unfold turnB sid; rw [withO_c]
 unfold turnL at h ⊢
 rw [e]
 rcases List.mem_append.1 h with h | h
 · refine List.mem_append_left _ ?_
   cases u
   · exact h
   · exact List.mem_append_left _ h
 · exact List.mem_append_right _ h
theorem more_P : wayP (withO u a x) b p = wayP a b p ∧ turnP (withO u a x) b p = turnP a b p := by unfold wayP turnP; rw [withO_c]; exact ⟨rfl, rfl⟩
theorem more_meets (h : asked a b p = 0) (h' : asked (withO u a x) b p = 0) (hm : meetsB (withO u a x) b p = true) : meetsB a b p = true := by
 obtain ⟨m1, m2⟩ := meets_way hm
 unfold meetsB
 rw [Bool.and_eq_true]
 constructor
 · obtain ⟨f, hf⟩ := sol_of_settle (wayL_chk h') m1
   exact settle_of_sol (wayL_chk h) (f := f) fun c hc => hf c (more_way hc)
 · obtain ⟨f, hf⟩ := sol_of_settle (turnL_chk h') m2
   exact settle_of_sol (turnL_chk h) (f := f) fun c hc => hf c (more_turn hc)
theorem more_ends (h : asked a b p = 0) (h' : asked (withO u a x) b p = 0) (hm : meetsB (withO u a x) b p = true) :
 lowV a b p ≤ lowV (withO u a x) b p ∧ highV (withO u a x) b p ≤ highV a b p := by
 have w1 := (meets_way (more_meets h h' hm)).1
 have w2 := (meets_way hm).1
 obtain ⟨i1, i2⟩ := way_in h
 have hP := (more_P (a := a) (b := b) (p := p) (u := u) (x := x)).1
 have k1 := wayL_chk h
 have k2 := wayL_chk h'
 unfold wayS at w1 w2
 rw [hP] at w2 k2
 have e : ∀ f, Sol (wayL (withO u a x) b p) f → Sol (wayL a b p) f := fun f hf c hc => hf c (more_way hc)
 have d1 := dist_mono k1 w1 i2 i1 k2 w2 e
 have d2 := dist_mono k1 w1 i1 i2 k2 w2 e
 obtain ⟨p1, p2, -, -⟩ := chk_ok k1
 have t1 := dist_top (a := p.at2.toNat) (v := p.af.toNat) k2 w2 (by omega)
 have t2 := dist_top (a := p.af.toNat) (v := p.at2.toNat) k2 w2 (by omega)
 unfold lowV highV
 rw [hP]
 generalize dist (wayL a b p) (wayP a b p).toNat p.at2.toNat p.af.toNat = x1 at *
 generalize dist (wayL (withO u a x) b p) (wayP a b p).toNat p.at2.toNat p.af.toNat = x2 at *
 generalize dist (wayL a b p) (wayP a b p).toNat p.af.toNat p.at2.toNat = x3 at *
 generalize dist (wayL (withO u a x) b p) (wayP a b p).toNat p.af.toNat p.at2.toNat = x4 at *
 unfold isF fin
 constructor
 · by_cases c1 : x1 = Inf
   · by_cases c2 : x2 = Inf
     · simp [c1, c2]
     · have := t1 c2
       simp [c1, c2]
       try omega
   · obtain ⟨c2, h2⟩ := d1 c1
     simp [c1, c2]
     try omega
 · by_cases c1 : x3 = Inf
   · by_cases c2 : x4 = Inf
     · simp [c1, c2]
     · have := t2 c2
       simp [c1, c2]
       try omega
   · obtain ⟨c2, h2⟩ := d2 c1
     simp [c1, c2]
     try omega
theorem more_asked (hs : a.ws.length ≤ 40 ∧ a.ts.length ≤ 40 ∧ b.ws.length ≤ 40 ∧ b.ts.length ≤ 40) (h0 : withE u a x = 0) : asked (withO u a x) b p = asked a b p := by
 have e1 : chkO a = 0 := by unfold withE at h0; split at h0 <;> simp_all
 have e2 : chkO (withO u a x) = 0 := by unfold withE at h0; rw [if_neg (by simp [e1])] at h0; exact h0
 have l1 : large a b = false := by unfold large; simp; omega
 have l2 : large (withO u a x) b = false := by unfold large; cases u <;> simp [withO] <;> omega
 have e3 : chkP (withO u a x) b p = chkP a b p := by unfold chkP chkOO; rw [withO_c, e1, e2]
 unfold asked
 rw [l1, l2, e3]
end
end Go.Proofs.YtaoanagmgheicaaGreat
