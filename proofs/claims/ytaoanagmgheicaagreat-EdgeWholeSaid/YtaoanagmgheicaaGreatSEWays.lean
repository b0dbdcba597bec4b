import Derived.Test.YtaoanagmgheicaaGreatSOpen
import Derived.Test.YtaoanagmgheicaaGreatSEnds
import Derived.Test.YtaoanagmgheicaaGreatSKeeps
import Derived.Test.YtaoanagmgheicaaGreatSCircle
import Derived.Test.YtaoanagmgheicaaGreatSClosed
import Derived.Test.YtaoanagmgheicaaGreatSSharpM
import Derived.Test.YtaoanagmgheicaaGreatSECopy
import Derived.IntWalk
set_option linter.unusedSimpArgs false
set_option linter.unusedVariables false
namespace Go.Proofs.YtaoanagmgheicaaGreat
open Go.RowKit
theorem rdI_some {w : World} {A : Option Addr} {n c : Nat} {l : List Int} {k : Nat} {v : Int} (h : RdI w A n c l) (hv : l[k]? = some v) : ∃ b o, A = some ⟨b, o, none⟩ := by
 obtain ⟨b, o, x, h1, -⟩ := h.get (k := k) (by rw [← h.len]; exact (List.getElem?_eq_some_iff.1 hv).1)
 exact ⟨b, o, h1⟩
theorem rdI_at {w : World} {b o n c : Nat} {l : List Int} {k : Nat} {v : Int} (h : RdI w (some ⟨b, o, none⟩) n c l) (hv : l[k]? = some v) : w.cell? ⟨b, o + k, none⟩ = some (.int .i64 v) ∧ b < w.heap.size := by
 obtain ⟨b', o', x, h1, h2, h3, h4⟩ := h.get (k := k) (by rw [← h.len]; exact (List.getElem?_eq_some_iff.1 hv).1)
 injection h1 with h1
 injection h1 with e1 e2
 subst e1 e2
 rw [hv] at h3
 injection h3 with h3
 subst h3
 exact ⟨h4, h2⟩
end Go.Proofs.YtaoanagmgheicaaGreat
/- What endOf answers, part by part; the code of Keeps. -/
namespace Go.Proofs.YtaoanagmgheicaaGreat
open Go.RowKit
end Go.Proofs.YtaoanagmgheicaaGreat
set_option linter.unusedSimpArgs false
set_option linter.unusedVariables false
namespace Go.Proofs.YtaoanagmgheicaaGreat
open Go.RowKit
def Bd (r : Int) (y : List Int) : Prop := ∀ v, v < y.length → -(1000000000000 + r) ≤ at_ y v ∧ at_ y v ≤ 1000000000000
theorem Bd.relax {r : Int} {y : List Int} (h : Bd r y) {t : Nat} {v : Int} (ht : t < y.length) (h1 : -(1000000000000 + (r + 100000000)) ≤ v) (h2 : v ≤ 1000000000000) (hr : 0 ≤ r) : Bd (r + 100000000) (y.set t v) := fun u hu => by
 rw [List.length_set] at hu
 rw [at_set _ _ _ _ ht]
 split
 · exact ⟨h1, h2⟩
 · have := h u hu; omega
theorem Bd.more {r s : Int} {y : List Int} (h : Bd r y) (hrs : r ≤ s) : Bd s y := fun u hu => by have := h u hu; omega
end Go.Proofs.YtaoanagmgheicaaGreat
set_option linter.unusedSimpArgs false
set_option linter.unusedVariables false
namespace Go.Proofs.YtaoanagmgheicaaGreat
open Go.RowKit
theorem rdB_at {w : World} {b o n c : Nat} {l : List Bnd} {k : Nat} {f t m i : Int} (h : RdB w (some ⟨b, o, none⟩) n c l) (hv : l[k]? = some ⟨f, t, m, i⟩) :
 w.cell? ⟨b, o + k * 4, none⟩ = some (.int .i64 f) ∧ w.cell? ⟨b, o + k * 4 + 1, none⟩ = some (.int .i64 t) ∧ w.cell? ⟨b, o + k * 4 + 2, none⟩ = some (.int .i64 m) ∧ w.cell? ⟨b, o + k * 4 + 3, none⟩ = some (.int .i64 i) ∧ b < w.heap.size := by
 obtain ⟨b', o', f', t', m', i', h1, h2, h3, h4, h5, h6, h7⟩ := h.get (k := k) (by rw [← h.len]; exact (List.getElem?_eq_some_iff.1 hv).1)
 injection h1 with h1
 injection h1 with e1 e2
 subst e1 e2
 rw [hv] at h3
 injection h3 with h3
 injection h3 with e1 e2 e3 e4
 subst e1 e2 e3 e4
 exact ⟨h4, h5, h6, h7, h2⟩
theorem rdB_some {w : World} {A : Option Addr} {n c : Nat} {l : List Bnd} {k : Nat} {v : Bnd} (h : RdB w A n c l) (hv : l[k]? = some v) : ∃ b o, A = some ⟨b, o, none⟩ := by
 obtain ⟨b, o, f, t, m, i, h1, -⟩ := h.get (k := k) (by rw [← h.len]; exact (List.getElem?_eq_some_iff.1 hv).1)
 exact ⟨b, o, h1⟩
def Apart (v u : Value) : Prop := v.ownBlock = none ∨ v.ownBlock ≠ u.ownBlock
theorem Apart.symm {v u : Value} (h : Apart v u) : Apart u v := by
 unfold Apart at *
 rcases h with h | h
 · by_cases hu : u.ownBlock = none
   · exact .inl hu
   · exact .inr (by rw [h]; exact hu)
 · exact .inr (fun e => h e.symm)
theorem Apart.grown {w : World} {base : Nat} {e : TypeId} {size n : Nat} {v v' u : Value} {xs : List Value} (h : Apart v u) (hv : v'.ownBlock = v.ownBlock ∨ v'.ownBlock = some w.heap.size) (hu : w.ownsRow base e size u n xs) : Apart v' u := by
 rcases hv with hv | hv
 · unfold Apart at *; rw [hv]; exact h
 · refine .inr (fun e => ?_)
   have := (hu.lt _ (e.symm.trans hv)).2
   omega
end Go.Proofs.YtaoanagmgheicaaGreat
set_option linter.unusedSimpArgs false
set_option linter.unusedVariables false
namespace Go.Proofs.YtaoanagmgheicaaGreat
open Go.RowKit
theorem rounds_top {p : Int} {l : List Bnd} {a : Nat} (hk : chk p l = 0) (ha : a < 60) : ∀ (k v : Nat), at_ (rounds l k (startL a)) v = Inf ∨ at_ (rounds l k (startL a)) v ≤ k * 1000000
 | 0, v => by
  show at_ (startL a) v = Inf ∨ at_ (startL a) v ≤ ((0 : Nat) : Int) * 1000000
  by_cases hv : v < 60
  · rw [at_startL ha v hv]
    split
    · exact .inr (by omega)
    · exact .inl rfl
  · rw [at_out (by rw [startL_length]; omega)]; exact .inr (by omega)
 | k + 1, v => by
  show at_ (longer l (rounds l k (startL a))) v = Inf ∨ at_ (longer l (rounds l k (startL a))) v ≤ ((k + 1 : Nat) : Int) * 1000000
  rcases longer_cases l (rounds l k (startL a)) v with h | ⟨c, hc, h1, -, h⟩
  · rw [h]
    rcases rounds_top hk ha k v with q | q
    · exact .inl q
    · exact .inr (by omega)
  · rw [h]
    rw [look_eq] at h1 ⊢
    have := edges60 hk c hc
    rcases rounds_top hk ha k c.f.toNat with q | q
    · exact absurd q h1
    · exact .inr (by omega)
theorem dist_top {p : Int} {l : List Bnd} {a v : Nat} (hk : chk p l = 0) (hs : (settle l p.toNat zeros).isSome = true) (ha : a < 60) (h : dist l p.toNat a v ≠ Inf) : dist l p.toNat a v ≤ 60000000 := by
 obtain ⟨hp1, hp2, -, -⟩ := chk_ok hk
 obtain ⟨e, -⟩ := dist_rounds (a := a) hk hs ha
 unfold dist at h ⊢
 rw [e] at h ⊢
 rcases rounds_top hk ha (p.toNat - 1) v with q | q
 · exact absurd q h
 · omega
end Go.Proofs.YtaoanagmgheicaaGreat
set_option linter.unusedSimpArgs false
set_option linter.unusedVariables false
namespace Go.Proofs.YtaoanagmgheicaaGreat
open Go.RowKit
theorem cells_add {w : World} {g : Nat} {t : TypeId} {cs : List Value} (h : Blk w g t cs.toArray) : ∀ j u, cs[j]? = some u → w.cell? ((⟨g, 0, none⟩ : Addr).add j) = some u := fun j u hu => by
 rw [Addr.add_lit, Nat.zero_add, h.cell]
 simpa using hu
end Go.Proofs.YtaoanagmgheicaaGreat
set_option linter.unusedSimpArgs false
set_option linter.unusedVariables false
namespace Go.Proofs.YtaoanagmgheicaaGreat
open Go.RowKit
set_option maxRecDepth 100000 in
set_option maxHeartbeats 4000000 in
theorem corner_any (c : Int) (A B : Option Addr) (n k m j : Nat) (d : Int) (C D : Option Addr) (n2 k2 m2 j2 : Nat) (p1 p2 p3 p4 : Int) (w : World) (g0 : 3 ≤ c ∧ c ≤ 16) :
 Calls Tryz.prog 117 #[.agg #[.int .i64 c, .slice A n k, .slice B m j, .int .i64 d, .slice C n2 k2, .slice D m2 j2, .int .i64 p1, .int .i64 p2, .int .i64 p3, .int .i64 p4]] w fun e w' => ∃ g, e = .returned (fnV g) ∧ Cl w' g (c + 1) p1 p3 p4 ∧ w.heap.size ≤ g ∧ Below w.heap.size w w' := by
 obtain ⟨g01, g02⟩ := g0
 go_enter Tryz.func117, Tryz.ntmps117
 have bel_1 := Lib.hid (show Below w.heap.size w w from Below.refl _ w)
 obtain ⟨o_, ho_⟩ : ∃ o, o = ((.cells #[.int .i64 c, .slice A n k, .slice B m j, .int .i64 d, .slice C n2 k2, .slice D m2 j2, .int .i64 p1, .int .i64 p2, .int .i64 p3, .int .i64 p4] 101) : Obj) := ⟨_, rfl⟩
 replace bel_1 := bA bel_1 o_
 subst ho_
 have bx_2 := Lib.hid (Blk.new w 101 #[.int .i64 c, .slice A n k, .slice B m j, .int .i64 d, .slice C n2 k2, .slice D m2 j2, .int .i64 p1, .int .i64 p2, .int .i64 p3, .int .i64 p4])
 obtain ⟨z_3, z_4, z_5, z_6, z_7, z_8, z_9, z_10, z_11, z_12⟩ := at10 bx_2
 have hc := renumbered_any (c + 1) p1 p3 (p4) ((w.alloc (.cells #[.int .i64 c, .slice A n k, .slice B m j, .int .i64 d, .slice C n2 k2, .slice D m2 j2, .int .i64 p1, .int .i64 p2, .int .i64 p3, .int .i64 p4] 101)))
 have HC := Lib.hid hc; clear hc
 go_wp2_with fail
 refine HC.out.mono ?_
 rintro e w9 ⟨rfl, hcl, hb⟩
 clear HC
 clear z_3 z_4 z_5 z_6 z_7 z_8 z_9 z_10 z_11 z_12
 replace bel_1 := bB bel_1 hb
 replace bx_2 := kB bx_2 hb
 simp only [World.size_alloc] at hcl
 go_wp2
 go_ret
 exact ⟨_, rfl, (by simpa using hcl), by simp, bel_1.out⟩
set_option maxRecDepth 100000 in
set_option maxHeartbeats 4000000 in
theorem side_any (c : Int) (A B : Option Addr) (n k m j : Nat) (d : Int) (C D : Option Addr) (n2 k2 m2 j2 : Nat) (p1 p2 p3 p4 : Int) (w : World) (g3 : 0 ≤ p4 ∧ p4 ≤ 16) :
 Calls Tryz.prog 118 #[.agg #[.int .i64 c, .slice A n k, .slice B m j, .int .i64 d, .slice C n2 k2, .slice D m2 j2, .int .i64 p1, .int .i64 p2, .int .i64 p3, .int .i64 p4]] w fun e w' => ∃ g, e = .returned (fnV g) ∧ Cl w' g c p1 p3 (p4 - 1) ∧ w.heap.size ≤ g ∧ Below w.heap.size w w' := by
 obtain ⟨g31, g32⟩ := g3
 go_enter Tryz.func118, Tryz.ntmps118
 have bel_1 := Lib.hid (show Below w.heap.size w w from Below.refl _ w)
 obtain ⟨o_, ho_⟩ : ∃ o, o = ((.cells #[.int .i64 c, .slice A n k, .slice B m j, .int .i64 d, .slice C n2 k2, .slice D m2 j2, .int .i64 p1, .int .i64 p2, .int .i64 p3, .int .i64 p4] 101) : Obj) := ⟨_, rfl⟩
 replace bel_1 := bA bel_1 o_
 subst ho_
 have bx_2 := Lib.hid (Blk.new w 101 #[.int .i64 c, .slice A n k, .slice B m j, .int .i64 d, .slice C n2 k2, .slice D m2 j2, .int .i64 p1, .int .i64 p2, .int .i64 p3, .int .i64 p4])
 obtain ⟨z_3, z_4, z_5, z_6, z_7, z_8, z_9, z_10, z_11, z_12⟩ := at10 bx_2
 have hc := renumbered_any (c) p1 p3 (p4 - 1) ((w.alloc (.cells #[.int .i64 c, .slice A n k, .slice B m j, .int .i64 d, .slice C n2 k2, .slice D m2 j2, .int .i64 p1, .int .i64 p2, .int .i64 p3, .int .i64 p4] 101)))
 have HC := Lib.hid hc; clear hc
 go_wp2_with fail
 refine HC.out.mono ?_
 rintro e w9 ⟨rfl, hcl, hb⟩
 clear HC
 clear z_3 z_4 z_5 z_6 z_7 z_8 z_9 z_10 z_11 z_12
 replace bel_1 := bB bel_1 hb
 replace bx_2 := kB bx_2 hb
 simp only [World.size_alloc] at hcl
 go_wp2
 go_ret
 exact ⟨_, rfl, (by simpa using hcl), by simp, bel_1.out⟩
theorem OwnsX.of {w : World} {base : Nat} {e : TypeId} {size : Nat} {v : Value} {n : Nat} {xs : List Value} (h : w.ownsRow base e size v n xs) : OwnsX w base e size v n xs := .inl h
theorem Cl.belowB {w w' : World} {g B : Nat} {n x lo hi : Int} (h : Cl w g n x lo hi) (hb : Below B w w') (hg : g + 4 ≤ B) : Cl w' g n x lo hi := ⟨h.n0.below hb (by omega), h.x0.below hb (by omega), h.l0.below hb (by omega), h.h0.below hb (by omega)⟩
theorem rdB_of {w : World} {base : Nat} {A : Option Addr} {n c : Nat} {l : List Bnd} (h : OwnsX w base 30 4 (.slice A n c) n (bcells l)) : RdB w A n c l := by
 rcases h with h | ⟨A', h1, h2, h3⟩
 · exact (OwnB.rd h).1
 · injection h1 with h4 h5 h6
   subst h4 h5 h6
   have hl : l = [] := by
    have := congrArg List.length h3
    rw [bcells_length] at this
    exact List.length_eq_zero_iff.1 (by simp at this; omega)
   subst hl
   exact ⟨rfl, Nat.le_refl _, fun _ => ⟨rfl, rfl⟩, .inl rfl⟩
theorem OwnsX.setCell {w : World} {base : Nat} {e : TypeId} {size : Nat} {v : Value} {n : Nat} {xs : List Value} (h : OwnsX w base e size v n xs) {a : Addr} (ha : a.block < base) (u : Value) : OwnsX (w.setCell a u) base e size v n xs :=
 h.imp (fun h => ownsRow_setCell_below h ha u) id
set_option maxRecDepth 100000 in
set_option maxHeartbeats 4000000 in
theorem ways_any (c : Int) (A B : Option Addr) (n k m j : Nat) (ws ts : List Bnd) (d : Int) (C D : Option Addr) (n2 k2 m2 j2 : Nat) (ws2 ts2 : List Bnd) (p1 p2 p3 p4 : Int) (w : World) (h1 : RdB w A n k ws) (h2 : RdB w B m j ts) (hn : n ≤ maxLen) (hm : m ≤ maxLen) (h3 : RdB w C n2 k2 ws2) (h4 : RdB w D m2 j2 ts2) (hn2 : n2 ≤ maxLen) (hm2 : m2 ≤ maxLen) (g0 : 3 ≤ c ∧ c ≤ 16) (g1 : 3 ≤ d ∧ d ≤ 16) (g2 : 0 ≤ p1 ∧ p1 < p2 ∧ p2 ≤ c) (g3 : 0 ≤ p3 ∧ p3 < p4 ∧ p4 ≤ d) (hl1 : n ≤ 400) (hl2 : n2 ≤ 400) (hok : ∀ x ∈ ws2, 0 ≤ x.f ∧ x.f ≤ 16 ∧ 0 ≤ x.t ∧ x.t ≤ 16) :
 Calls Tryz.prog 81 #[.agg #[.int .i64 c, .slice A n k, .slice B m j, .int .i64 d, .slice C n2 k2, .slice D m2 j2, .int .i64 p1, .int .i64 p2, .int .i64 p3, .int .i64 p4]] w fun e w' => ∃ Ar nr kr, e = .returned (.agg #[.int .i64 (wayP ⟨c, ws, ts⟩ ⟨d, ws2, ts2⟩ ⟨p1, p2, p3, p4⟩), .slice Ar nr kr]) ∧ RdB w' Ar nr kr (wayL ⟨c, ws, ts⟩ ⟨d, ws2, ts2⟩ ⟨p1, p2, p3, p4⟩) ∧ Below w.heap.size w w' := by
 obtain ⟨i0, hi0, hz0, hz1, hz2⟩ := info_parts infoB
 have HI := Lib.hid hi0; have HZ0 := Lib.hid hz0; have HZ1 := Lib.hid hz1; have HZ2 := Lib.hid hz2; clear hi0 hz0 hz1 hz2
 have RB0 := Lib.hid h3
 go_enter Tryz.func81, Tryz.ntmps81
 have bel_1 := Lib.hid (show Below w.heap.size w w from Below.refl _ w)
 have ra_2 := Lib.hid (h1)
 clear h1
 obtain ⟨o_, ho_⟩ : ∃ o, o = ((.cells #[.int .i64 c, .slice A n k, .slice B m j, .int .i64 d, .slice C n2 k2, .slice D m2 j2, .int .i64 p1, .int .i64 p2, .int .i64 p3, .int .i64 p4] 101) : Obj) := ⟨_, rfl⟩
 replace bel_1 := bA bel_1 o_
 replace ra_2 := rA ra_2 o_
 subst ho_
 have bx_3 := Lib.hid (Blk.new w 101 #[.int .i64 c, .slice A n k, .slice B m j, .int .i64 d, .slice C n2 k2, .slice D m2 j2, .int .i64 p1, .int .i64 p2, .int .i64 p3, .int .i64 p4])
 obtain ⟨o_, ho_⟩ : ∃ o, o = ((.cells #[.int .i64 0, .slice none 0 0] 46) : Obj) := ⟨_, rfl⟩
 replace bel_1 := bA bel_1 o_
 replace ra_2 := rA ra_2 o_
 replace bx_3 := kA bx_3 o_
 subst ho_
 have nb_ := Blk.new (w.alloc (.cells #[.int .i64 c, .slice A n k, .slice B m j, .int .i64 d, .slice C n2 k2, .slice D m2 j2, .int .i64 p1, .int .i64 p2, .int .i64 p3, .int .i64 p4] 101)) 46 #[.int .i64 0, .slice none 0 0]
 simp only [World.size_alloc] at nb_
 have bz_4 := Lib.hid nb_; clear nb_
 clear h2 h3 h4
 obtain ⟨z_5, z_6, z_7, z_8, z_9, z_10, z_11, z_12, z_13, z_14⟩ := at10 bx_3
 obtain ⟨z_15, z_16⟩ := at2 bz_4
 have hc := corner_any c A B n k m j d C D n2 k2 m2 j2 p1 p2 p3 p4 (((w.alloc (.cells #[.int .i64 c, .slice A n k, .slice B m j, .int .i64 d, .slice C n2 k2, .slice D m2 j2, .int .i64 p1, .int .i64 p2, .int .i64 p3, .int .i64 p4] 101)).alloc (.cells #[.int .i64 0, .slice none 0 0] 46))) g0
 have HC := Lib.hid hc; clear hc
 go_wp2_with fail
 refine HC.out.mono ?_
 rintro e w9 ⟨g, rfl, hcl, hge, hb⟩
 clear HC
 clear z_5 z_6 z_7 z_8 z_9 z_10 z_11 z_12 z_13 z_14 z_15 z_16
 simp only [World.size_alloc] at hge
 replace bel_1 := bB bel_1 hb
 replace ra_2 := rB ra_2 hb
 replace bx_3 := kB bx_3 hb
 replace bz_4 := kB bz_4 hb
 clear hb
 have cl_17 := Lib.hid (hcl)
 clear hcl
 unfold fnV
 obtain ⟨z_18, z_19, z_20, z_21, z_22, z_23, z_24, z_25, z_26, z_27⟩ := at10 bx_3
 obtain ⟨z_28, z_29⟩ := at2 bz_4
 have hc := ecopied_any A n k ws _ ra_2.out hl1
 have HC := Lib.hid hc; clear hc
 go_wp2_with fail
 refine HC.out.mono ?_
 rintro e w10 ⟨Ac, cc, rfl, hox, hb⟩
 clear HC
 clear z_18 z_19 z_20 z_21 z_22 z_23 z_24 z_25 z_26 z_27 z_28 z_29
 have hsz := Cl.lt cl_17.out
 have hox := OwnsX.base hox (show g + 4 ≤ w9.heap.size by omega)
 replace bel_1 := bB bel_1 hb
 replace ra_2 := rB ra_2 hb
 replace bx_3 := kB bx_3 hb
 replace bz_4 := kB bz_4 hb
 replace cl_17 := Lib.hid (Cl.keep (cl_17.out) hb)
 clear hb
 have ox_30 := Lib.hid (hox)
 clear hox hsz
 obtain ⟨z_31, z_32, z_33, z_34, z_35, z_36, z_37, z_38, z_39, z_40⟩ := at10 bx_3
 obtain ⟨z_41, z_42⟩ := at2 bz_4
 go_wp2
 clear z_31 z_32 z_33 z_34 z_35 z_36 z_37 z_38 z_39 z_40 z_41 z_42
 go_loopw [4, 19] (fun s i wr => ∃ (q : Nat) (Ai : Option Addr) (ci : Nat), q ≤ n2 ∧ i = .int .i64 q ∧ s = .slice Ai (n + q) ci ∧ OwnsX wr (g + 4) 30 4 (.slice Ai (n + q) ci) (n + q) (bcells (ws ++ (ws2.take q).map (wayB ⟨c, ws, ts⟩ ⟨p1, p2, p3, p4⟩))) ∧ Cl wr g (c + 1) p1 p3 p4 ∧ Blk wr (w.heap.size) 101 #[.int .i64 c, .slice A n k, .slice B m j, .int .i64 d, .slice C n2 k2, .slice D m2 j2, .int .i64 p1, .int .i64 p2, .int .i64 p3, .int .i64 p4] ∧ Blk wr (w.heap.size + 1) 46 #[.int .i64 0, .slice none 0 0] ∧ Below w.heap.size w wr) (fun s i _ => n2 - (intOf i).toNat)
 case atStart => exact ⟨0, Ac, cc, Nat.zero_le _, rfl, rfl, by simpa using ox_30.out, cl_17.out, bx_3.out, bz_4.out, bel_1.out⟩
 case round =>
  clear bel_1 bx_3 bz_4 cl_17 ox_30
  obtain ⟨q, Ai, ci, hq, rfl, rfl, i1, i2, i3, i4, i5⟩ := hrel
  have ox_1043 := Lib.hid (i1)
  have cl_1044 := Lib.hid (i2)
  have bx_1045 := Lib.hid (i3)
  have bz_1046 := Lib.hid (i4)
  have bel_1047 := Lib.hid (i5)
  clear i1 i2 i3 i4 i5
  have hgs := Cl.lt cl_1044.out
  by_cases hlt : q < n2
  · have hlt' : (q : Int) < n2 := by omega
    have hlen := RB0.out.len
    obtain ⟨⟨f, t, mm, ib⟩, hx⟩ : ∃ b, ws2[q]? = some b := ⟨ws2[q]'(by omega), List.getElem?_eq_getElem _⟩
    obtain ⟨o1, o2, o3, o4⟩ := hok _ (List.mem_of_getElem? hx)
    dsimp only at o1 o2 o3 o4
    obtain ⟨bb, ob, hBB⟩ := rdB_some RB0.out hx
    subst hBB
    obtain ⟨e0, e1, e2, e3, el⟩ := rdB_at (RdB.below RB0.out bel_1047.out) hx
    obtain ⟨v1, hv1⟩ : ∃ v, ren (c + 1) p1 p3 p4 t = v := ⟨_, rfl⟩
    obtain ⟨v2, hv2⟩ : ∃ v, ren (c + 1) p1 p3 p4 f = v := ⟨_, rfl⟩
    have htk : (ws2.take (q + 1)).map (wayB ⟨c, ws, ts⟩ ⟨p1, p2, p3, p4⟩) = (ws2.take q).map (wayB ⟨c, ws, ts⟩ ⟨p1, p2, p3, p4⟩) ++ [⟨v1, v2, mm, ib⟩] := by rw [List.take_add_one, hx, List.map_append, ← hv1, ← hv2]; rfl
    have HTK := Lib.hid htk; clear htk hx hlen
    have HV1 := Lib.hid (fun w h => Calls.mono (renum_any (c + 1) p1 p3 p4 t g w h (by omega) (by omega) (by omega) (by omega) (by omega)) (fun e w' h => (show e = .returned (.int .i64 v1) ∧ w = w' from ⟨by rw [h.1, hv1], h.2⟩)))
    have HV2 := Lib.hid (fun w h => Calls.mono (renum_any (c + 1) p1 p3 p4 f g w h (by omega) (by omega) (by omega) (by omega) (by omega)) (fun e w' h => (show e = .returned (.int .i64 v2) ∧ w = w' from ⟨by rw [h.1, hv2], h.2⟩)))
    clear hv1 hv2 o1 o2 o3 o4
    go_wp2
    clear e0 e1 e2 e3
    have NE := Lib.hid (OwnsX.ne (ox_1043.out) (Nat.le_refl _))
    obtain ⟨o_, ho_⟩ : ∃ o, o = ((.cells #[.int .i64 f, .int .i64 t, .int .i64 mm, .int .i64 ib] 30) : Obj) := ⟨_, rfl⟩
    replace ox_1043 := Lib.hid (OwnsX.alloc (ox_1043.out) (o_))
    replace cl_1044 := Lib.hid (Cl.alloc (cl_1044.out) (o_))
    replace bx_1045 := kA bx_1045 o_
    replace bz_1046 := kA bz_1046 o_
    replace bel_1047 := bA bel_1047 o_
    subst ho_
    have xb_2048 := Lib.hid (Blk.new wr 30 #[.int .i64 f, .int .i64 t, .int .i64 mm, .int .i64 ib])
    replace ox_1043 := Lib.hid (OwnsX.drew (ox_1043.out))
    replace cl_1044 := Lib.hid (Cl.drew (cl_1044.out))
    replace bx_1045 := kD bx_1045
    replace bz_1046 := kD bz_1046
    replace bel_1047 := bD bel_1047
    replace xb_2048 := kD xb_2048
    refine wp_region_held_drew (S := (fun W' => Blk W' (wr.heap.size) 30 #[.int .i64 f, .int .i64 t, .int .i64 mm, .int .i64 ib])) (by kernel_rfl) xb_2048.out (fun _ => ?_)
    obtain ⟨w258, hw259⟩ : ∃ w', w' = ((wr.alloc (.cells #[.int .i64 f, .int .i64 t, .int .i64 mm, .int .i64 ib] 30)).drew) := ⟨_, rfl⟩
    rw [← hw259] at ox_1043 cl_1044 bx_1045 bz_1046 bel_1047 xb_2048
    rw [← hw259]
    clear hw259
    refine' tkH 0 xb_2048.out ?hyR260 ?_
    case hyR260 => (rintro _ -; go_simp; try with_reducible rfl)
    refine' tkH 1 xb_2048.out ?hyR261 ?_
    case hyR261 => (rintro _ -; go_simp; try with_reducible rfl)
    refine' tkH 2 xb_2048.out ?hyR262 ?_
    case hyR262 => (rintro _ -; go_simp; try with_reducible rfl)
    refine' tkH 3 xb_2048.out ?hyR263 ?_
    case hyR263 => (rintro W' hS0; have hc0 := Blk.nth hS0 1; clear hS0; go_simp; try with_reducible rfl)
    try simp only [Act.put, List.setIfInBounds_toArray, List.set_cons_zero, List.set_cons_succ]
    refine' tkH 5 xb_2048.out ?hyR264 ?_
    case hyR264 => (rintro _ -; go_simp; try with_reducible rfl)
    refine' tkH 6 xb_2048.out ?hyR265 ?_
    case hyR265 => (rintro _ -; go_simp; try with_reducible rfl)
    refine' tkH 7 xb_2048.out ?hyR266 ?_
    case hyR266 => (rintro W' hS0; have hc0 := Blk.nth hS0 0; clear hS0; go_simp; try with_reducible rfl)
    refine' tkH 9 xb_2048.out ?hyR267 ?_
    case hyR267 => (rintro _ -; go_simp; try with_reducible rfl)
    try simp only [Act.put, List.setIfInBounds_toArray, List.set_cons_zero, List.set_cons_succ]
    refine' tkH 10 xb_2048.out ?hyR268 ?_
    case hyR268 => (rintro W' hS0; have hc0 := Blk.nth hS0 2; clear hS0; go_simp; try with_reducible rfl)
    refine' tkH 11 xb_2048.out ?hyR269 ?_
    case hyR269 => (rintro _ -; go_simp; try with_reducible rfl)
    refine' tkH 12 xb_2048.out ?hyR270 ?_
    case hyR270 => (rintro W' hS0; have hc0 := Blk.nth hS0 3; clear hS0; go_simp; try with_reducible rfl)
    try simp only [Act.put, List.setIfInBounds_toArray, List.set_cons_zero, List.set_cons_succ]
    refine wpAnyH_ready (rs := [4]) (by kernel_rfl) (by simp) ?_
    refine rdH rfl (fun K hK => ?_) ?_
    · -- 4: call
     go_simp
     go_at_call 173
     refine (HV1.out _ (cl_1044.out)).mono ?_
     rintro e w271 ⟨rfl, rfl⟩
     dsimp only
     refine hK.out _ _ xb_2048.out (fun _ => ?_); clear hK K
     try simp only [Act.put, List.setIfInBounds_toArray, List.set_cons_zero, List.set_cons_succ]
     refine wpAnyH_ready (rs := [8]) (by kernel_rfl) (by simp) ?_
     refine rdH rfl (fun K hK => ?_) ?_
     · -- 8: call
      go_simp
      go_at_call 173
      refine (HV2.out _ (cl_1044.out)).mono ?_
      rintro e w272 ⟨rfl, rfl⟩
      dsimp only
      refine hK.out _ _ xb_2048.out (fun _ => ?_); clear hK K
      try simp only [Act.put, List.setIfInBounds_toArray, List.set_cons_zero, List.set_cons_succ]
      refine' tkH 13 xb_2048.out ?hyR273 ?_
      case hyR273 => (rintro _ -; go_simp; try with_reducible rfl)
      try simp only [Act.put, List.setIfInBounds_toArray, List.set_cons_zero, List.set_cons_succ]
      refine wpAnyH_ready (rs := [14]) (by kernel_rfl) (by simp) ?_
      refine rdH rfl (fun K hK => ?_) ?_
      · -- 14: buildSlice
       go_simp
       have ne278 := Lib.hid (Nat.ne_of_lt (Blk.lt bx_1045.out))
       have ne279 := Lib.hid (Nat.ne_of_lt (Blk.lt bz_1046.out))
       have lb280 := Lib.hid (bel_1047.out.size)
       have ne281 := Lib.hid (Nat.ne_of_lt (Blk.lt xb_2048.out))
       obtain ⟨o_, ho_⟩ : ∃ o, o = (.cells #[.int .i64 v1, .int .i64 v2, .int .i64 mm, .int .i64 ib] 30 : Obj) := ⟨_, rfl⟩
       replace ox_1043 := Lib.hid (OwnsX.alloc (ox_1043.out) (o_))
       replace cl_1044 := Lib.hid (Cl.alloc (cl_1044.out) (o_))
       replace bx_1045 := kA bx_1045 o_
       replace bz_1046 := kA bz_1046 o_
       replace bel_1047 := bA bel_1047 o_
       replace xb_2048 := kA xb_2048 o_
       subst ho_
       have nb_282 := Lib.hid (Blk.new (w258) 30 #[.int .i64 v1, .int .i64 v2, .int .i64 mm, .int .i64 ib])
       obtain ⟨g274, hg275⟩ : ∃ g, g = (w258).heap.size := ⟨_, rfl⟩
       obtain ⟨w276, hw277⟩ : ∃ w', w' = (w258).alloc (.cells #[.int .i64 v1, .int .i64 v2, .int .i64 mm, .int .i64 ib] 30) := ⟨_, rfl⟩
       rw [← hw277] at ox_1043 cl_1044 bx_1045 bz_1046 bel_1047 xb_2048 nb_282
       rw [← hg275] at ne278 ne279 lb280 ne281 nb_282
       rw [← hg275, ← hw277]
       clear hg275 hw277
       refine hK.out _ _ xb_2048.out (fun _ => ?_); clear hK K
       try simp only [Act.put, List.setIfInBounds_toArray, List.set_cons_zero, List.set_cons_succ]
       refine wpAnyH_ready (rs := [15]) (by kernel_rfl) (by simp) ?_
       refine rdH rfl (fun K hK => ?_) ?_
       · -- 15: call
        have hcell := cells_add (cs := bcells [⟨v1, v2, mm, ib⟩]) (show Blk _ _ _ (bcells [⟨v1, v2, mm, ib⟩]).toArray from nb_282.out)
        have hsz := Cl.lt (cl_1044.out)
        refine wp_append_X _ (.tmp 23) (.tmp 37) 22 rfl (g + 4) 30 i0 _ 4 32 Tryz.underlying22 HI.out HZ0.out HZ1.out HZ2.out rfl (by omega) Ai (n + q) ci _ rfl (ox_1043.out) ⟨g274, 0, none⟩ 1 1 (bcells [⟨v1, v2, mm, ib⟩]) rfl rfl hcell (bcells_one _) (by omega) (by unfold maxLen; omega) (by omega) (by omega) ?_
        intro g5 c5 w283 hown5 hb5 hg5 hkp5
        have k284 := Lib.hid (OwnsX.of (hown5))
        have k285 := Lib.hid (Cl.belowB (cl_1044.out) hb5 (Nat.le_refl _))
        have k286 := Lib.hid (Blk.below (bx_1045.out) hb5 (by omega))
        have k287 := Lib.hid (Blk.below (bz_1046.out) hb5 (by omega))
        have k288 := Lib.hid (Below.trans (bel_1047.out) (Below.mono hb5 (by omega)))
        have k289 := Lib.hid ((hkp5 _ (Blk.lt (xb_2048.out)) NE.out).trans (xb_2048.out))
        clear hown5 hb5 hcell hsz hkp5
        refine hK.out _ _ k289.out (fun _ => ?_); clear hK K
        try simp only [Act.put, List.setIfInBounds_toArray, List.set_cons_zero, List.set_cons_succ]
        refine' tkH 16 k289.out ?hyR290 ?_
        case hyR290 => (rintro _ -; go_simp; try with_reducible rfl)
        try simp only [Act.put, List.setIfInBounds_toArray, List.set_cons_zero, List.set_cons_succ]
        refine wpAnyH_done (by kernel_rfl) ?_ _
        go_wp2
        go_roundw
        case rel => exact ⟨q + 1, some ⟨g5, 0, none⟩, c5, by omega, by go_num, rfl, by rw [HTK.out, ← List.append_assoc, bcells_append]; exact k284.out, k285.out, k286.out, k287.out, k288.out⟩
        case measure => simp [intOf]; omega
       exact AllReadyH.nil
      exact AllReadyH.nil
     exact AllReadyH.nil
    exact AllReadyH.nil
  · obtain rfl : n2 = q := by omega
    have hlen := RB0.out.len
    have hox2 := ox_1043.out
    rw [List.take_of_length_le (by omega)] at hox2
    have OXF := Lib.hid hox2; clear hox2 hlen
    clear ox_1043
    go_wp2
    have hw1 : IntKind.i64.wrap (c + d) = c + d := IntWalk.i64_in _ (by omega)
    have hw2 : IntKind.i64.wrap (c + d + 1) = c + d + 1 := IntWalk.i64_in _ (by omega)
    have hw3 : IntKind.i64.wrap (c + d + 1 - (p2 - p1)) = c + d + 1 - (p2 - p1) := IntWalk.i64_in _ (by omega)
    have HWS := Lib.hid (And.intro hw1 (And.intro hw2 hw3)); clear hw1 hw2 hw3
    replace OXF := Lib.hid (OwnsX.drew (OXF.out))
    replace cl_1044 := Lib.hid (Cl.drew (cl_1044.out))
    replace bx_1045 := kD bx_1045
    replace bz_1046 := kD bz_1046
    replace bel_1047 := bD bel_1047
    refine wp_region_held_drew (S := (fun W' => Blk W' (w.heap.size) 101 #[.int .i64 c, .slice A n k, .slice B m j, .int .i64 d, .slice C n2 k2, .slice D m2 j2, .int .i64 p1, .int .i64 p2, .int .i64 p3, .int .i64 p4])) (by kernel_rfl) bx_1045.out (fun _ => ?_)
    obtain ⟨w291, hw292⟩ : ∃ w', w' = (wr.drew) := ⟨_, rfl⟩
    rw [← hw292] at OXF cl_1044 bx_1045 bz_1046 bel_1047
    rw [← hw292]
    clear hw292
    refine' tkH 0 bx_1045.out ?hyR293 ?_
    case hyR293 => (rintro _ -; go_simp; try with_reducible rfl)
    refine' tkH 1 bx_1045.out ?hyR294 ?_
    case hyR294 => (rintro _ -; go_simp; try with_reducible rfl)
    refine' tkH 2 bx_1045.out ?hyR295 ?_
    case hyR295 => (rintro _ -; go_simp; try with_reducible rfl)
    refine' tkH 3 bx_1045.out ?hyR296 ?_
    case hyR296 => (rintro W' hS0; have hc0 := Blk.nth hS0 0; clear hS0; go_simp; try with_reducible rfl)
    try simp only [Act.put, List.setIfInBounds_toArray, List.set_cons_zero, List.set_cons_succ]
    refine' tkH 4 bx_1045.out ?hyR297 ?_
    case hyR297 => (rintro _ -; go_simp; try with_reducible rfl)
    refine' tkH 5 bx_1045.out ?hyR298 ?_
    case hyR298 => (rintro _ -; go_simp; try with_reducible rfl)
    refine' tkH 6 bx_1045.out ?hyR299 ?_
    case hyR299 => (rintro _ -; go_simp; try with_reducible rfl)
    refine' tkH 7 bx_1045.out ?hyR300 ?_
    case hyR300 => (rintro W' hS0; have hc0 := Blk.nth hS0 3; clear hS0; go_simp; try with_reducible rfl)
    try simp only [Act.put, List.setIfInBounds_toArray, List.set_cons_zero, List.set_cons_succ]
    refine' tkH 8 bx_1045.out ?hyR301 ?_
    case hyR301 => (rintro _ -; go_simp; try with_reducible rfl)
    refine' tkH 9 bx_1045.out ?hyR302 ?_
    case hyR302 => (rintro _ -; go_simp; try with_reducible rfl)
    refine' tkH 10 bx_1045.out ?hyR303 ?_
    case hyR303 => (rintro _ -; go_simp; try with_reducible rfl)
    refine' tkH 11 bx_1045.out ?hyR304 ?_
    case hyR304 => (rintro _ -; go_simp; try with_reducible rfl)
    try simp only [Act.put, List.setIfInBounds_toArray, List.set_cons_zero, List.set_cons_succ]
    refine' tkH 12 bx_1045.out ?hyR305 ?_
    case hyR305 => (rintro W' hS0; have hc0 := Blk.nth hS0 6; have hc1 := Blk.nth hS0 7; clear hS0; go_simp; try with_reducible rfl)
    refine' tkH 15 bx_1045.out ?hyR306 ?_
    case hyR306 => (rintro _ -; go_simp; try with_reducible rfl)
    try simp only [Act.put, List.setIfInBounds_toArray, List.set_cons_zero, List.set_cons_succ]
    refine wpAnyH_ready (rs := [13]) (by kernel_rfl) (by simp) ?_
    refine rdH rfl (fun K hK => ?_) ?_
    · -- 13: call
     go_simp
     go_at_call 72
     refine (sides_any p1 p2 _ (by omega) (by omega) (by omega) (by omega)).mono ?_
     rintro e w307 ⟨rfl, hb308⟩
     dsimp only
     replace OXF := Lib.hid (OwnsX.below (OXF.out) hb308)
     replace cl_1044 := Lib.hid (Cl.keep (cl_1044.out) hb308)
     replace bx_1045 := kB bx_1045 hb308
     replace bz_1046 := kB bz_1046 hb308
     replace bel_1047 := bB bel_1047 hb308
     refine hK.out _ _ bx_1045.out (fun _ => ?_); clear hK K
     try simp only [Act.put, List.setIfInBounds_toArray, List.set_cons_zero, List.set_cons_succ]
     refine' tkH 14 bx_1045.out ?hyR309 ?_
     case hyR309 => (rintro _ -; go_simp; try with_reducible rfl)
     refine' tkH 16 bx_1045.out ?hyR310 ?_
     case hyR310 => (rintro _ -; go_simp; try with_reducible rfl)
     try simp only [Act.put, List.setIfInBounds_toArray, List.set_cons_zero, List.set_cons_succ]
     refine wpAnyH_ready (rs := [17]) (by kernel_rfl) (by simp) ?_
     refine rdH rfl (fun K hK => ?_) ?_
     · -- 17: store
      have bl_ := bel_1047.out
      have ox_ := OXF.out
      have bz_ := bz_1046.out
      have c0_ := Blk.cell bz_ 0; have c1_ := Blk.cell bz_ 1; have f0_ := Blk.frozen bz_ 0; have f1_ := Blk.frozen bz_ 1; have hlt_ := Blk.lt bz_
      simp only [List.getElem?_toArray, List.getElem?_cons_zero, List.getElem?_cons_succ] at c0_ c1_
      go_simp
      obtain ⟨hw1, hw2, hw3⟩ := HWS.out
      simp only [hw1, hw2, hw3]
      clear hw1 hw2 hw3
      have bx2_ := Lib.hid (Blk.far (Blk.far (bx_1045.out) (p := ⟨w.heap.size + 1, 0, none⟩) (by simp) (.int .i64 (c + d + 1 - (p2 - p1)))) (p := ⟨w.heap.size + 1, 1, none⟩) (by simp) (.slice Ai (n + n2) ci))
      have bel2_ := Lib.hid (Below.setCell (Below.setCell (bl_) (p := ⟨w.heap.size + 1, 0, none⟩) (by simp) (.int .i64 (c + d + 1 - (p2 - p1)))) (p := ⟨w.heap.size + 1, 1, none⟩) (by simp) (.slice Ai (n + n2) ci))
      have ox2_ := Lib.hid (OwnsX.setCell (OwnsX.setCell (ox_) (a := ⟨w.heap.size + 1, 0, none⟩) (by simp; omega) (.int .i64 (c + d + 1 - (p2 - p1)))) (a := ⟨w.heap.size + 1, 1, none⟩) (by simp; omega) (.slice Ai (n + n2) ci))
      have bz2_ := Lib.hid (Blk.set_ (Blk.set_ bz_ 0 (.int .i64 (c + d + 1 - (p2 - p1)))) 1 (.slice Ai (n + n2) ci))
      clear c0_ c1_ f0_ f1_ bl_ ox_ bz_ hlt_
      refine hK.out _ _ bx2_.out (fun _ => ?_); clear hK K
      try simp only [Act.put, List.setIfInBounds_toArray, List.set_cons_zero, List.set_cons_succ]
      refine wpAnyH_done (by kernel_rfl) ?_ _
      have c0_ := Blk.cell bz2_.out 0; have c1_ := Blk.cell bz2_.out 1
      have rd_ := rdB_of ox2_.out; have bl_ := bel2_.out
      simp only [List.setIfInBounds_toArray, List.set_cons_zero, List.set_cons_succ, List.getElem?_toArray, List.getElem?_cons_zero, List.getElem?_cons_succ] at c0_ c1_
      generalize World.setCell (World.setCell _ _ _) _ _ = wF at *
      go_wp2
      refine bodyPost_ret (v := .agg #[.int .i64 (c + d + 1 - (p2 - p1)), .slice Ai (n + n2) ci]) (by simp [results, Tryz.results81, go_sem, c0_, c1_]) rfl ?_
      exact ⟨Ai, n + n2, ci, rfl, rd_, bl_⟩
     exact AllReadyH.nil
    exact AllReadyH.nil
set_option maxRecDepth 100000 in
set_option maxHeartbeats 4000000 in
theorem turns_any (c : Int) (A B : Option Addr) (n k m j : Nat) (ws ts : List Bnd) (d : Int) (C D : Option Addr) (n2 k2 m2 j2 : Nat) (ws2 ts2 : List Bnd) (p1 p2 p3 p4 : Int) (w : World) (h1 : RdB w A n k ws) (h2 : RdB w B m j ts) (hn : n ≤ maxLen) (hm : m ≤ maxLen) (h3 : RdB w C n2 k2 ws2) (h4 : RdB w D m2 j2 ts2) (hn2 : n2 ≤ maxLen) (hm2 : m2 ≤ maxLen) (g0 : 3 ≤ c ∧ c ≤ 16) (g1 : 3 ≤ d ∧ d ≤ 16) (g2 : 0 ≤ p1 ∧ p1 < p2 ∧ p2 ≤ c) (g3 : 0 ≤ p3 ∧ p3 < p4 ∧ p4 ≤ d) (hl1 : m ≤ 400) (hl2 : m2 ≤ 400) (hok : ∀ x ∈ ts2, 0 ≤ x.f ∧ x.f ≤ 16 ∧ 0 ≤ x.t ∧ x.t ≤ 16) :
 Calls Tryz.prog 82 #[.agg #[.int .i64 c, .slice A n k, .slice B m j, .int .i64 d, .slice C n2 k2, .slice D m2 j2, .int .i64 p1, .int .i64 p2, .int .i64 p3, .int .i64 p4]] w fun e w' => ∃ Ar nr kr, e = .returned (.agg #[.int .i64 (turnP ⟨c, ws, ts⟩ ⟨d, ws2, ts2⟩ ⟨p1, p2, p3, p4⟩), .slice Ar nr kr]) ∧ RdB w' Ar nr kr (turnL ⟨c, ws, ts⟩ ⟨d, ws2, ts2⟩ ⟨p1, p2, p3, p4⟩) ∧ Below w.heap.size w w' := by
 obtain ⟨i0, hi0, hz0, hz1, hz2⟩ := info_parts infoB
 have HI := Lib.hid hi0; have HZ0 := Lib.hid hz0; have HZ1 := Lib.hid hz1; have HZ2 := Lib.hid hz2; clear hi0 hz0 hz1 hz2
 have RB0 := Lib.hid h4
 go_enter Tryz.func82, Tryz.ntmps82
 have bel_1 := Lib.hid (show Below w.heap.size w w from Below.refl _ w)
 have rb_2 := Lib.hid (h2)
 clear h2
 obtain ⟨o_, ho_⟩ : ∃ o, o = ((.cells #[.int .i64 c, .slice A n k, .slice B m j, .int .i64 d, .slice C n2 k2, .slice D m2 j2, .int .i64 p1, .int .i64 p2, .int .i64 p3, .int .i64 p4] 101) : Obj) := ⟨_, rfl⟩
 replace bel_1 := bA bel_1 o_
 replace rb_2 := rA rb_2 o_
 subst ho_
 have bx_3 := Lib.hid (Blk.new w 101 #[.int .i64 c, .slice A n k, .slice B m j, .int .i64 d, .slice C n2 k2, .slice D m2 j2, .int .i64 p1, .int .i64 p2, .int .i64 p3, .int .i64 p4])
 obtain ⟨o_, ho_⟩ : ∃ o, o = ((.cells #[.int .i64 0, .slice none 0 0] 46) : Obj) := ⟨_, rfl⟩
 replace bel_1 := bA bel_1 o_
 replace rb_2 := rA rb_2 o_
 replace bx_3 := kA bx_3 o_
 subst ho_
 have nb_ := Blk.new (w.alloc (.cells #[.int .i64 c, .slice A n k, .slice B m j, .int .i64 d, .slice C n2 k2, .slice D m2 j2, .int .i64 p1, .int .i64 p2, .int .i64 p3, .int .i64 p4] 101)) 46 #[.int .i64 0, .slice none 0 0]
 simp only [World.size_alloc] at nb_
 have bz_4 := Lib.hid nb_; clear nb_
 clear h1 h3 h4
 obtain ⟨z_5, z_6, z_7, z_8, z_9, z_10, z_11, z_12, z_13, z_14⟩ := at10 bx_3
 obtain ⟨z_15, z_16⟩ := at2 bz_4
 have hc := side_any c A B n k m j d C D n2 k2 m2 j2 p1 p2 p3 p4 (((w.alloc (.cells #[.int .i64 c, .slice A n k, .slice B m j, .int .i64 d, .slice C n2 k2, .slice D m2 j2, .int .i64 p1, .int .i64 p2, .int .i64 p3, .int .i64 p4] 101)).alloc (.cells #[.int .i64 0, .slice none 0 0] 46))) ⟨by omega, by omega⟩
 have HC := Lib.hid hc; clear hc
 go_wp2_with fail
 refine HC.out.mono ?_
 rintro e w9 ⟨g, rfl, hcl, hge, hb⟩
 clear HC
 clear z_5 z_6 z_7 z_8 z_9 z_10 z_11 z_12 z_13 z_14 z_15 z_16
 simp only [World.size_alloc] at hge
 replace bel_1 := bB bel_1 hb
 replace rb_2 := rB rb_2 hb
 replace bx_3 := kB bx_3 hb
 replace bz_4 := kB bz_4 hb
 clear hb
 have cl_17 := Lib.hid (hcl)
 clear hcl
 unfold fnV
 obtain ⟨z_18, z_19, z_20, z_21, z_22, z_23, z_24, z_25, z_26, z_27⟩ := at10 bx_3
 obtain ⟨z_28, z_29⟩ := at2 bz_4
 have hc := ecopied_any B m j ts _ rb_2.out hl1
 have HC := Lib.hid hc; clear hc
 go_wp2_with fail
 refine HC.out.mono ?_
 rintro e w10 ⟨Ac, cc, rfl, hox, hb⟩
 clear HC
 clear z_18 z_19 z_20 z_21 z_22 z_23 z_24 z_25 z_26 z_27 z_28 z_29
 have hsz := Cl.lt cl_17.out
 have hox := OwnsX.base hox (show g + 4 ≤ w9.heap.size by omega)
 replace bel_1 := bB bel_1 hb
 replace rb_2 := rB rb_2 hb
 replace bx_3 := kB bx_3 hb
 replace bz_4 := kB bz_4 hb
 replace cl_17 := Lib.hid (Cl.keep (cl_17.out) hb)
 clear hb
 have ox_30 := Lib.hid (hox)
 clear hox hsz
 obtain ⟨z_31, z_32, z_33, z_34, z_35, z_36, z_37, z_38, z_39, z_40⟩ := at10 bx_3
 obtain ⟨z_41, z_42⟩ := at2 bz_4
 go_wp2
 clear z_31 z_32 z_33 z_34 z_35 z_36 z_37 z_38 z_39 z_40 z_41 z_42
 go_loopw [4, 19] (fun s i wr => ∃ (q : Nat) (Ai : Option Addr) (ci : Nat), q ≤ m2 ∧ i = .int .i64 q ∧ s = .slice Ai (m + q) ci ∧ OwnsX wr (g + 4) 30 4 (.slice Ai (m + q) ci) (m + q) (bcells (ts ++ (ts2.take q).map (turnB ⟨c, ws, ts⟩ ⟨p1, p2, p3, p4⟩))) ∧ Cl wr g c p1 p3 (p4 - 1) ∧ Blk wr (w.heap.size) 101 #[.int .i64 c, .slice A n k, .slice B m j, .int .i64 d, .slice C n2 k2, .slice D m2 j2, .int .i64 p1, .int .i64 p2, .int .i64 p3, .int .i64 p4] ∧ Blk wr (w.heap.size + 1) 46 #[.int .i64 0, .slice none 0 0] ∧ Below w.heap.size w wr) (fun s i _ => m2 - (intOf i).toNat)
 case atStart => exact ⟨0, Ac, cc, Nat.zero_le _, rfl, rfl, by simpa using ox_30.out, cl_17.out, bx_3.out, bz_4.out, bel_1.out⟩
 case round =>
  clear bel_1 bx_3 bz_4 cl_17 ox_30
  obtain ⟨q, Ai, ci, hq, rfl, rfl, i1, i2, i3, i4, i5⟩ := hrel
  have ox_1043 := Lib.hid (i1)
  have cl_1044 := Lib.hid (i2)
  have bx_1045 := Lib.hid (i3)
  have bz_1046 := Lib.hid (i4)
  have bel_1047 := Lib.hid (i5)
  clear i1 i2 i3 i4 i5
  have hgs := Cl.lt cl_1044.out
  by_cases hlt : q < m2
  · have hlt' : (q : Int) < m2 := by omega
    have hlen := RB0.out.len
    obtain ⟨⟨f, t, mm, ib⟩, hx⟩ : ∃ b, ts2[q]? = some b := ⟨ts2[q]'(by omega), List.getElem?_eq_getElem _⟩
    obtain ⟨o1, o2, o3, o4⟩ := hok _ (List.mem_of_getElem? hx)
    dsimp only at o1 o2 o3 o4
    obtain ⟨bb, ob, hBB⟩ := rdB_some RB0.out hx
    subst hBB
    obtain ⟨e0, e1, e2, e3, el⟩ := rdB_at (RdB.below RB0.out bel_1047.out) hx
    obtain ⟨v1, hv1⟩ : ∃ v, ren c p1 p3 (p4 - 1) f = v := ⟨_, rfl⟩
    obtain ⟨v2, hv2⟩ : ∃ v, ren c p1 p3 (p4 - 1) t = v := ⟨_, rfl⟩
    have htk : (ts2.take (q + 1)).map (turnB ⟨c, ws, ts⟩ ⟨p1, p2, p3, p4⟩) = (ts2.take q).map (turnB ⟨c, ws, ts⟩ ⟨p1, p2, p3, p4⟩) ++ [⟨v1, v2, mm, ib⟩] := by rw [List.take_add_one, hx, List.map_append, ← hv1, ← hv2]; rfl
    have HTK := Lib.hid htk; clear htk hx hlen
    have HV1 := Lib.hid (fun w h => Calls.mono (renum_any c p1 p3 (p4 - 1) f g w h (by omega) (by omega) (by omega) (by omega) (by omega)) (fun e w' h => (show e = .returned (.int .i64 v1) ∧ w = w' from ⟨by rw [h.1, hv1], h.2⟩)))
    have HV2 := Lib.hid (fun w h => Calls.mono (renum_any c p1 p3 (p4 - 1) t g w h (by omega) (by omega) (by omega) (by omega) (by omega)) (fun e w' h => (show e = .returned (.int .i64 v2) ∧ w = w' from ⟨by rw [h.1, hv2], h.2⟩)))
    clear hv1 hv2 o1 o2 o3 o4
    go_wp2
    clear e0 e1 e2 e3
    have NE := Lib.hid (OwnsX.ne (ox_1043.out) (Nat.le_refl _))
    obtain ⟨o_, ho_⟩ : ∃ o, o = ((.cells #[.int .i64 f, .int .i64 t, .int .i64 mm, .int .i64 ib] 30) : Obj) := ⟨_, rfl⟩
    replace ox_1043 := Lib.hid (OwnsX.alloc (ox_1043.out) (o_))
    replace cl_1044 := Lib.hid (Cl.alloc (cl_1044.out) (o_))
    replace bx_1045 := kA bx_1045 o_
    replace bz_1046 := kA bz_1046 o_
    replace bel_1047 := bA bel_1047 o_
    subst ho_
    have xb_2048 := Lib.hid (Blk.new wr 30 #[.int .i64 f, .int .i64 t, .int .i64 mm, .int .i64 ib])
    replace ox_1043 := Lib.hid (OwnsX.drew (ox_1043.out))
    replace cl_1044 := Lib.hid (Cl.drew (cl_1044.out))
    replace bx_1045 := kD bx_1045
    replace bz_1046 := kD bz_1046
    replace bel_1047 := bD bel_1047
    replace xb_2048 := kD xb_2048
    refine wp_region_held_drew (S := (fun W' => Blk W' (wr.heap.size) 30 #[.int .i64 f, .int .i64 t, .int .i64 mm, .int .i64 ib])) (by kernel_rfl) xb_2048.out (fun _ => ?_)
    obtain ⟨w311, hw312⟩ : ∃ w', w' = ((wr.alloc (.cells #[.int .i64 f, .int .i64 t, .int .i64 mm, .int .i64 ib] 30)).drew) := ⟨_, rfl⟩
    rw [← hw312] at ox_1043 cl_1044 bx_1045 bz_1046 bel_1047 xb_2048
    rw [← hw312]
    clear hw312
    refine' tkH 0 xb_2048.out ?hyR313 ?_
    case hyR313 => (rintro _ -; go_simp; try with_reducible rfl)
    refine' tkH 1 xb_2048.out ?hyR314 ?_
    case hyR314 => (rintro _ -; go_simp; try with_reducible rfl)
    refine' tkH 2 xb_2048.out ?hyR315 ?_
    case hyR315 => (rintro _ -; go_simp; try with_reducible rfl)
    refine' tkH 3 xb_2048.out ?hyR316 ?_
    case hyR316 => (rintro W' hS0; have hc0 := Blk.nth hS0 0; clear hS0; go_simp; try with_reducible rfl)
    try simp only [Act.put, List.setIfInBounds_toArray, List.set_cons_zero, List.set_cons_succ]
    refine' tkH 5 xb_2048.out ?hyR317 ?_
    case hyR317 => (rintro _ -; go_simp; try with_reducible rfl)
    refine' tkH 6 xb_2048.out ?hyR318 ?_
    case hyR318 => (rintro _ -; go_simp; try with_reducible rfl)
    refine' tkH 7 xb_2048.out ?hyR319 ?_
    case hyR319 => (rintro W' hS0; have hc0 := Blk.nth hS0 1; clear hS0; go_simp; try with_reducible rfl)
    refine' tkH 9 xb_2048.out ?hyR320 ?_
    case hyR320 => (rintro _ -; go_simp; try with_reducible rfl)
    try simp only [Act.put, List.setIfInBounds_toArray, List.set_cons_zero, List.set_cons_succ]
    refine' tkH 10 xb_2048.out ?hyR321 ?_
    case hyR321 => (rintro W' hS0; have hc0 := Blk.nth hS0 2; clear hS0; go_simp; try with_reducible rfl)
    refine' tkH 11 xb_2048.out ?hyR322 ?_
    case hyR322 => (rintro _ -; go_simp; try with_reducible rfl)
    refine' tkH 12 xb_2048.out ?hyR323 ?_
    case hyR323 => (rintro W' hS0; have hc0 := Blk.nth hS0 3; clear hS0; go_simp; try with_reducible rfl)
    try simp only [Act.put, List.setIfInBounds_toArray, List.set_cons_zero, List.set_cons_succ]
    refine wpAnyH_ready (rs := [4]) (by kernel_rfl) (by simp) ?_
    refine rdH rfl (fun K hK => ?_) ?_
    · -- 4: call
     go_simp
     go_at_call 173
     refine (HV1.out _ (cl_1044.out)).mono ?_
     rintro e w324 ⟨rfl, rfl⟩
     dsimp only
     refine hK.out _ _ xb_2048.out (fun _ => ?_); clear hK K
     try simp only [Act.put, List.setIfInBounds_toArray, List.set_cons_zero, List.set_cons_succ]
     refine wpAnyH_ready (rs := [8]) (by kernel_rfl) (by simp) ?_
     refine rdH rfl (fun K hK => ?_) ?_
     · -- 8: call
      go_simp
      go_at_call 173
      refine (HV2.out _ (cl_1044.out)).mono ?_
      rintro e w325 ⟨rfl, rfl⟩
      dsimp only
      refine hK.out _ _ xb_2048.out (fun _ => ?_); clear hK K
      try simp only [Act.put, List.setIfInBounds_toArray, List.set_cons_zero, List.set_cons_succ]
      refine' tkH 13 xb_2048.out ?hyR326 ?_
      case hyR326 => (rintro _ -; go_simp; try with_reducible rfl)
      try simp only [Act.put, List.setIfInBounds_toArray, List.set_cons_zero, List.set_cons_succ]
      refine wpAnyH_ready (rs := [14]) (by kernel_rfl) (by simp) ?_
      refine rdH rfl (fun K hK => ?_) ?_
      · -- 14: buildSlice
       go_simp
       have ne331 := Lib.hid (Nat.ne_of_lt (Blk.lt bx_1045.out))
       have ne332 := Lib.hid (Nat.ne_of_lt (Blk.lt bz_1046.out))
       have lb333 := Lib.hid (bel_1047.out.size)
       have ne334 := Lib.hid (Nat.ne_of_lt (Blk.lt xb_2048.out))
       obtain ⟨o_, ho_⟩ : ∃ o, o = (.cells #[.int .i64 v1, .int .i64 v2, .int .i64 mm, .int .i64 ib] 30 : Obj) := ⟨_, rfl⟩
       replace ox_1043 := Lib.hid (OwnsX.alloc (ox_1043.out) (o_))
       replace cl_1044 := Lib.hid (Cl.alloc (cl_1044.out) (o_))
       replace bx_1045 := kA bx_1045 o_
       replace bz_1046 := kA bz_1046 o_
       replace bel_1047 := bA bel_1047 o_
       replace xb_2048 := kA xb_2048 o_
       subst ho_
       have nb_335 := Lib.hid (Blk.new (w311) 30 #[.int .i64 v1, .int .i64 v2, .int .i64 mm, .int .i64 ib])
       obtain ⟨g327, hg328⟩ : ∃ g, g = (w311).heap.size := ⟨_, rfl⟩
       obtain ⟨w329, hw330⟩ : ∃ w', w' = (w311).alloc (.cells #[.int .i64 v1, .int .i64 v2, .int .i64 mm, .int .i64 ib] 30) := ⟨_, rfl⟩
       rw [← hw330] at ox_1043 cl_1044 bx_1045 bz_1046 bel_1047 xb_2048 nb_335
       rw [← hg328] at ne331 ne332 lb333 ne334 nb_335
       rw [← hg328, ← hw330]
       clear hg328 hw330
       refine hK.out _ _ xb_2048.out (fun _ => ?_); clear hK K
       try simp only [Act.put, List.setIfInBounds_toArray, List.set_cons_zero, List.set_cons_succ]
       refine wpAnyH_ready (rs := [15]) (by kernel_rfl) (by simp) ?_
       refine rdH rfl (fun K hK => ?_) ?_
       · -- 15: call
        have hcell := cells_add (cs := bcells [⟨v1, v2, mm, ib⟩]) (show Blk _ _ _ (bcells [⟨v1, v2, mm, ib⟩]).toArray from nb_335.out)
        have hsz := Cl.lt (cl_1044.out)
        refine wp_append_X _ (.tmp 23) (.tmp 37) 22 rfl (g + 4) 30 i0 _ 4 32 Tryz.underlying22 HI.out HZ0.out HZ1.out HZ2.out rfl (by omega) Ai (m + q) ci _ rfl (ox_1043.out) ⟨g327, 0, none⟩ 1 1 (bcells [⟨v1, v2, mm, ib⟩]) rfl rfl hcell (bcells_one _) (by omega) (by unfold maxLen; omega) (by omega) (by omega) ?_
        intro g5 c5 w336 hown5 hb5 hg5 hkp5
        have k337 := Lib.hid (OwnsX.of (hown5))
        have k338 := Lib.hid (Cl.belowB (cl_1044.out) hb5 (Nat.le_refl _))
        have k339 := Lib.hid (Blk.below (bx_1045.out) hb5 (by omega))
        have k340 := Lib.hid (Blk.below (bz_1046.out) hb5 (by omega))
        have k341 := Lib.hid (Below.trans (bel_1047.out) (Below.mono hb5 (by omega)))
        have k342 := Lib.hid ((hkp5 _ (Blk.lt (xb_2048.out)) NE.out).trans (xb_2048.out))
        clear hown5 hb5 hcell hsz hkp5
        refine hK.out _ _ k342.out (fun _ => ?_); clear hK K
        try simp only [Act.put, List.setIfInBounds_toArray, List.set_cons_zero, List.set_cons_succ]
        refine' tkH 16 k342.out ?hyR343 ?_
        case hyR343 => (rintro _ -; go_simp; try with_reducible rfl)
        try simp only [Act.put, List.setIfInBounds_toArray, List.set_cons_zero, List.set_cons_succ]
        refine wpAnyH_done (by kernel_rfl) ?_ _
        go_wp2
        go_roundw
        case rel => exact ⟨q + 1, some ⟨g5, 0, none⟩, c5, by omega, by go_num, rfl, by rw [HTK.out, ← List.append_assoc, bcells_append]; exact k337.out, k338.out, k339.out, k340.out, k341.out⟩
        case measure => simp [intOf]; omega
       exact AllReadyH.nil
      exact AllReadyH.nil
     exact AllReadyH.nil
    exact AllReadyH.nil
  · obtain rfl : m2 = q := by omega
    have hlen := RB0.out.len
    have hox2 := ox_1043.out
    rw [List.take_of_length_le (by omega)] at hox2
    have OXF := Lib.hid hox2; clear hox2 hlen
    clear ox_1043
    go_wp2
    have hw1 : IntKind.i64.wrap (c + d) = c + d := IntWalk.i64_in _ (by omega)
    have hw3 : IntKind.i64.wrap (c + d - (p2 - p1)) = c + d - (p2 - p1) := IntWalk.i64_in _ (by omega)
    have HWS := Lib.hid (And.intro hw1 (And.intro trivial hw3)); clear hw1 hw3
    replace OXF := Lib.hid (OwnsX.drew (OXF.out))
    replace cl_1044 := Lib.hid (Cl.drew (cl_1044.out))
    replace bx_1045 := kD bx_1045
    replace bz_1046 := kD bz_1046
    replace bel_1047 := bD bel_1047
    refine wp_region_held_drew (S := (fun W' => Blk W' (w.heap.size) 101 #[.int .i64 c, .slice A n k, .slice B m j, .int .i64 d, .slice C n2 k2, .slice D m2 j2, .int .i64 p1, .int .i64 p2, .int .i64 p3, .int .i64 p4])) (by kernel_rfl) bx_1045.out (fun _ => ?_)
    obtain ⟨w344, hw345⟩ : ∃ w', w' = (wr.drew) := ⟨_, rfl⟩
    rw [← hw345] at OXF cl_1044 bx_1045 bz_1046 bel_1047
    rw [← hw345]
    clear hw345
    refine' tkH 0 bx_1045.out ?hyR346 ?_
    case hyR346 => (rintro _ -; go_simp; try with_reducible rfl)
    refine' tkH 1 bx_1045.out ?hyR347 ?_
    case hyR347 => (rintro _ -; go_simp; try with_reducible rfl)
    refine' tkH 2 bx_1045.out ?hyR348 ?_
    case hyR348 => (rintro _ -; go_simp; try with_reducible rfl)
    refine' tkH 3 bx_1045.out ?hyR349 ?_
    case hyR349 => (rintro W' hS0; have hc0 := Blk.nth hS0 0; clear hS0; go_simp; try with_reducible rfl)
    try simp only [Act.put, List.setIfInBounds_toArray, List.set_cons_zero, List.set_cons_succ]
    refine' tkH 4 bx_1045.out ?hyR350 ?_
    case hyR350 => (rintro _ -; go_simp; try with_reducible rfl)
    refine' tkH 5 bx_1045.out ?hyR351 ?_
    case hyR351 => (rintro _ -; go_simp; try with_reducible rfl)
    refine' tkH 6 bx_1045.out ?hyR352 ?_
    case hyR352 => (rintro _ -; go_simp; try with_reducible rfl)
    refine' tkH 7 bx_1045.out ?hyR353 ?_
    case hyR353 => (rintro W' hS0; have hc0 := Blk.nth hS0 3; clear hS0; go_simp; try with_reducible rfl)
    try simp only [Act.put, List.setIfInBounds_toArray, List.set_cons_zero, List.set_cons_succ]
    refine' tkH 8 bx_1045.out ?hyR354 ?_
    case hyR354 => (rintro _ -; go_simp; try with_reducible rfl)
    refine' tkH 9 bx_1045.out ?hyR355 ?_
    case hyR355 => (rintro _ -; go_simp; try with_reducible rfl)
    refine' tkH 10 bx_1045.out ?hyR356 ?_
    case hyR356 => (rintro _ -; go_simp; try with_reducible rfl)
    refine' tkH 11 bx_1045.out ?hyR357 ?_
    case hyR357 => (rintro W' hS0; have hc0 := Blk.nth hS0 6; have hc1 := Blk.nth hS0 7; clear hS0; go_simp; try with_reducible rfl)
    try simp only [Act.put, List.setIfInBounds_toArray, List.set_cons_zero, List.set_cons_succ]
    refine' tkH 14 bx_1045.out ?hyR358 ?_
    case hyR358 => (rintro _ -; go_simp; try with_reducible rfl)
    try simp only [Act.put, List.setIfInBounds_toArray, List.set_cons_zero, List.set_cons_succ]
    refine wpAnyH_ready (rs := [12]) (by kernel_rfl) (by simp) ?_
    refine rdH rfl (fun K hK => ?_) ?_
    · -- 12: call
     go_simp
     go_at_call 72
     refine (sides_any p1 p2 _ (by omega) (by omega) (by omega) (by omega)).mono ?_
     rintro e w359 ⟨rfl, hb360⟩
     dsimp only
     replace OXF := Lib.hid (OwnsX.below (OXF.out) hb360)
     replace cl_1044 := Lib.hid (Cl.keep (cl_1044.out) hb360)
     replace bx_1045 := kB bx_1045 hb360
     replace bz_1046 := kB bz_1046 hb360
     replace bel_1047 := bB bel_1047 hb360
     refine hK.out _ _ bx_1045.out (fun _ => ?_); clear hK K
     try simp only [Act.put, List.setIfInBounds_toArray, List.set_cons_zero, List.set_cons_succ]
     refine' tkH 13 bx_1045.out ?hyR361 ?_
     case hyR361 => (rintro _ -; go_simp; try with_reducible rfl)
     refine' tkH 15 bx_1045.out ?hyR362 ?_
     case hyR362 => (rintro _ -; go_simp; try with_reducible rfl)
     try simp only [Act.put, List.setIfInBounds_toArray, List.set_cons_zero, List.set_cons_succ]
     refine wpAnyH_ready (rs := [16]) (by kernel_rfl) (by simp) ?_
     refine rdH rfl (fun K hK => ?_) ?_
     · -- 16: store
      have bl_ := bel_1047.out
      have ox_ := OXF.out
      have bz_ := bz_1046.out
      have c0_ := Blk.cell bz_ 0; have c1_ := Blk.cell bz_ 1; have f0_ := Blk.frozen bz_ 0; have f1_ := Blk.frozen bz_ 1; have hlt_ := Blk.lt bz_
      simp only [List.getElem?_toArray, List.getElem?_cons_zero, List.getElem?_cons_succ] at c0_ c1_
      go_simp
      obtain ⟨hw1, hw2, hw3⟩ := HWS.out
      simp only [hw1, hw3]
      clear hw1 hw2 hw3
      have bx2_ := Lib.hid (Blk.far (Blk.far (bx_1045.out) (p := ⟨w.heap.size + 1, 0, none⟩) (by simp) (.int .i64 (c + d - (p2 - p1)))) (p := ⟨w.heap.size + 1, 1, none⟩) (by simp) (.slice Ai (m + m2) ci))
      have bel2_ := Lib.hid (Below.setCell (Below.setCell (bl_) (p := ⟨w.heap.size + 1, 0, none⟩) (by simp) (.int .i64 (c + d - (p2 - p1)))) (p := ⟨w.heap.size + 1, 1, none⟩) (by simp) (.slice Ai (m + m2) ci))
      have ox2_ := Lib.hid (OwnsX.setCell (OwnsX.setCell (ox_) (a := ⟨w.heap.size + 1, 0, none⟩) (by simp; omega) (.int .i64 (c + d - (p2 - p1)))) (a := ⟨w.heap.size + 1, 1, none⟩) (by simp; omega) (.slice Ai (m + m2) ci))
      have bz2_ := Lib.hid (Blk.set_ (Blk.set_ bz_ 0 (.int .i64 (c + d - (p2 - p1)))) 1 (.slice Ai (m + m2) ci))
      clear c0_ c1_ f0_ f1_ bl_ ox_ bz_ hlt_
      refine hK.out _ _ bx2_.out (fun _ => ?_); clear hK K
      try simp only [Act.put, List.setIfInBounds_toArray, List.set_cons_zero, List.set_cons_succ]
      refine wpAnyH_done (by kernel_rfl) ?_ _
      have c0_ := Blk.cell bz2_.out 0; have c1_ := Blk.cell bz2_.out 1
      have rd_ := rdB_of ox2_.out; have bl_ := bel2_.out
      simp only [List.setIfInBounds_toArray, List.set_cons_zero, List.set_cons_succ, List.getElem?_toArray, List.getElem?_cons_zero, List.getElem?_cons_succ] at c0_ c1_
      generalize World.setCell (World.setCell _ _ _) _ _ = wF at *
      go_wp2
      refine bodyPost_ret (v := .agg #[.int .i64 (c + d - (p2 - p1)), .slice Ai (m + m2) ci]) (by simp [results, Tryz.results82, go_sem, c0_, c1_]) rfl ?_
      exact ⟨Ai, m + m2, ci, rfl, rd_, bl_⟩
     exact AllReadyH.nil
    exact AllReadyH.nil
end Go.Proofs.YtaoanagmgheicaaGreat
