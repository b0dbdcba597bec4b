import Derived.Test.YtaoanagmgheicaaGreatQNeeded
import Derived.Test.YtaoanagmgheicaaGreatQOpen
import Derived.Deep.DeepCutAuto
import Derived.Deep.OwnRows
import Derived.Great.BuildSlice
import Derived.Laws.AppendOwnNone
import Derived.Lib.SmallJoins
import Derived.Maps.OwnIn
import Derived.RangeFuncNested
import Derived.Shelf.SlIterI.Nil
import Derived.Shelf.Slices.Reverse
import Derived.Shelf.SortM.Plain
import Derived.Shelf.SortM.SortNone
import Derived.Sort.OwnSortedInts
import Derived.Test.YtaoanagmgheicaaGreatQMem
import Derived.Test.YtaoanagmgheicaaGreatQEPair
import Derived.Test.YtaoanagmgheicaaGreatQECopy
set_option maxHeartbeats 4000000
set_option linter.unusedSimpArgs false
set_option linter.unusedVariables false
namespace Go.Proofs.YtaoanagmgheicaaGreat
open Go.RowKit
theorem rdB_at {w : World} {b o n c : Nat} {l : List Bnd} {k : Nat} {f t m i : Int} (h : RdB w (some ⟨b, o, none⟩) n c l) (hv : l[k]? = some ⟨f, t, m, i⟩) :
 w.cell? ⟨b, o + k * 4, none⟩ = some (.int .i64 f) ∧ w.cell? ⟨b, o + k * 4 + 1, none⟩ = some (.int .i64 t) ∧ w.cell? ⟨b, o + k * 4 + 2, none⟩ = some (.int .i64 m) ∧ w.cell? ⟨b, o + k * 4 + 3, none⟩ = some (.int .i64 i) ∧ b < w.heap.size := by
 obtain ⟨b', o', f', t', m', i', h1, h2, h3, h4, h5, h6, h7⟩ := h.get (k := k) (by rw [← h.len]; exact (List.getElem?_eq_some_iff.1 hv).1)
 injection h1 with h1
 injection h1 with e1 e2
 subst e1 e2
 rw [hv] at h3
 injection h3 with h3
 injection h3 with e1 e2 e3 e4
 subst e1 e2 e3 e4
 exact ⟨h4, h5, h6, h7, h2⟩
theorem rdB_some {w : World} {A : Option Addr} {n c : Nat} {l : List Bnd} {k : Nat} {v : Bnd} (h : RdB w A n c l) (hv : l[k]? = some v) : ∃ b o, A = some ⟨b, o, none⟩ := by
 obtain ⟨b, o, f, t, m, i, h1, -⟩ := h.get (k := k) (by rw [← h.len]; exact (List.getElem?_eq_some_iff.1 hv).1)
 exact ⟨b, o, h1⟩
def Apart (v u : Value) : Prop := v.ownBlock = none ∨ v.ownBlock ≠ u.ownBlock
theorem Apart.symm {v u : Value} (h : Apart v u) : Apart u v := by
 unfold Apart at *
 rcases h with h | h
 · by_cases hu : u.ownBlock = none
   · exact .inl hu
   · exact .inr (by rw [h]; exact hu)
 · exact .inr (fun e => h e.symm)
theorem Apart.grown {w : World} {base : Nat} {e : TypeId} {size n : Nat} {v v' u : Value} {xs : List Value} (h : Apart v u) (hv : v'.ownBlock = v.ownBlock ∨ v'.ownBlock = some w.heap.size) (hu : w.ownsRow base e size u n xs) : Apart v' u := by
 rcases hv with hv | hv
 · unfold Apart at *; rw [hv]; exact h
 · refine .inr (fun e => ?_)
   have := (hu.lt _ (e.symm.trans hv)).2
   omega
end Go.Proofs.YtaoanagmgheicaaGreat
set_option linter.unusedSimpArgs false
set_option linter.unusedVariables false
namespace Go.Proofs.YtaoanagmgheicaaGreat
open Go.RowKit
theorem cells_add {w : World} {g : Nat} {t : TypeId} {cs : List Value} (h : Blk w g t cs.toArray) : ∀ j u, cs[j]? = some u → w.cell? ((⟨g, 0, none⟩ : Addr).add j) = some u := fun j u hu => by
 rw [Addr.add_lit, Nat.zero_add, h.cell]
 simpa using hu
end Go.Proofs.YtaoanagmgheicaaGreat
set_option linter.unusedSimpArgs false
set_option linter.unusedVariables false
namespace Go.Proofs.YtaoanagmgheicaaGreat
open Go.RowKit
set_option maxRecDepth 100000 in
theorem corner_any (c : Int) (A B : Option Addr) (n k m j : Nat) (d : Int) (C D : Option Addr) (n2 k2 m2 j2 : Nat) (p1 p2 p3 p4 : Int) (w : World) (g0 : 3 ≤ c ∧ c ≤ 16) :
 Calls Tryz.prog 117 #[.agg #[.int .i64 c, .slice A n k, .slice B m j, .int .i64 d, .slice C n2 k2, .slice D m2 j2, .int .i64 p1, .int .i64 p2, .int .i64 p3, .int .i64 p4]] w fun e w' => ∃ g, e = .returned (fnV g) ∧ Cl w' g (c + 1) p1 p3 p4 ∧ w.heap.size ≤ g ∧ Below w.heap.size w w' := by
 obtain ⟨g01, g02⟩ := g0
 go_enter Tryz.func117, Tryz.ntmps117
 obtain ⟨bx_1, bel_2⟩ := ent1 w #[.int .i64 c, .slice A n k, .slice B m j, .int .i64 d, .slice C n2 k2, .slice D m2 j2, .int .i64 p1, .int .i64 p2, .int .i64 p3, .int .i64 p4] 101
 obtain ⟨z_3, z_4, z_5, z_6, z_7, z_8, z_9, z_10, z_11, z_12⟩ := at10 bx_1
 have hc := renumbered_any (c + 1) p1 p3 (p4) ((w.alloc (.cells #[.int .i64 c, .slice A n k, .slice B m j, .int .i64 d, .slice C n2 k2, .slice D m2 j2, .int .i64 p1, .int .i64 p2, .int .i64 p3, .int .i64 p4] 101)))
 have HC := Lib.hid hc; clear hc
 go_wp2_with fail
 refine HC.out.mono ?_
 rintro e w9 ⟨rfl, hcl, hb⟩
 clear HC
 clear z_3 z_4 z_5 z_6 z_7 z_8 z_9 z_10 z_11 z_12
 have hb_13 := Lib.hid hb
 simp only [World.size_alloc] at hcl
 go_wp2
 go_ret
 replace bel_2 := bH bel_2 hb_13
 exact ⟨_, rfl, (by simpa using hcl), by simp, bel_2.out⟩
set_option maxRecDepth 100000 in
theorem side_any (c : Int) (A B : Option Addr) (n k m j : Nat) (d : Int) (C D : Option Addr) (n2 k2 m2 j2 : Nat) (p1 p2 p3 p4 : Int) (w : World) (g3 : 0 ≤ p4 ∧ p4 ≤ 16) :
 Calls Tryz.prog 118 #[.agg #[.int .i64 c, .slice A n k, .slice B m j, .int .i64 d, .slice C n2 k2, .slice D m2 j2, .int .i64 p1, .int .i64 p2, .int .i64 p3, .int .i64 p4]] w fun e w' => ∃ g, e = .returned (fnV g) ∧ Cl w' g c p1 p3 (p4 - 1) ∧ w.heap.size ≤ g ∧ Below w.heap.size w w' := by
 obtain ⟨g31, g32⟩ := g3
 go_enter Tryz.func118, Tryz.ntmps118
 obtain ⟨bx_1, bel_2⟩ := ent1 w #[.int .i64 c, .slice A n k, .slice B m j, .int .i64 d, .slice C n2 k2, .slice D m2 j2, .int .i64 p1, .int .i64 p2, .int .i64 p3, .int .i64 p4] 101
 obtain ⟨z_3, z_4, z_5, z_6, z_7, z_8, z_9, z_10, z_11, z_12⟩ := at10 bx_1
 have hc := renumbered_any (c) p1 p3 (p4 - 1) ((w.alloc (.cells #[.int .i64 c, .slice A n k, .slice B m j, .int .i64 d, .slice C n2 k2, .slice D m2 j2, .int .i64 p1, .int .i64 p2, .int .i64 p3, .int .i64 p4] 101)))
 have HC := Lib.hid hc; clear hc
 go_wp2_with fail
 refine HC.out.mono ?_
 rintro e w9 ⟨rfl, hcl, hb⟩
 clear HC
 clear z_3 z_4 z_5 z_6 z_7 z_8 z_9 z_10 z_11 z_12
 have hb_13 := Lib.hid hb
 simp only [World.size_alloc] at hcl
 go_wp2
 go_ret
 replace bel_2 := bH bel_2 hb_13
 exact ⟨_, rfl, (by simpa using hcl), by simp, bel_2.out⟩
theorem OwnsX.of {w : World} {base : Nat} {e : TypeId} {size : Nat} {v : Value} {n : Nat} {xs : List Value} (h : w.ownsRow base e size v n xs) : OwnsX w base e size v n xs := .inl h
theorem Cl.belowB {w w' : World} {g B : Nat} {n x lo hi : Int} (h : Cl w g n x lo hi) (hb : Below B w w') (hg : g + 4 ≤ B) : Cl w' g n x lo hi := ⟨h.n0.below hb (by omega), h.x0.below hb (by omega), h.l0.below hb (by omega), h.h0.below hb (by omega)⟩
theorem rdB_of {w : World} {base : Nat} {A : Option Addr} {n c : Nat} {l : List Bnd} (h : OwnsX w base 30 4 (.slice A n c) n (bcells l)) : RdB w A n c l := by
 rcases h with h | ⟨A', h1, h2, h3⟩
 · exact (OwnB.rd h).1
 · injection h1 with h4 h5 h6
   subst h4 h5 h6
   have hl : l = [] := by
    have := congrArg List.length h3
    rw [bcells_length] at this
    exact List.length_eq_zero_iff.1 (by simp at this; omega)
   subst hl
   exact ⟨rfl, Nat.le_refl _, fun _ => ⟨rfl, rfl⟩, .inl rfl⟩
theorem OwnsX.setCell {w : World} {base : Nat} {e : TypeId} {size : Nat} {v : Value} {n : Nat} {xs : List Value} (h : OwnsX w base e size v n xs) {a : Addr} (ha : a.block < base) (u : Value) : OwnsX (w.setCell a u) base e size v n xs :=
 h.imp (fun h => ownsRow_setCell_below h ha u) id
set_option maxRecDepth 100000 in
theorem ways_any (c : Int) (A B : Option Addr) (n k m j : Nat) (ws ts : List Bnd) (d : Int) (C D : Option Addr) (n2 k2 m2 j2 : Nat) (ws2 ts2 : List Bnd) (p1 p2 p3 p4 : Int) (w : World) (h1 : RdB w A n k ws) (h2 : RdB w B m j ts) (hn : n ≤ maxLen) (hm : m ≤ maxLen) (h3 : RdB w C n2 k2 ws2) (h4 : RdB w D m2 j2 ts2) (hn2 : n2 ≤ maxLen) (hm2 : m2 ≤ maxLen) (g0 : 3 ≤ c ∧ c ≤ 16) (g1 : 3 ≤ d ∧ d ≤ 16) (g2 : 0 ≤ p1 ∧ p1 < p2 ∧ p2 ≤ c) (g3 : 0 ≤ p3 ∧ p3 < p4 ∧ p4 ≤ d) (hl1 : n ≤ 400) (hl2 : n2 ≤ 400) (hok : ∀ x ∈ ws2, 0 ≤ x.f ∧ x.f ≤ 16 ∧ 0 ≤ x.t ∧ x.t ≤ 16) :
 Calls Tryz.prog 81 #[.agg #[.int .i64 c, .slice A n k, .slice B m j, .int .i64 d, .slice C n2 k2, .slice D m2 j2, .int .i64 p1, .int .i64 p2, .int .i64 p3, .int .i64 p4]] w fun e w' => ∃ Ar nr kr, e = .returned (.agg #[.int .i64 (wayP ⟨c, ws, ts⟩ ⟨d, ws2, ts2⟩ ⟨p1, p2, p3, p4⟩), .slice Ar nr kr]) ∧ RdB w' Ar nr kr (wayL ⟨c, ws, ts⟩ ⟨d, ws2, ts2⟩ ⟨p1, p2, p3, p4⟩) ∧ Below w.heap.size w w' := by
 obtain ⟨i0, hi0, hz0, hz1, hz2⟩ := info_parts infoB
 have HI := Lib.hid hi0; have HZ0 := Lib.hid hz0; have HZ1 := Lib.hid hz1; have HZ2 := Lib.hid hz2; clear hi0 hz0 hz1 hz2
 have RB0 := Lib.hid h3
 go_enter Tryz.func81, Tryz.ntmps81
 obtain ⟨bx_1, bz_2, bel_3⟩ := ent2 w #[.int .i64 c, .slice A n k, .slice B m j, .int .i64 d, .slice C n2 k2, .slice D m2 j2, .int .i64 p1, .int .i64 p2, .int .i64 p3, .int .i64 p4] 101 #[.int .i64 0, .slice none 0 0] 46
 have ra_4 := rI h1 bel_3
 clear h1
 clear h2 h3 h4
 obtain ⟨z_5, z_6, z_7, z_8, z_9, z_10, z_11, z_12, z_13, z_14⟩ := at10 bx_1
 obtain ⟨z_15, z_16⟩ := at2 bz_2
 have hc := corner_any c A B n k m j d C D n2 k2 m2 j2 p1 p2 p3 p4 (((w.alloc (.cells #[.int .i64 c, .slice A n k, .slice B m j, .int .i64 d, .slice C n2 k2, .slice D m2 j2, .int .i64 p1, .int .i64 p2, .int .i64 p3, .int .i64 p4] 101)).alloc (.cells #[.int .i64 0, .slice none 0 0] 46))) g0
 have HC := Lib.hid hc; clear hc
 go_wp2_with fail
 refine HC.out.mono ?_
 rintro e w9 ⟨g, rfl, hcl, hge, hb⟩
 clear HC
 clear z_5 z_6 z_7 z_8 z_9 z_10 z_11 z_12 z_13 z_14 z_15 z_16
 simp only [World.size_alloc] at hge
 have hb_17 := Lib.hid hb
 clear hb
 have cl_18 := Lib.hid (hcl)
 clear hcl
 unfold fnV
 replace bx_1 := kH bx_1 hb_17
 obtain ⟨z_19, z_20, z_21, z_22, z_23, z_24, z_25, z_26, z_27, z_28⟩ := at10 bx_1
 replace bz_2 := kH bz_2 hb_17
 obtain ⟨z_29, z_30⟩ := at2 bz_2
 replace ra_4 := rH ra_4 hb_17
 have hc := ecopied_any A n k ws _ ra_4.out hl1
 have HC := Lib.hid hc; clear hc
 go_wp2_with fail
 refine HC.out.mono ?_
 rintro e w10 ⟨Ac, cc, rfl, hox, hb⟩
 clear HC
 clear z_19 z_20 z_21 z_22 z_23 z_24 z_25 z_26 z_27 z_28 z_29 z_30
 have hsz := Cl.lt cl_18.out
 have hox := OwnsX.base hox (show g + 4 ≤ w9.heap.size by omega)
 have hb_31 := Lib.hid hb
 clear hb
 have ox_32 := Lib.hid (hox)
 clear hox hsz
 replace bx_1 := kH bx_1 hb_31
 obtain ⟨z_33, z_34, z_35, z_36, z_37, z_38, z_39, z_40, z_41, z_42⟩ := at10 bx_1
 replace bz_2 := kH bz_2 hb_31
 obtain ⟨z_43, z_44⟩ := at2 bz_2
 go_wp2
 clear z_33 z_34 z_35 z_36 z_37 z_38 z_39 z_40 z_41 z_42 z_43 z_44
 replace bel_3 := bH (bH bel_3 hb_17) hb_31
 replace cl_18 := Lib.hid (Cl.keep (cl_18.out) hb_31.out)
 go_loopw [4, 19] (fun s i wr => ∃ (q : Nat) (Ai : Option Addr) (ci : Nat), q ≤ n2 ∧ i = .int .i64 q ∧ s = .slice Ai (n + q) ci ∧ OwnsX wr (g + 4) 30 4 (.slice Ai (n + q) ci) (n + q) (bcells (ws ++ (ws2.take q).map (wayB ⟨c, ws, ts⟩ ⟨p1, p2, p3, p4⟩))) ∧ Cl wr g (c + 1) p1 p3 p4 ∧ Blk wr (w.heap.size) 101 #[.int .i64 c, .slice A n k, .slice B m j, .int .i64 d, .slice C n2 k2, .slice D m2 j2, .int .i64 p1, .int .i64 p2, .int .i64 p3, .int .i64 p4] ∧ Blk wr (w.heap.size + 1) 46 #[.int .i64 0, .slice none 0 0] ∧ Below w.heap.size w wr) (fun s i _ => n2 - (intOf i).toNat)
 case atStart => exact ⟨0, Ac, cc, Nat.zero_le _, rfl, rfl, by simpa using ox_32.out, cl_18.out, bx_1.out, bz_2.out, bel_3.out⟩
 case round =>
  clear bel_3 bx_1 bz_2 cl_18 ox_32
  obtain ⟨q, Ai, ci, hq, rfl, rfl, i1, i2, i3, i4, i5⟩ := hrel
  have ox_1045 := Lib.hid (i1)
  have cl_1046 := Lib.hid (i2)
  have bx_1047 := Lib.hid (i3)
  have bz_1048 := Lib.hid (i4)
  have bel_1049 := Lib.hid (i5)
  clear i1 i2 i3 i4 i5
  have hgs := Cl.lt cl_1046.out
  by_cases hlt : q < n2
  · have hlt' : (q : Int) < n2 := by omega
    have hlen := RB0.out.len
    obtain ⟨⟨f, t, mm, ib⟩, hx⟩ : ∃ b, ws2[q]? = some b := ⟨ws2[q]'(by omega), List.getElem?_eq_getElem _⟩
    obtain ⟨o1, o2, o3, o4⟩ := hok _ (List.mem_of_getElem? hx)
    dsimp only at o1 o2 o3 o4
    obtain ⟨bb, ob, hBB⟩ := rdB_some RB0.out hx
    subst hBB
    obtain ⟨e0, e1, e2, e3, el⟩ := rdB_at (RdB.below RB0.out bel_1049.out) hx
    obtain ⟨v1, hv1⟩ : ∃ v, ren (c + 1) p1 p3 p4 t = v := ⟨_, rfl⟩
    obtain ⟨v2, hv2⟩ : ∃ v, ren (c + 1) p1 p3 p4 f = v := ⟨_, rfl⟩
    have htk : (ws2.take (q + 1)).map (wayB ⟨c, ws, ts⟩ ⟨p1, p2, p3, p4⟩) = (ws2.take q).map (wayB ⟨c, ws, ts⟩ ⟨p1, p2, p3, p4⟩) ++ [⟨v1, v2, mm, ib⟩] := by rw [List.take_add_one, hx, List.map_append, ← hv1, ← hv2]; rfl
    have HTK := Lib.hid htk; clear htk hx hlen
    have HV1 := Lib.hid (fun w h => Calls.mono (renum_any (c + 1) p1 p3 p4 t g w h (by omega) (by omega) (by omega) (by omega) (by omega)) (fun e w' h => (show e = .returned (.int .i64 v1) ∧ w = w' from ⟨by rw [h.1, hv1], h.2⟩)))
    have HV2 := Lib.hid (fun w h => Calls.mono (renum_any (c + 1) p1 p3 p4 f g w h (by omega) (by omega) (by omega) (by omega) (by omega)) (fun e w' h => (show e = .returned (.int .i64 v2) ∧ w = w' from ⟨by rw [h.1, hv2], h.2⟩)))
    clear hv1 hv2 o1 o2 o3 o4
    go_wp2
    clear e0 e1 e2 e3
    have NE := Lib.hid (OwnsX.ne (ox_1045.out) (Nat.le_refl _))
    obtain ⟨o_, ho_⟩ : ∃ o, o = ((.cells #[.int .i64 f, .int .i64 t, .int .i64 mm, .int .i64 ib] 30) : Obj) := ⟨_, rfl⟩
    replace ox_1045 := Lib.hid (OwnsX.alloc (ox_1045.out) (o_))
    replace cl_1046 := Lib.hid (Cl.alloc (cl_1046.out) (o_))
    replace bx_1047 := kA bx_1047 o_
    replace bz_1048 := kA bz_1048 o_
    replace bel_1049 := bA bel_1049 o_
    subst ho_
    have xb_2050 := Lib.hid (Blk.new wr 30 #[.int .i64 f, .int .i64 t, .int .i64 mm, .int .i64 ib])
    replace ox_1045 := Lib.hid (OwnsX.drew (ox_1045.out))
    replace cl_1046 := Lib.hid (Cl.drew (cl_1046.out))
    replace bx_1047 := kD bx_1047
    replace bz_1048 := kD bz_1048
    replace bel_1049 := bD bel_1049
    replace xb_2050 := kD xb_2050
    refine wp_region_held_drew (S := (fun W' => Blk W' (wr.heap.size) 30 #[.int .i64 f, .int .i64 t, .int .i64 mm, .int .i64 ib])) (by kernel_rfl) xb_2050.out (fun _ => ?_)
    obtain ⟨w258, hw259⟩ : ∃ w', w' = ((wr.alloc (.cells #[.int .i64 f, .int .i64 t, .int .i64 mm, .int .i64 ib] 30)).drew) := ⟨_, rfl⟩
    rw [← hw259] at ox_1045 cl_1046 bx_1047 bz_1048 bel_1049 xb_2050
    rw [← hw259]
    clear hw259
    refine' twH 0 xb_2050.out ?_
    refine' twH 1 xb_2050.out ?_
    refine' twH 2 xb_2050.out ?_
    refine' tkH 3 xb_2050.out ?hyR263 ?_
    case hyR263 => (rintro W' hS0; have hc0 := Blk.nth hS0 1; clear hS0; go_simp; try with_reducible rfl)
    try simp only [Act.put, qsA, qsZ, qsS]
    refine' twH 5 xb_2050.out ?_
    refine' twH 6 xb_2050.out ?_
    refine' tkH 7 xb_2050.out ?hyR266 ?_
    case hyR266 => (rintro W' hS0; have hc0 := Blk.nth hS0 0; clear hS0; go_simp; try with_reducible rfl)
    refine' twH 9 xb_2050.out ?_
    try simp only [Act.put, qsA, qsZ, qsS]
    refine' tkH 10 xb_2050.out ?hyR268 ?_
    case hyR268 => (rintro W' hS0; have hc0 := Blk.nth hS0 2; clear hS0; go_simp; try with_reducible rfl)
    refine' twH 11 xb_2050.out ?_
    refine' tkH 12 xb_2050.out ?hyR270 ?_
    case hyR270 => (rintro W' hS0; have hc0 := Blk.nth hS0 3; clear hS0; go_simp; try with_reducible rfl)
    try simp only [Act.put, qsA, qsZ, qsS]
    refine oneH 4 rfl fun K hK => ?_
    go_simp
    go_at_call 173
    refine (HV1.out _ (cl_1046.out)).mono ?_
    rintro e w271 ⟨rfl, rfl⟩
    dsimp only
    refine hK.out _ _ xb_2050.out (fun _ => ?_); clear hK K
    try simp only [Act.put, qsA, qsZ, qsS]
    refine oneH 8 rfl fun K hK => ?_
    go_simp
    go_at_call 173
    refine (HV2.out _ (cl_1046.out)).mono ?_
    rintro e w272 ⟨rfl, rfl⟩
    dsimp only
    refine hK.out _ _ xb_2050.out (fun _ => ?_); clear hK K
    try simp only [Act.put, qsA, qsZ, qsS]
    refine' twH 13 xb_2050.out ?_
    try simp only [Act.put, qsA, qsZ, qsS]
    refine oneH 14 rfl fun K hK => ?_
    go_simp
    have ne278 := Lib.hid (Nat.ne_of_lt (Blk.lt bx_1047.out))
    have ne279 := Lib.hid (Nat.ne_of_lt (Blk.lt bz_1048.out))
    have lb280 := Lib.hid (bel_1049.out.size)
    have ne281 := Lib.hid (Nat.ne_of_lt (Blk.lt xb_2050.out))
    obtain ⟨o_, ho_⟩ : ∃ o, o = (.cells #[.int .i64 v1, .int .i64 v2, .int .i64 mm, .int .i64 ib] 30 : Obj) := ⟨_, rfl⟩
    replace ox_1045 := Lib.hid (OwnsX.alloc (ox_1045.out) (o_))
    replace cl_1046 := Lib.hid (Cl.alloc (cl_1046.out) (o_))
    replace bx_1047 := kA bx_1047 o_
    replace bz_1048 := kA bz_1048 o_
    replace bel_1049 := bA bel_1049 o_
    replace xb_2050 := kA xb_2050 o_
    subst ho_
    have nb_282 := Lib.hid (Blk.new (w258) 30 #[.int .i64 v1, .int .i64 v2, .int .i64 mm, .int .i64 ib])
    obtain ⟨g274, hg275⟩ : ∃ g, g = (w258).heap.size := ⟨_, rfl⟩
    obtain ⟨w276, hw277⟩ : ∃ w', w' = (w258).alloc (.cells #[.int .i64 v1, .int .i64 v2, .int .i64 mm, .int .i64 ib] 30) := ⟨_, rfl⟩
    rw [← hw277] at ox_1045 cl_1046 bx_1047 bz_1048 bel_1049 xb_2050 nb_282
    rw [← hg275] at ne278 ne279 lb280 ne281 nb_282
    rw [← hg275, ← hw277]
    clear hg275 hw277
    refine hK.out _ _ xb_2050.out (fun _ => ?_); clear hK K
    try simp only [Act.put, qsA, qsZ, qsS]
    refine oneH 15 rfl fun K hK => ?_
    have hcell := cells_add (cs := bcells [⟨v1, v2, mm, ib⟩]) (show Blk _ _ _ (bcells [⟨v1, v2, mm, ib⟩]).toArray from nb_282.out)
    have hsz := Cl.lt (cl_1046.out)
    refine wp_append_X _ (.tmp 23) (.tmp 37) 22 rfl (g + 4) 30 i0 _ 4 32 Tryz.underlying22 HI.out HZ0.out HZ1.out HZ2.out rfl (by omega) Ai (n + q) ci _ rfl (ox_1045.out) ⟨g274, 0, none⟩ 1 1 (bcells [⟨v1, v2, mm, ib⟩]) rfl rfl hcell (bcells_one _) (by omega) (by unfold maxLen; omega) (by omega) (by omega) ?_
    intro g5 c5 w283 hown5 hb5 hg5 hkp5
    have k284 := Lib.hid (OwnsX.of (hown5))
    have k285 := Lib.hid (Cl.belowB (cl_1046.out) hb5 (Nat.le_refl _))
    have k286 := Lib.hid (Blk.below (bx_1047.out) hb5 (by omega))
    have k287 := Lib.hid (Blk.below (bz_1048.out) hb5 (by omega))
    have k288 := Lib.hid (Below.trans (bel_1049.out) (Below.mono hb5 (by omega)))
    have k289 := Lib.hid ((hkp5 _ (Blk.lt (xb_2050.out)) NE.out).trans (xb_2050.out))
    clear hown5 hb5 hcell hsz hkp5
    refine hK.out _ _ k289.out (fun _ => ?_); clear hK K
    try simp only [Act.put, qsA, qsZ, qsS]
    refine' twH 16 k289.out ?_
    try simp only [Act.put, qsA, qsZ, qsS]
    refine wpAnyH_done (by kernel_rfl) ?_ _
    go_wp2
    go_roundw
    case rel => exact ⟨q + 1, some ⟨g5, 0, none⟩, c5, by omega, by go_num, rfl, by rw [HTK.out, ← List.append_assoc, bcells_append]; exact k284.out, k285.out, k286.out, k287.out, k288.out⟩
    case measure => simp [intOf]; omega
  · obtain rfl : n2 = q := by omega
    have hlen := RB0.out.len
    have hox2 := ox_1045.out
    rw [List.take_of_length_le (by omega)] at hox2
    have OXF := Lib.hid hox2; clear hox2 hlen
    clear ox_1045
    go_wp2
    have hw1 : IntKind.i64.wrap (c + d) = c + d := IntWalk.i64_in _ (by omega)
    have hw2 : IntKind.i64.wrap (c + d + 1) = c + d + 1 := IntWalk.i64_in _ (by omega)
    have hw3 : IntKind.i64.wrap (c + d + 1 - (p2 - p1)) = c + d + 1 - (p2 - p1) := IntWalk.i64_in _ (by omega)
    have HWS := Lib.hid (And.intro hw1 (And.intro hw2 hw3)); clear hw1 hw2 hw3
    replace OXF := Lib.hid (OwnsX.drew (OXF.out))
    replace cl_1046 := Lib.hid (Cl.drew (cl_1046.out))
    replace bx_1047 := kD bx_1047
    replace bz_1048 := kD bz_1048
    replace bel_1049 := bD bel_1049
    refine wp_region_held_drew (S := (fun W' => Blk W' (w.heap.size) 101 #[.int .i64 c, .slice A n k, .slice B m j, .int .i64 d, .slice C n2 k2, .slice D m2 j2, .int .i64 p1, .int .i64 p2, .int .i64 p3, .int .i64 p4])) (by kernel_rfl) bx_1047.out (fun _ => ?_)
    obtain ⟨w291, hw292⟩ : ∃ w', w' = (wr.drew) := ⟨_, rfl⟩
    rw [← hw292] at OXF cl_1046 bx_1047 bz_1048 bel_1049
    rw [← hw292]
    clear hw292
    refine' twH 0 bx_1047.out ?_
    refine' twH 1 bx_1047.out ?_
    refine' twH 2 bx_1047.out ?_
    refine' tkH 3 bx_1047.out ?hyR296 ?_
    case hyR296 => (rintro W' hS0; have hc0 := Blk.nth hS0 0; clear hS0; go_simp; try with_reducible rfl)
    try simp only [Act.put, qsA, qsZ, qsS]
    refine' twH 4 bx_1047.out ?_
    refine' twH 5 bx_1047.out ?_
    refine' twH 6 bx_1047.out ?_
    refine' tkH 7 bx_1047.out ?hyR300 ?_
    case hyR300 => (rintro W' hS0; have hc0 := Blk.nth hS0 3; clear hS0; go_simp; try with_reducible rfl)
    try simp only [Act.put, qsA, qsZ, qsS]
    refine' twH 8 bx_1047.out ?_
    refine' twH 9 bx_1047.out ?_
    refine' twH 10 bx_1047.out ?_
    refine' twH 11 bx_1047.out ?_
    try simp only [Act.put, qsA, qsZ, qsS]
    refine' tkH 12 bx_1047.out ?hyR305 ?_
    case hyR305 => (rintro W' hS0; have hc0 := Blk.nth hS0 6; have hc1 := Blk.nth hS0 7; clear hS0; go_simp; try with_reducible rfl)
    refine' twH 15 bx_1047.out ?_
    try simp only [Act.put, qsA, qsZ, qsS]
    refine oneH 13 rfl fun K hK => ?_
    go_simp
    go_at_call 72
    refine (sides_any p1 p2 _ (by omega) (by omega) (by omega) (by omega)).mono ?_
    rintro e w307 ⟨rfl, hb308⟩
    dsimp only
    replace hb308 := Lib.hid hb308
    replace bx_1047 := kH bx_1047 hb308
    refine hK.out _ _ bx_1047.out (fun _ => ?_); clear hK K
    try simp only [Act.put, qsA, qsZ, qsS]
    refine' twH 14 bx_1047.out ?_
    refine' twH 16 bx_1047.out ?_
    try simp only [Act.put, qsA, qsZ, qsS]
    refine oneH 17 rfl fun K hK => ?_
    replace bel_1049 := bH bel_1049 hb308
    replace OXF := Lib.hid (OwnsX.below (OXF.out) hb308.out)
    replace bz_1048 := kH bz_1048 hb308
    have bl_ := bel_1049.out
    have ox_ := OXF.out
    have bz_ := bz_1048.out
    have c0_ := Blk.cell bz_ 0; have c1_ := Blk.cell bz_ 1; have f0_ := Blk.frozen bz_ 0; have f1_ := Blk.frozen bz_ 1; have hlt_ := Blk.lt bz_
    simp only [List.getElem?_toArray, List.getElem?_cons_zero, List.getElem?_cons_succ] at c0_ c1_
    go_simp
    obtain ⟨hw1, hw2, hw3⟩ := HWS.out
    simp only [hw1, hw2, hw3]
    clear hw1 hw2 hw3
    have bx2_ := Lib.hid (Blk.far (Blk.far (bx_1047.out) (p := ⟨w.heap.size + 1, 0, none⟩) (by simp) (.int .i64 (c + d + 1 - (p2 - p1)))) (p := ⟨w.heap.size + 1, 1, none⟩) (by simp) (.slice Ai (n + n2) ci))
    have bel2_ := Lib.hid (Below.setCell (Below.setCell (bl_) (p := ⟨w.heap.size + 1, 0, none⟩) (by simp) (.int .i64 (c + d + 1 - (p2 - p1)))) (p := ⟨w.heap.size + 1, 1, none⟩) (by simp) (.slice Ai (n + n2) ci))
    have ox2_ := Lib.hid (OwnsX.setCell (OwnsX.setCell (ox_) (a := ⟨w.heap.size + 1, 0, none⟩) (by simp; omega) (.int .i64 (c + d + 1 - (p2 - p1)))) (a := ⟨w.heap.size + 1, 1, none⟩) (by simp; omega) (.slice Ai (n + n2) ci))
    have bz2_ := Lib.hid (Blk.set_ (Blk.set_ bz_ 0 (.int .i64 (c + d + 1 - (p2 - p1)))) 1 (.slice Ai (n + n2) ci))
    clear c0_ c1_ f0_ f1_ bl_ ox_ bz_ hlt_
    refine hK.out _ _ bx2_.out (fun _ => ?_); clear hK K
    try simp only [Act.put, qsA, qsZ, qsS]
    refine wpAnyH_done (by kernel_rfl) ?_ _
    have c0_ := Blk.cell bz2_.out 0; have c1_ := Blk.cell bz2_.out 1
    have rd_ := rdB_of ox2_.out; have bl_ := bel2_.out
    simp only [List.setIfInBounds_toArray, List.set_cons_zero, List.set_cons_succ, List.getElem?_toArray, List.getElem?_cons_zero, List.getElem?_cons_succ] at c0_ c1_
    generalize World.setCell (World.setCell _ _ _) _ _ = wF at *
    go_wp2
    refine bodyPost_ret (v := .agg #[.int .i64 (c + d + 1 - (p2 - p1)), .slice Ai (n + n2) ci]) (by simp [results, Tryz.results81, go_sem, c0_, c1_]) rfl ?_
    exact ⟨Ai, n + n2, ci, rfl, rd_, bl_⟩
set_option maxRecDepth 100000 in
theorem turns_any (c : Int) (A B : Option Addr) (n k m j : Nat) (ws ts : List Bnd) (d : Int) (C D : Option Addr) (n2 k2 m2 j2 : Nat) (ws2 ts2 : List Bnd) (p1 p2 p3 p4 : Int) (w : World) (h1 : RdB w A n k ws) (h2 : RdB w B m j ts) (hn : n ≤ maxLen) (hm : m ≤ maxLen) (h3 : RdB w C n2 k2 ws2) (h4 : RdB w D m2 j2 ts2) (hn2 : n2 ≤ maxLen) (hm2 : m2 ≤ maxLen) (g0 : 3 ≤ c ∧ c ≤ 16) (g1 : 3 ≤ d ∧ d ≤ 16) (g2 : 0 ≤ p1 ∧ p1 < p2 ∧ p2 ≤ c) (g3 : 0 ≤ p3 ∧ p3 < p4 ∧ p4 ≤ d) (hl1 : m ≤ 400) (hl2 : m2 ≤ 400) (hok : ∀ x ∈ ts2, 0 ≤ x.f ∧ x.f ≤ 16 ∧ 0 ≤ x.t ∧ x.t ≤ 16) :
 Calls Tryz.prog 82 #[.agg #[.int .i64 c, .slice A n k, .slice B m j, .int .i64 d, .slice C n2 k2, .slice D m2 j2, .int .i64 p1, .int .i64 p2, .int .i64 p3, .int .i64 p4]] w fun e w' => ∃ Ar nr kr, e = .returned (.agg #[.int .i64 (turnP ⟨c, ws, ts⟩ ⟨d, ws2, ts2⟩ ⟨p1, p2, p3, p4⟩), .slice Ar nr kr]) ∧ RdB w' Ar nr kr (turnL ⟨c, ws, ts⟩ ⟨d, ws2, ts2⟩ ⟨p1, p2, p3, p4⟩) ∧ Below w.heap.size w w' := by
 obtain ⟨i0, hi0, hz0, hz1, hz2⟩ := info_parts infoB
 have HI := Lib.hid hi0; have HZ0 := Lib.hid hz0; have HZ1 := Lib.hid hz1; have HZ2 := Lib.hid hz2; clear hi0 hz0 hz1 hz2
 have RB0 := Lib.hid h4
 go_enter Tryz.func82, Tryz.ntmps82
 obtain ⟨bx_1, bz_2, bel_3⟩ := ent2 w #[.int .i64 c, .slice A n k, .slice B m j, .int .i64 d, .slice C n2 k2, .slice D m2 j2, .int .i64 p1, .int .i64 p2, .int .i64 p3, .int .i64 p4] 101 #[.int .i64 0, .slice none 0 0] 46
 have rb_4 := rI h2 bel_3
 clear h2
 clear h1 h3 h4
 obtain ⟨z_5, z_6, z_7, z_8, z_9, z_10, z_11, z_12, z_13, z_14⟩ := at10 bx_1
 obtain ⟨z_15, z_16⟩ := at2 bz_2
 have hc := side_any c A B n k m j d C D n2 k2 m2 j2 p1 p2 p3 p4 (((w.alloc (.cells #[.int .i64 c, .slice A n k, .slice B m j, .int .i64 d, .slice C n2 k2, .slice D m2 j2, .int .i64 p1, .int .i64 p2, .int .i64 p3, .int .i64 p4] 101)).alloc (.cells #[.int .i64 0, .slice none 0 0] 46))) ⟨by omega, by omega⟩
 have HC := Lib.hid hc; clear hc
 go_wp2_with fail
 refine HC.out.mono ?_
 rintro e w9 ⟨g, rfl, hcl, hge, hb⟩
 clear HC
 clear z_5 z_6 z_7 z_8 z_9 z_10 z_11 z_12 z_13 z_14 z_15 z_16
 simp only [World.size_alloc] at hge
 have hb_17 := Lib.hid hb
 clear hb
 have cl_18 := Lib.hid (hcl)
 clear hcl
 unfold fnV
 replace bx_1 := kH bx_1 hb_17
 obtain ⟨z_19, z_20, z_21, z_22, z_23, z_24, z_25, z_26, z_27, z_28⟩ := at10 bx_1
 replace bz_2 := kH bz_2 hb_17
 obtain ⟨z_29, z_30⟩ := at2 bz_2
 replace rb_4 := rH rb_4 hb_17
 have hc := ecopied_any B m j ts _ rb_4.out hl1
 have HC := Lib.hid hc; clear hc
 go_wp2_with fail
 refine HC.out.mono ?_
 rintro e w10 ⟨Ac, cc, rfl, hox, hb⟩
 clear HC
 clear z_19 z_20 z_21 z_22 z_23 z_24 z_25 z_26 z_27 z_28 z_29 z_30
 have hsz := Cl.lt cl_18.out
 have hox := OwnsX.base hox (show g + 4 ≤ w9.heap.size by omega)
 have hb_31 := Lib.hid hb
 clear hb
 have ox_32 := Lib.hid (hox)
 clear hox hsz
 replace bx_1 := kH bx_1 hb_31
 obtain ⟨z_33, z_34, z_35, z_36, z_37, z_38, z_39, z_40, z_41, z_42⟩ := at10 bx_1
 replace bz_2 := kH bz_2 hb_31
 obtain ⟨z_43, z_44⟩ := at2 bz_2
 go_wp2
 clear z_33 z_34 z_35 z_36 z_37 z_38 z_39 z_40 z_41 z_42 z_43 z_44
 replace bel_3 := bH (bH bel_3 hb_17) hb_31
 replace cl_18 := Lib.hid (Cl.keep (cl_18.out) hb_31.out)
 go_loopw [4, 19] (fun s i wr => ∃ (q : Nat) (Ai : Option Addr) (ci : Nat), q ≤ m2 ∧ i = .int .i64 q ∧ s = .slice Ai (m + q) ci ∧ OwnsX wr (g + 4) 30 4 (.slice Ai (m + q) ci) (m + q) (bcells (ts ++ (ts2.take q).map (turnB ⟨c, ws, ts⟩ ⟨p1, p2, p3, p4⟩))) ∧ Cl wr g c p1 p3 (p4 - 1) ∧ Blk wr (w.heap.size) 101 #[.int .i64 c, .slice A n k, .slice B m j, .int .i64 d, .slice C n2 k2, .slice D m2 j2, .int .i64 p1, .int .i64 p2, .int .i64 p3, .int .i64 p4] ∧ Blk wr (w.heap.size + 1) 46 #[.int .i64 0, .slice none 0 0] ∧ Below w.heap.size w wr) (fun s i _ => m2 - (intOf i).toNat)
 case atStart => exact ⟨0, Ac, cc, Nat.zero_le _, rfl, rfl, by simpa using ox_32.out, cl_18.out, bx_1.out, bz_2.out, bel_3.out⟩
 case round =>
  clear bel_3 bx_1 bz_2 cl_18 ox_32
  obtain ⟨q, Ai, ci, hq, rfl, rfl, i1, i2, i3, i4, i5⟩ := hrel
  have ox_1045 := Lib.hid (i1)
  have cl_1046 := Lib.hid (i2)
  have bx_1047 := Lib.hid (i3)
  have bz_1048 := Lib.hid (i4)
  have bel_1049 := Lib.hid (i5)
  clear i1 i2 i3 i4 i5
  have hgs := Cl.lt cl_1046.out
  by_cases hlt : q < m2
  · have hlt' : (q : Int) < m2 := by omega
    have hlen := RB0.out.len
    obtain ⟨⟨f, t, mm, ib⟩, hx⟩ : ∃ b, ts2[q]? = some b := ⟨ts2[q]'(by omega), List.getElem?_eq_getElem _⟩
    obtain ⟨o1, o2, o3, o4⟩ := hok _ (List.mem_of_getElem? hx)
    dsimp only at o1 o2 o3 o4
    obtain ⟨bb, ob, hBB⟩ := rdB_some RB0.out hx
    subst hBB
    obtain ⟨e0, e1, e2, e3, el⟩ := rdB_at (RdB.below RB0.out bel_1049.out) hx
    obtain ⟨v1, hv1⟩ : ∃ v, ren c p1 p3 (p4 - 1) f = v := ⟨_, rfl⟩
    obtain ⟨v2, hv2⟩ : ∃ v, ren c p1 p3 (p4 - 1) t = v := ⟨_, rfl⟩
    have htk : (ts2.take (q + 1)).map (turnB ⟨c, ws, ts⟩ ⟨p1, p2, p3, p4⟩) = (ts2.take q).map (turnB ⟨c, ws, ts⟩ ⟨p1, p2, p3, p4⟩) ++ [⟨v1, v2, mm, ib⟩] := by rw [List.take_add_one, hx, List.map_append, ← hv1, ← hv2]; rfl
    have HTK := Lib.hid htk; clear htk hx hlen
    have HV1 := Lib.hid (fun w h => Calls.mono (renum_any c p1 p3 (p4 - 1) f g w h (by omega) (by omega) (by omega) (by omega) (by omega)) (fun e w' h => (show e = .returned (.int .i64 v1) ∧ w = w' from ⟨by rw [h.1, hv1], h.2⟩)))
    have HV2 := Lib.hid (fun w h => Calls.mono (renum_any c p1 p3 (p4 - 1) t g w h (by omega) (by omega) (by omega) (by omega) (by omega)) (fun e w' h => (show e = .returned (.int .i64 v2) ∧ w = w' from ⟨by rw [h.1, hv2], h.2⟩)))
    clear hv1 hv2 o1 o2 o3 o4
    go_wp2
    clear e0 e1 e2 e3
    have NE := Lib.hid (OwnsX.ne (ox_1045.out) (Nat.le_refl _))
    obtain ⟨o_, ho_⟩ : ∃ o, o = ((.cells #[.int .i64 f, .int .i64 t, .int .i64 mm, .int .i64 ib] 30) : Obj) := ⟨_, rfl⟩
    replace ox_1045 := Lib.hid (OwnsX.alloc (ox_1045.out) (o_))
    replace cl_1046 := Lib.hid (Cl.alloc (cl_1046.out) (o_))
    replace bx_1047 := kA bx_1047 o_
    replace bz_1048 := kA bz_1048 o_
    replace bel_1049 := bA bel_1049 o_
    subst ho_
    have xb_2050 := Lib.hid (Blk.new wr 30 #[.int .i64 f, .int .i64 t, .int .i64 mm, .int .i64 ib])
    replace ox_1045 := Lib.hid (OwnsX.drew (ox_1045.out))
    replace cl_1046 := Lib.hid (Cl.drew (cl_1046.out))
    replace bx_1047 := kD bx_1047
    replace bz_1048 := kD bz_1048
    replace bel_1049 := bD bel_1049
    replace xb_2050 := kD xb_2050
    refine wp_region_held_drew (S := (fun W' => Blk W' (wr.heap.size) 30 #[.int .i64 f, .int .i64 t, .int .i64 mm, .int .i64 ib])) (by kernel_rfl) xb_2050.out (fun _ => ?_)
    obtain ⟨w311, hw312⟩ : ∃ w', w' = ((wr.alloc (.cells #[.int .i64 f, .int .i64 t, .int .i64 mm, .int .i64 ib] 30)).drew) := ⟨_, rfl⟩
    rw [← hw312] at ox_1045 cl_1046 bx_1047 bz_1048 bel_1049 xb_2050
    rw [← hw312]
    clear hw312
    refine' twH 0 xb_2050.out ?_
    refine' twH 1 xb_2050.out ?_
    refine' twH 2 xb_2050.out ?_
    refine' tkH 3 xb_2050.out ?hyR316 ?_
    case hyR316 => (rintro W' hS0; have hc0 := Blk.nth hS0 0; clear hS0; go_simp; try with_reducible rfl)
    try simp only [Act.put, qsA, qsZ, qsS]
    refine' twH 5 xb_2050.out ?_
    refine' twH 6 xb_2050.out ?_
    refine' tkH 7 xb_2050.out ?hyR319 ?_
    case hyR319 => (rintro W' hS0; have hc0 := Blk.nth hS0 1; clear hS0; go_simp; try with_reducible rfl)
    refine' twH 9 xb_2050.out ?_
    try simp only [Act.put, qsA, qsZ, qsS]
    refine' tkH 10 xb_2050.out ?hyR321 ?_
    case hyR321 => (rintro W' hS0; have hc0 := Blk.nth hS0 2; clear hS0; go_simp; try with_reducible rfl)
    refine' twH 11 xb_2050.out ?_
    refine' tkH 12 xb_2050.out ?hyR323 ?_
    case hyR323 => (rintro W' hS0; have hc0 := Blk.nth hS0 3; clear hS0; go_simp; try with_reducible rfl)
    try simp only [Act.put, qsA, qsZ, qsS]
    refine oneH 4 rfl fun K hK => ?_
    go_simp
    go_at_call 173
    refine (HV1.out _ (cl_1046.out)).mono ?_
    rintro e w324 ⟨rfl, rfl⟩
    dsimp only
    refine hK.out _ _ xb_2050.out (fun _ => ?_); clear hK K
    try simp only [Act.put, qsA, qsZ, qsS]
    refine oneH 8 rfl fun K hK => ?_
    go_simp
    go_at_call 173
    refine (HV2.out _ (cl_1046.out)).mono ?_
    rintro e w325 ⟨rfl, rfl⟩
    dsimp only
    refine hK.out _ _ xb_2050.out (fun _ => ?_); clear hK K
    try simp only [Act.put, qsA, qsZ, qsS]
    refine' twH 13 xb_2050.out ?_
    try simp only [Act.put, qsA, qsZ, qsS]
    refine oneH 14 rfl fun K hK => ?_
    go_simp
    have ne331 := Lib.hid (Nat.ne_of_lt (Blk.lt bx_1047.out))
    have ne332 := Lib.hid (Nat.ne_of_lt (Blk.lt bz_1048.out))
    have lb333 := Lib.hid (bel_1049.out.size)
    have ne334 := Lib.hid (Nat.ne_of_lt (Blk.lt xb_2050.out))
    obtain ⟨o_, ho_⟩ : ∃ o, o = (.cells #[.int .i64 v1, .int .i64 v2, .int .i64 mm, .int .i64 ib] 30 : Obj) := ⟨_, rfl⟩
    replace ox_1045 := Lib.hid (OwnsX.alloc (ox_1045.out) (o_))
    replace cl_1046 := Lib.hid (Cl.alloc (cl_1046.out) (o_))
    replace bx_1047 := kA bx_1047 o_
    replace bz_1048 := kA bz_1048 o_
    replace bel_1049 := bA bel_1049 o_
    replace xb_2050 := kA xb_2050 o_
    subst ho_
    have nb_335 := Lib.hid (Blk.new (w311) 30 #[.int .i64 v1, .int .i64 v2, .int .i64 mm, .int .i64 ib])
    obtain ⟨g327, hg328⟩ : ∃ g, g = (w311).heap.size := ⟨_, rfl⟩
    obtain ⟨w329, hw330⟩ : ∃ w', w' = (w311).alloc (.cells #[.int .i64 v1, .int .i64 v2, .int .i64 mm, .int .i64 ib] 30) := ⟨_, rfl⟩
    rw [← hw330] at ox_1045 cl_1046 bx_1047 bz_1048 bel_1049 xb_2050 nb_335
    rw [← hg328] at ne331 ne332 lb333 ne334 nb_335
    rw [← hg328, ← hw330]
    clear hg328 hw330
    refine hK.out _ _ xb_2050.out (fun _ => ?_); clear hK K
    try simp only [Act.put, qsA, qsZ, qsS]
    refine oneH 15 rfl fun K hK => ?_
    have hcell := cells_add (cs := bcells [⟨v1, v2, mm, ib⟩]) (show Blk _ _ _ (bcells [⟨v1, v2, mm, ib⟩]).toArray from nb_335.out)
    have hsz := Cl.lt (cl_1046.out)
    refine wp_append_X _ (.tmp 23) (.tmp 37) 22 rfl (g + 4) 30 i0 _ 4 32 Tryz.underlying22 HI.out HZ0.out HZ1.out HZ2.out rfl (by omega) Ai (m + q) ci _ rfl (ox_1045.out) ⟨g327, 0, none⟩ 1 1 (bcells [⟨v1, v2, mm, ib⟩]) rfl rfl hcell (bcells_one _) (by omega) (by unfold maxLen; omega) (by omega) (by omega) ?_
    intro g5 c5 w336 hown5 hb5 hg5 hkp5
    have k337 := Lib.hid (OwnsX.of (hown5))
    have k338 := Lib.hid (Cl.belowB (cl_1046.out) hb5 (Nat.le_refl _))
    have k339 := Lib.hid (Blk.below (bx_1047.out) hb5 (by omega))
    have k340 := Lib.hid (Blk.below (bz_1048.out) hb5 (by omega))
    have k341 := Lib.hid (Below.trans (bel_1049.out) (Below.mono hb5 (by omega)))
    have k342 := Lib.hid ((hkp5 _ (Blk.lt (xb_2050.out)) NE.out).trans (xb_2050.out))
    clear hown5 hb5 hcell hsz hkp5
    refine hK.out _ _ k342.out (fun _ => ?_); clear hK K
    try simp only [Act.put, qsA, qsZ, qsS]
    refine' twH 16 k342.out ?_
    try simp only [Act.put, qsA, qsZ, qsS]
    refine wpAnyH_done (by kernel_rfl) ?_ _
    go_wp2
    go_roundw
    case rel => exact ⟨q + 1, some ⟨g5, 0, none⟩, c5, by omega, by go_num, rfl, by rw [HTK.out, ← List.append_assoc, bcells_append]; exact k337.out, k338.out, k339.out, k340.out, k341.out⟩
    case measure => simp [intOf]; omega
  · obtain rfl : m2 = q := by omega
    have hlen := RB0.out.len
    have hox2 := ox_1045.out
    rw [List.take_of_length_le (by omega)] at hox2
    have OXF := Lib.hid hox2; clear hox2 hlen
    clear ox_1045
    go_wp2
    have hw1 : IntKind.i64.wrap (c + d) = c + d := IntWalk.i64_in _ (by omega)
    have hw3 : IntKind.i64.wrap (c + d - (p2 - p1)) = c + d - (p2 - p1) := IntWalk.i64_in _ (by omega)
    have HWS := Lib.hid (And.intro hw1 (And.intro trivial hw3)); clear hw1 hw3
    replace OXF := Lib.hid (OwnsX.drew (OXF.out))
    replace cl_1046 := Lib.hid (Cl.drew (cl_1046.out))
    replace bx_1047 := kD bx_1047
    replace bz_1048 := kD bz_1048
    replace bel_1049 := bD bel_1049
    refine wp_region_held_drew (S := (fun W' => Blk W' (w.heap.size) 101 #[.int .i64 c, .slice A n k, .slice B m j, .int .i64 d, .slice C n2 k2, .slice D m2 j2, .int .i64 p1, .int .i64 p2, .int .i64 p3, .int .i64 p4])) (by kernel_rfl) bx_1047.out (fun _ => ?_)
    obtain ⟨w344, hw345⟩ : ∃ w', w' = (wr.drew) := ⟨_, rfl⟩
    rw [← hw345] at OXF cl_1046 bx_1047 bz_1048 bel_1049
    rw [← hw345]
    clear hw345
    refine' twH 0 bx_1047.out ?_
    refine' twH 1 bx_1047.out ?_
    refine' twH 2 bx_1047.out ?_
    refine' tkH 3 bx_1047.out ?hyR349 ?_
    case hyR349 => (rintro W' hS0; have hc0 := Blk.nth hS0 0; clear hS0; go_simp; try with_reducible rfl)
    try simp only [Act.put, qsA, qsZ, qsS]
    refine' twH 4 bx_1047.out ?_
    refine' twH 5 bx_1047.out ?_
    refine' twH 6 bx_1047.out ?_
    refine' tkH 7 bx_1047.out ?hyR353 ?_
    case hyR353 => (rintro W' hS0; have hc0 := Blk.nth hS0 3; clear hS0; go_simp; try with_reducible rfl)
    try simp only [Act.put, qsA, qsZ, qsS]
    refine' twH 8 bx_1047.out ?_
    refine' twH 9 bx_1047.out ?_
    refine' twH 10 bx_1047.out ?_
    refine' tkH 11 bx_1047.out ?hyR357 ?_
    case hyR357 => (rintro W' hS0; have hc0 := Blk.nth hS0 6; have hc1 := Blk.nth hS0 7; clear hS0; go_simp; try with_reducible rfl)
    try simp only [Act.put, qsA, qsZ, qsS]
    refine' twH 14 bx_1047.out ?_
    try simp only [Act.put, qsA, qsZ, qsS]
    refine oneH 12 rfl fun K hK => ?_
    go_simp
    go_at_call 72
    refine (sides_any p1 p2 _ (by omega) (by omega) (by omega) (by omega)).mono ?_
    rintro e w359 ⟨rfl, hb360⟩
    dsimp only
    replace hb360 := Lib.hid hb360
    replace bx_1047 := kH bx_1047 hb360
    refine hK.out _ _ bx_1047.out (fun _ => ?_); clear hK K
    try simp only [Act.put, qsA, qsZ, qsS]
    refine' twH 13 bx_1047.out ?_
    refine' twH 15 bx_1047.out ?_
    try simp only [Act.put, qsA, qsZ, qsS]
    refine oneH 16 rfl fun K hK => ?_
    replace bel_1049 := bH bel_1049 hb360
    replace OXF := Lib.hid (OwnsX.below (OXF.out) hb360.out)
    replace bz_1048 := kH bz_1048 hb360
    have bl_ := bel_1049.out
    have ox_ := OXF.out
    have bz_ := bz_1048.out
    have c0_ := Blk.cell bz_ 0; have c1_ := Blk.cell bz_ 1; have f0_ := Blk.frozen bz_ 0; have f1_ := Blk.frozen bz_ 1; have hlt_ := Blk.lt bz_
    simp only [List.getElem?_toArray, List.getElem?_cons_zero, List.getElem?_cons_succ] at c0_ c1_
    go_simp
    obtain ⟨hw1, hw2, hw3⟩ := HWS.out
    simp only [hw1, hw3]
    clear hw1 hw2 hw3
    have bx2_ := Lib.hid (Blk.far (Blk.far (bx_1047.out) (p := ⟨w.heap.size + 1, 0, none⟩) (by simp) (.int .i64 (c + d - (p2 - p1)))) (p := ⟨w.heap.size + 1, 1, none⟩) (by simp) (.slice Ai (m + m2) ci))
    have bel2_ := Lib.hid (Below.setCell (Below.setCell (bl_) (p := ⟨w.heap.size + 1, 0, none⟩) (by simp) (.int .i64 (c + d - (p2 - p1)))) (p := ⟨w.heap.size + 1, 1, none⟩) (by simp) (.slice Ai (m + m2) ci))
    have ox2_ := Lib.hid (OwnsX.setCell (OwnsX.setCell (ox_) (a := ⟨w.heap.size + 1, 0, none⟩) (by simp; omega) (.int .i64 (c + d - (p2 - p1)))) (a := ⟨w.heap.size + 1, 1, none⟩) (by simp; omega) (.slice Ai (m + m2) ci))
    have bz2_ := Lib.hid (Blk.set_ (Blk.set_ bz_ 0 (.int .i64 (c + d - (p2 - p1)))) 1 (.slice Ai (m + m2) ci))
    clear c0_ c1_ f0_ f1_ bl_ ox_ bz_ hlt_
    refine hK.out _ _ bx2_.out (fun _ => ?_); clear hK K
    try simp only [Act.put, qsA, qsZ, qsS]
    refine wpAnyH_done (by kernel_rfl) ?_ _
    have c0_ := Blk.cell bz2_.out 0; have c1_ := Blk.cell bz2_.out 1
    have rd_ := rdB_of ox2_.out; have bl_ := bel2_.out
    simp only [List.setIfInBounds_toArray, List.set_cons_zero, List.set_cons_succ, List.getElem?_toArray, List.getElem?_cons_zero, List.getElem?_cons_succ] at c0_ c1_
    generalize World.setCell (World.setCell _ _ _) _ _ = wF at *
    go_wp2
    refine bodyPost_ret (v := .agg #[.int .i64 (c + d - (p2 - p1)), .slice Ai (m + m2) ci]) (by simp [results, Tryz.results82, go_sem, c0_, c1_]) rfl ?_
    exact ⟨Ai, m + m2, ci, rfl, rd_, bl_⟩
end Go.Proofs.YtaoanagmgheicaaGreat
