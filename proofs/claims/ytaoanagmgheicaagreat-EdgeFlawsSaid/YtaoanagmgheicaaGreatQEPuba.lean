import Derived.Test.YtaoanagmgheicaaGreatQChn
import Derived.Test.YtaoanagmgheicaaGreatQEMeet
set_option linter.unusedSimpArgs false
set_option linter.unusedVariables false
namespace Go.Proofs.YtaoanagmgheicaaGreat
open Go.RowKit
def oP (u : Bool) (a : Otl) : Int := if u then a.c else a.c + 1
def oL (u : Bool) (a : Otl) : List Bnd := if u then a.ts else a.ws
def checkFlawV (u : Bool) (a : Otl) (x : List Int) : Bool × Int := if chkO a = 0 then checkCircleV (oP u a) (oL u a) x else (false, chkO a)
def ownFlawV (a : Otl) : (List Int × Bool × Bool) × Int := if chkO a = 0 then (flawV (a.c + 1) a.ws a.c a.ts, 0) else (([], false, false), chkO a)
set_option maxRecDepth 100000 in
set_option maxHeartbeats 4000000 in
theorem Flaw_any (c : Int) (A B : Option Addr) (n k m j : Nat) (ws ts : List Bnd) (w : World) (h1 : RdB w A n k ws) (h2 : RdB w B m j ts) (hn : n ≤ maxLen) (hm : m ≤ maxLen) : Calls Tryz.prog 43 #[.agg #[.int .i64 c, .slice A n k, .slice B m j]] w (RetFE (ownFlawV ⟨c, ws, ts⟩) w) := by
 unfold ownFlawV
 obtain ⟨q, hq⟩ : ∃ q, chkO ⟨c, ws, ts⟩ = q := ⟨_, rfl⟩
 rw [hq]
 have E1 := Lib.hid hq
 by_cases h0 : q = 0
 · subst h0
   rw [if_pos rfl]
   obtain ⟨g1, g2, g3, g4⟩ := chkO_ok hq
   dsimp only at g1 g2 g3 g4
   have HL1 := Lib.hid (chk_ok g3).2.2.1; have HL2 := Lib.hid (chk_ok g4).2.2.1
   clear hq g3 g4
   dsimp only
   obtain ⟨V, hV⟩ : ∃ V, flawV (c + 1) ws c ts = V := ⟨_, rfl⟩
   rw [hV]
   have HV := Lib.hid hV; clear hV
   obtain ⟨V1, V2, V3⟩ := V
   unfold RetFE
   dsimp only
   go_enter Tryz.func43, Tryz.ntmps43
   obtain ⟨ba_1, bz_2, bel_3⟩ := ent2 w #[.int .i64 c, .slice A n k, .slice B m j] 24 #[.bool false, .slice none 0 0] 33
   have ra_4 := rI h1 bel_3
   have rb_5 := rI h2 bel_3
   clear h1 h2
   obtain ⟨z_6, z_7, z_8⟩ := at3 ba_1
   obtain ⟨z_9, z_10⟩ := at2 bz_2
   have hc := CheckOutline_any c A B n k m j ws ts _ ra_4.out rb_5.out hn hm
   rw [E1.out] at hc
   try dsimp only at hc
   have HC := Lib.hid hc; clear hc
   go_wp2_with fail
   refine HC.out.mono ?_
   rintro e w_11 ⟨rfl, hb⟩
   clear HC
   clear z_6 z_7 z_8 z_9 z_10
   have hb_12 := Lib.hid hb
   clear hb
   replace ba_1 := kH ba_1 hb_12
   obtain ⟨z_13, z_14, z_15⟩ := at3 ba_1
   replace bz_2 := kH bz_2 hb_12
   obtain ⟨z_16, z_17⟩ := at2 bz_2
   go_wp2_with fail
   clear z_13 z_14 z_15 z_16 z_17
   replace bel_3 := bD (bH bel_3 hb_12)
   replace ra_4 := rD (rH ra_4 hb_12)
   replace rb_5 := rD (rH rb_5 hb_12)
   replace ba_1 := kD ba_1
   replace bz_2 := kD bz_2
   refine wp_region_held_drew (S := (fun W' => Blk W' (w.heap.size) 24 #[.int .i64 c, .slice A n k, .slice B m j])) (by kernel_rfl) ba_1.out (fun _ => ?_)
   obtain ⟨w556, hw557⟩ : ∃ w', w' = (w_11.drew) := ⟨_, rfl⟩
   rw [← hw557] at bel_3 ra_4 rb_5 ba_1 bz_2
   rw [← hw557]
   clear hw557
   refine' tkH 0 ba_1.out ?hyR558 ?_
   case hyR558 => (rintro W' hS0; have hc0 := Blk.nth hS0 0; have hc1 := Blk.nth hS0 1; have hc2 := Blk.nth hS0 2; clear hS0; go_simp; try with_reducible rfl)
   refine' tkH 2 ba_1.out ?hyR559 ?_
   case hyR559 => (rintro W' hS0; have hc0 := Blk.nth hS0 0; have hc1 := Blk.nth hS0 1; have hc2 := Blk.nth hS0 2; clear hS0; go_simp; try with_reducible rfl)
   try simp only [Act.put, qsA, qsZ, qsS]
   refine wpAnyH_ready (rs := [1, 8]) (by kernel_rfl) (by simp) ?_
   refine rdH rfl (fun K hK => ?_) ?_
   · -- 1: call
    go_simp
    go_at_call 63
    refine (ownWays_any c A B n k m j _ (by omega) (by omega)).mono ?_
    rintro e w560 ⟨rfl, hb561⟩
    dsimp only
    replace hb561 := Lib.hid hb561
    replace ba_1 := kH ba_1 hb561
    refine hK.out _ _ ba_1.out (fun _ => ?_); clear hK K
    try simp only [Act.put, qsA, qsZ, qsS]
    refine wpAnyH_ready (rs := [3, 8]) (by kernel_rfl) (by simp) ?_
    refine rdH rfl (fun K hK => ?_) ?_
    · -- 3: call
     go_simp
     go_at_call 63
     refine (ownTurns_any c A B n k m j _).mono ?_
     rintro e w562 ⟨rfl, hb563⟩
     dsimp only
     replace hb563 := Lib.hid hb563
     replace ba_1 := kH ba_1 hb563
     refine hK.out _ _ ba_1.out (fun _ => ?_); clear hK K
     try simp only [Act.put, qsA, qsZ, qsS]
     refine wpAnyH_ready (rs := [4, 8]) (by kernel_rfl) (by simp) ?_
     refine rdH rfl (fun K hK => ?_) ?_
     · -- 4: call
      replace ra_4 := rH (rH ra_4 hb561) hb563
      replace rb_5 := rH (rH rb_5 hb561) hb563
      go_simp
      go_at_call 80
      refine (flawIn_wide (c + 1) c A B n k m j ws ts _ ra_4.out rb_5.out HL1.out HL2.out _ HV.out).mono ?_
      rintro e w564 ⟨A9, n9, c9, rfl, hz9, hm9, hb565⟩
      dsimp only
      replace hb565 := Lib.hid hb565
      have z9_566 := Lib.hid (hz9)
      replace ba_1 := kH ba_1 hb565
      refine hK.out _ _ ba_1.out (fun _ => ?_); clear hK K
      try simp only [Act.put, qsA, qsZ, qsS]
      refine' twH 5 ba_1.out ?_
      refine' twH 6 ba_1.out ?_
      refine' twH 7 ba_1.out ?_
      try simp only [Act.put, qsA, qsZ, qsS]
      refine oneH 8 rfl fun K hK => ?_
      replace bel_3 := bH (bH (bH bel_3 hb561) hb563) hb565
      replace ra_4 := rH ra_4 hb565
      replace rb_5 := rH rb_5 hb565
      replace bz_2 := kH (kH (kH bz_2 hb561) hb563) hb565
      go_simp
      have lb574 := Lib.hid (bel_3.out.size)
      have ne575 := Lib.hid (Nat.ne_of_lt (Blk.lt ba_1.out))
      have ne576 := Lib.hid (Nat.ne_of_lt (Blk.lt bz_2.out))
      obtain ⟨o_, ho_⟩ : ∃ o, o = (.cells #[.bool false, .slice none 0 0] 33 : Obj) := ⟨_, rfl⟩
      replace bel_3 := bA bel_3 o_
      replace ra_4 := rA ra_4 o_
      replace rb_5 := rA rb_5 o_
      replace ba_1 := kA ba_1 o_
      replace bz_2 := kA bz_2 o_
      replace z9_566 := iA z9_566 o_
      subst ho_
      have bo_577 := Lib.hid (Blk.new (w564) 33 #[.bool false, .slice none 0 0])
      obtain ⟨g570, hg571⟩ : ∃ g, g = (w564).heap.size := ⟨_, rfl⟩
      obtain ⟨w572, hw573⟩ : ∃ w', w' = (w564).alloc (.cells #[.bool false, .slice none 0 0] 33) := ⟨_, rfl⟩
      rw [← hw573] at bel_3 ra_4 rb_5 ba_1 bz_2 z9_566 bo_577
      rw [← hg571] at lb574 ne575 ne576 bo_577
      rw [← hg571, ← hw573]
      clear hg571 hw573
      refine hK.out _ _ ba_1.out (fun _ => ?_); clear hK K
      try simp only [Act.put, qsA, qsZ, qsS]
      refine oneH 9 rfl fun K hK => ?_
      have v578 : (w572).cell? ⟨g570, 0, none⟩ = some (.bool false) := Blk.cell (bo_577.out) 0
      have f579 : (w572).frozen? ⟨g570, 0, none⟩ = false := Blk.frozen (bo_577.out) 0
      have v580 : (w572).cell? ⟨g570, 1, none⟩ = some (.slice none 0 0) := Blk.cell (bo_577.out) 1
      have f581 : (w572).frozen? ⟨g570, 1, none⟩ = false := Blk.frozen (bo_577.out) 1
      have hlt_ := Blk.lt (bo_577.out)
      go_simp
      have k582 := Lib.hid (Below.setCell (Below.setCell (bel_3.out) (p := ⟨g570, 0, none⟩) (lb574.out) (.bool V2)) (p := ⟨g570, 1, none⟩) (lb574.out) (.slice A9 n9 c9))
      have k583 := Lib.hid (Blk.far (Blk.far (ba_1.out) (p := ⟨g570, 0, none⟩) (ne575.out) (.bool V2)) (p := ⟨g570, 1, none⟩) (ne575.out) (.slice A9 n9 c9))
      have k584 := Lib.hid (Blk.far (Blk.far (bz_2.out) (p := ⟨g570, 0, none⟩) (ne576.out) (.bool V2)) (p := ⟨g570, 1, none⟩) (ne576.out) (.slice A9 n9 c9))
      have k585 := Lib.hid (rdI_setc (rdI_setc (z9_566.out) ⟨g570, 0, none⟩ (.bool V2) (bo_577.out) (by simp)) ⟨g570, 1, none⟩ (.slice A9 n9 c9) (Blk.set_ (bo_577.out) 0 (.bool V2)) (by simp))
      have k586 := Lib.hid (Blk.set_ (Blk.set_ (bo_577.out) 0 (.bool V2)) 1 (.slice A9 n9 c9))
      obtain ⟨w587, hw588⟩ : ∃ w', w' = (((w572).setCell ⟨g570, 0, none⟩ (.bool V2)).setCell ⟨g570, 1, none⟩ (.slice A9 n9 c9)) := ⟨_, rfl⟩
      rw [← hw588] at k582 k583 k584 k585 k586
      rw [← hw588]
      clear hw588 v578 f579 v580 f581 hlt_
      refine hK.out _ _ k583.out (fun _ => ?_); clear hK K
      try simp only [Act.put, qsA, qsZ, qsS]
      refine' twH 10 k583.out ?_
      try simp only [Act.put, qsA, qsZ, qsS]
      refine wpAnyH_done (by kernel_rfl) ?_ _
      obtain ⟨z_1018, z_1019, z_1020⟩ := at3 k583
      obtain ⟨z_1021, z_1022⟩ := at2 k584
      obtain ⟨z_1023, z_1024⟩ := at2 k586
      have fz_1025 : (w587).frozen? ⟨w.heap.size + 1, 0, none⟩ = false := Blk.frozen k584.out 0
      have fz_1026 : (w587).frozen? ⟨w.heap.size + 1, 1, none⟩ = false := Blk.frozen k584.out 1
      have hlb_ := Blk.lt k584.out
      have HK := Lib.hid (And.intro (k584.out) (And.intro k582.out k585.out))
      go_wp2
      obtain ⟨bz_, bel_, z_⟩ := HK.out
      refine bodyPost_ret (v := .tuple #[.agg #[.bool V2, .slice A9 n9 c9], .bool V3, .int .i64 0]) (by simp [results, Tryz.results43, go_sem, z_1018, z_1019, z_1020, z_1021, z_1022, z_1023, z_1024, fz_1025, fz_1026]) rfl ?_
      exact ⟨A9, n9, c9, rfl, rdI_setc (rdI_setc z_ ⟨w.heap.size + 1, 0, none⟩ (.bool V2) bz_ (by simp)) ⟨w.heap.size + 1, 1, none⟩ (.slice A9 n9 c9) (Blk.set_ bz_ 0 (.bool V2)) (by simp), hm9, (by have hsz_ := Below.size bel_; repeat' (first | with_reducible exact bel_ | with_reducible exact Below.refl _ _ | with_reducible refine Below.alloc ?_ ?_ _ | with_reducible refine Below.setCell ?_ ?_ _ | with_reducible refine Below.drew ?_ | with_reducible refine below_setRow ?_ ?_ _ | omega | (simp; done) | (simp; omega)))⟩
     refine rdH rfl (fun K hK => ?_) ?_
     · -- 8: alloc
      replace bel_3 := bH (bH bel_3 hb561) hb563
      replace ra_4 := rH (rH ra_4 hb561) hb563
      replace rb_5 := rH (rH rb_5 hb561) hb563
      replace bz_2 := kH (kH bz_2 hb561) hb563
      go_simp
      have lb594 := Lib.hid (bel_3.out.size)
      have ne595 := Lib.hid (Nat.ne_of_lt (Blk.lt ba_1.out))
      have ne596 := Lib.hid (Nat.ne_of_lt (Blk.lt bz_2.out))
      obtain ⟨o_, ho_⟩ : ∃ o, o = (.cells #[.bool false, .slice none 0 0] 33 : Obj) := ⟨_, rfl⟩
      replace bel_3 := bA bel_3 o_
      replace ra_4 := rA ra_4 o_
      replace rb_5 := rA rb_5 o_
      replace ba_1 := kA ba_1 o_
      replace bz_2 := kA bz_2 o_
      subst ho_
      have bo_597 := Lib.hid (Blk.new (w562) 33 #[.bool false, .slice none 0 0])
      obtain ⟨g590, hg591⟩ : ∃ g, g = (w562).heap.size := ⟨_, rfl⟩
      obtain ⟨w592, hw593⟩ : ∃ w', w' = (w562).alloc (.cells #[.bool false, .slice none 0 0] 33) := ⟨_, rfl⟩
      rw [← hw593] at bel_3 ra_4 rb_5 ba_1 bz_2 bo_597
      rw [← hg591] at lb594 ne595 ne596 bo_597
      rw [← hg591, ← hw593]
      clear hg591 hw593
      refine hK.out _ _ ba_1.out (fun _ => ?_); clear hK K
      try simp only [Act.put, qsA, qsZ, qsS]
      refine oneH 4 rfl fun K hK => ?_
      go_simp
      go_at_call 80
      refine (flawIn_wide (c + 1) c A B n k m j ws ts _ ra_4.out rb_5.out HL1.out HL2.out _ HV.out).mono ?_
      rintro e w598 ⟨A9, n9, c9, rfl, hz9, hm9, hb599⟩
      dsimp only
      replace hb599 := Lib.hid hb599
      have z9_600 := Lib.hid (hz9)
      replace ba_1 := kH ba_1 hb599
      refine hK.out _ _ ba_1.out (fun _ => ?_); clear hK K
      try simp only [Act.put, qsA, qsZ, qsS]
      refine' twH 5 ba_1.out ?_
      refine' twH 6 ba_1.out ?_
      refine' twH 7 ba_1.out ?_
      try simp only [Act.put, qsA, qsZ, qsS]
      refine oneH 9 rfl fun K hK => ?_
      replace bo_597 := kH bo_597 hb599
      replace bel_3 := bH bel_3 hb599
      replace ra_4 := rH ra_4 hb599
      replace rb_5 := rH rb_5 hb599
      replace bz_2 := kH bz_2 hb599
      have v604 : (w598).cell? ⟨g590, 0, none⟩ = some (.bool false) := Blk.cell (bo_597.out) 0
      have f605 : (w598).frozen? ⟨g590, 0, none⟩ = false := Blk.frozen (bo_597.out) 0
      have v606 : (w598).cell? ⟨g590, 1, none⟩ = some (.slice none 0 0) := Blk.cell (bo_597.out) 1
      have f607 : (w598).frozen? ⟨g590, 1, none⟩ = false := Blk.frozen (bo_597.out) 1
      have hlt_ := Blk.lt (bo_597.out)
      go_simp
      have k608 := Lib.hid (Below.setCell (Below.setCell (bel_3.out) (p := ⟨g590, 0, none⟩) (lb594.out) (.bool V2)) (p := ⟨g590, 1, none⟩) (lb594.out) (.slice A9 n9 c9))
      have k609 := Lib.hid (Blk.far (Blk.far (ba_1.out) (p := ⟨g590, 0, none⟩) (ne595.out) (.bool V2)) (p := ⟨g590, 1, none⟩) (ne595.out) (.slice A9 n9 c9))
      have k610 := Lib.hid (Blk.far (Blk.far (bz_2.out) (p := ⟨g590, 0, none⟩) (ne596.out) (.bool V2)) (p := ⟨g590, 1, none⟩) (ne596.out) (.slice A9 n9 c9))
      have k611 := Lib.hid (Blk.set_ (Blk.set_ (bo_597.out) 0 (.bool V2)) 1 (.slice A9 n9 c9))
      have k612 := Lib.hid (rdI_setc (rdI_setc (z9_600.out) ⟨g590, 0, none⟩ (.bool V2) (bo_597.out) (by simp)) ⟨g590, 1, none⟩ (.slice A9 n9 c9) (Blk.set_ (bo_597.out) 0 (.bool V2)) (by simp))
      obtain ⟨w613, hw614⟩ : ∃ w', w' = (((w598).setCell ⟨g590, 0, none⟩ (.bool V2)).setCell ⟨g590, 1, none⟩ (.slice A9 n9 c9)) := ⟨_, rfl⟩
      rw [← hw614] at k608 k609 k610 k611 k612
      rw [← hw614]
      clear hw614 v604 f605 v606 f607 hlt_
      refine hK.out _ _ k609.out (fun _ => ?_); clear hK K
      try simp only [Act.put, qsA, qsZ, qsS]
      refine' twH 10 k609.out ?_
      try simp only [Act.put, qsA, qsZ, qsS]
      refine wpAnyH_done (by kernel_rfl) ?_ _
      obtain ⟨z_1018, z_1019, z_1020⟩ := at3 k609
      obtain ⟨z_1021, z_1022⟩ := at2 k610
      obtain ⟨z_1023, z_1024⟩ := at2 k611
      have fz_1025 : (w613).frozen? ⟨w.heap.size + 1, 0, none⟩ = false := Blk.frozen k610.out 0
      have fz_1026 : (w613).frozen? ⟨w.heap.size + 1, 1, none⟩ = false := Blk.frozen k610.out 1
      have hlb_ := Blk.lt k610.out
      have HK := Lib.hid (And.intro (k610.out) (And.intro k608.out k612.out))
      go_wp2
      obtain ⟨bz_, bel_, z_⟩ := HK.out
      refine bodyPost_ret (v := .tuple #[.agg #[.bool V2, .slice A9 n9 c9], .bool V3, .int .i64 0]) (by simp [results, Tryz.results43, go_sem, z_1018, z_1019, z_1020, z_1021, z_1022, z_1023, z_1024, fz_1025, fz_1026]) rfl ?_
      exact ⟨A9, n9, c9, rfl, rdI_setc (rdI_setc z_ ⟨w.heap.size + 1, 0, none⟩ (.bool V2) bz_ (by simp)) ⟨w.heap.size + 1, 1, none⟩ (.slice A9 n9 c9) (Blk.set_ bz_ 0 (.bool V2)) (by simp), hm9, (by have hsz_ := Below.size bel_; repeat' (first | with_reducible exact bel_ | with_reducible exact Below.refl _ _ | with_reducible refine Below.alloc ?_ ?_ _ | with_reducible refine Below.setCell ?_ ?_ _ | with_reducible refine Below.drew ?_ | with_reducible refine below_setRow ?_ ?_ _ | omega | (simp; done) | (simp; omega)))⟩
     exact AllReadyH.nil
    refine rdH rfl (fun K hK => ?_) ?_
    · -- 8: alloc
     replace bel_3 := bH bel_3 hb561
     replace ra_4 := rH ra_4 hb561
     replace rb_5 := rH rb_5 hb561
     replace bz_2 := kH bz_2 hb561
     go_simp
     have lb620 := Lib.hid (bel_3.out.size)
     have ne621 := Lib.hid (Nat.ne_of_lt (Blk.lt ba_1.out))
     have ne622 := Lib.hid (Nat.ne_of_lt (Blk.lt bz_2.out))
     obtain ⟨o_, ho_⟩ : ∃ o, o = (.cells #[.bool false, .slice none 0 0] 33 : Obj) := ⟨_, rfl⟩
     replace bel_3 := bA bel_3 o_
     replace ra_4 := rA ra_4 o_
     replace rb_5 := rA rb_5 o_
     replace ba_1 := kA ba_1 o_
     replace bz_2 := kA bz_2 o_
     subst ho_
     have bo_623 := Lib.hid (Blk.new (w560) 33 #[.bool false, .slice none 0 0])
     obtain ⟨g616, hg617⟩ : ∃ g, g = (w560).heap.size := ⟨_, rfl⟩
     obtain ⟨w618, hw619⟩ : ∃ w', w' = (w560).alloc (.cells #[.bool false, .slice none 0 0] 33) := ⟨_, rfl⟩
     rw [← hw619] at bel_3 ra_4 rb_5 ba_1 bz_2 bo_623
     rw [← hg617] at lb620 ne621 ne622 bo_623
     rw [← hg617, ← hw619]
     clear hg617 hw619
     refine hK.out _ _ ba_1.out (fun _ => ?_); clear hK K
     try simp only [Act.put, qsA, qsZ, qsS]
     refine oneH 3 rfl fun K hK => ?_
     go_simp
     go_at_call 63
     refine (ownTurns_any c A B n k m j _).mono ?_
     rintro e w624 ⟨rfl, hb625⟩
     dsimp only
     replace hb625 := Lib.hid hb625
     replace ba_1 := kH ba_1 hb625
     refine hK.out _ _ ba_1.out (fun _ => ?_); clear hK K
     try simp only [Act.put, qsA, qsZ, qsS]
     refine oneH 4 rfl fun K hK => ?_
     replace ra_4 := rH ra_4 hb625
     replace rb_5 := rH rb_5 hb625
     go_simp
     go_at_call 80
     refine (flawIn_wide (c + 1) c A B n k m j ws ts _ ra_4.out rb_5.out HL1.out HL2.out _ HV.out).mono ?_
     rintro e w626 ⟨A9, n9, c9, rfl, hz9, hm9, hb627⟩
     dsimp only
     replace hb627 := Lib.hid hb627
     have z9_628 := Lib.hid (hz9)
     replace ba_1 := kH ba_1 hb627
     refine hK.out _ _ ba_1.out (fun _ => ?_); clear hK K
     try simp only [Act.put, qsA, qsZ, qsS]
     refine' twH 5 ba_1.out ?_
     refine' twH 6 ba_1.out ?_
     refine' twH 7 ba_1.out ?_
     try simp only [Act.put, qsA, qsZ, qsS]
     refine oneH 9 rfl fun K hK => ?_
     replace bo_623 := kH (kH bo_623 hb625) hb627
     replace bel_3 := bH (bH bel_3 hb625) hb627
     replace ra_4 := rH ra_4 hb627
     replace rb_5 := rH rb_5 hb627
     replace bz_2 := kH (kH bz_2 hb625) hb627
     have v632 : (w626).cell? ⟨g616, 0, none⟩ = some (.bool false) := Blk.cell (bo_623.out) 0
     have f633 : (w626).frozen? ⟨g616, 0, none⟩ = false := Blk.frozen (bo_623.out) 0
     have v634 : (w626).cell? ⟨g616, 1, none⟩ = some (.slice none 0 0) := Blk.cell (bo_623.out) 1
     have f635 : (w626).frozen? ⟨g616, 1, none⟩ = false := Blk.frozen (bo_623.out) 1
     have hlt_ := Blk.lt (bo_623.out)
     go_simp
     have k636 := Lib.hid (Below.setCell (Below.setCell (bel_3.out) (p := ⟨g616, 0, none⟩) (lb620.out) (.bool V2)) (p := ⟨g616, 1, none⟩) (lb620.out) (.slice A9 n9 c9))
     have k637 := Lib.hid (Blk.far (Blk.far (ba_1.out) (p := ⟨g616, 0, none⟩) (ne621.out) (.bool V2)) (p := ⟨g616, 1, none⟩) (ne621.out) (.slice A9 n9 c9))
     have k638 := Lib.hid (Blk.far (Blk.far (bz_2.out) (p := ⟨g616, 0, none⟩) (ne622.out) (.bool V2)) (p := ⟨g616, 1, none⟩) (ne622.out) (.slice A9 n9 c9))
     have k639 := Lib.hid (Blk.set_ (Blk.set_ (bo_623.out) 0 (.bool V2)) 1 (.slice A9 n9 c9))
     have k640 := Lib.hid (rdI_setc (rdI_setc (z9_628.out) ⟨g616, 0, none⟩ (.bool V2) (bo_623.out) (by simp)) ⟨g616, 1, none⟩ (.slice A9 n9 c9) (Blk.set_ (bo_623.out) 0 (.bool V2)) (by simp))
     obtain ⟨w641, hw642⟩ : ∃ w', w' = (((w626).setCell ⟨g616, 0, none⟩ (.bool V2)).setCell ⟨g616, 1, none⟩ (.slice A9 n9 c9)) := ⟨_, rfl⟩
     rw [← hw642] at k636 k637 k638 k639 k640
     rw [← hw642]
     clear hw642 v632 f633 v634 f635 hlt_
     refine hK.out _ _ k637.out (fun _ => ?_); clear hK K
     try simp only [Act.put, qsA, qsZ, qsS]
     refine' twH 10 k637.out ?_
     try simp only [Act.put, qsA, qsZ, qsS]
     refine wpAnyH_done (by kernel_rfl) ?_ _
     obtain ⟨z_1018, z_1019, z_1020⟩ := at3 k637
     obtain ⟨z_1021, z_1022⟩ := at2 k638
     obtain ⟨z_1023, z_1024⟩ := at2 k639
     have fz_1025 : (w641).frozen? ⟨w.heap.size + 1, 0, none⟩ = false := Blk.frozen k638.out 0
     have fz_1026 : (w641).frozen? ⟨w.heap.size + 1, 1, none⟩ = false := Blk.frozen k638.out 1
     have hlb_ := Blk.lt k638.out
     have HK := Lib.hid (And.intro (k638.out) (And.intro k636.out k640.out))
     go_wp2
     obtain ⟨bz_, bel_, z_⟩ := HK.out
     refine bodyPost_ret (v := .tuple #[.agg #[.bool V2, .slice A9 n9 c9], .bool V3, .int .i64 0]) (by simp [results, Tryz.results43, go_sem, z_1018, z_1019, z_1020, z_1021, z_1022, z_1023, z_1024, fz_1025, fz_1026]) rfl ?_
     exact ⟨A9, n9, c9, rfl, rdI_setc (rdI_setc z_ ⟨w.heap.size + 1, 0, none⟩ (.bool V2) bz_ (by simp)) ⟨w.heap.size + 1, 1, none⟩ (.slice A9 n9 c9) (Blk.set_ bz_ 0 (.bool V2)) (by simp), hm9, (by have hsz_ := Below.size bel_; repeat' (first | with_reducible exact bel_ | with_reducible exact Below.refl _ _ | with_reducible refine Below.alloc ?_ ?_ _ | with_reducible refine Below.setCell ?_ ?_ _ | with_reducible refine Below.drew ?_ | with_reducible refine below_setRow ?_ ?_ _ | omega | (simp; done) | (simp; omega)))⟩
    exact AllReadyH.nil
   refine rdH rfl (fun K hK => ?_) ?_
   · -- 8: alloc
    go_simp
    have lb648 := Lib.hid (bel_3.out.size)
    have ne649 := Lib.hid (Nat.ne_of_lt (Blk.lt ba_1.out))
    have ne650 := Lib.hid (Nat.ne_of_lt (Blk.lt bz_2.out))
    obtain ⟨o_, ho_⟩ : ∃ o, o = (.cells #[.bool false, .slice none 0 0] 33 : Obj) := ⟨_, rfl⟩
    replace bel_3 := bA bel_3 o_
    replace ra_4 := rA ra_4 o_
    replace rb_5 := rA rb_5 o_
    replace ba_1 := kA ba_1 o_
    replace bz_2 := kA bz_2 o_
    subst ho_
    have bo_651 := Lib.hid (Blk.new (w556) 33 #[.bool false, .slice none 0 0])
    obtain ⟨g644, hg645⟩ : ∃ g, g = (w556).heap.size := ⟨_, rfl⟩
    obtain ⟨w646, hw647⟩ : ∃ w', w' = (w556).alloc (.cells #[.bool false, .slice none 0 0] 33) := ⟨_, rfl⟩
    rw [← hw647] at bel_3 ra_4 rb_5 ba_1 bz_2 bo_651
    rw [← hg645] at lb648 ne649 ne650 bo_651
    rw [← hg645, ← hw647]
    clear hg645 hw647
    refine hK.out _ _ ba_1.out (fun _ => ?_); clear hK K
    try simp only [Act.put, qsA, qsZ, qsS]
    refine oneH 1 rfl fun K hK => ?_
    go_simp
    go_at_call 63
    refine (ownWays_any c A B n k m j _ (by omega) (by omega)).mono ?_
    rintro e w652 ⟨rfl, hb653⟩
    dsimp only
    replace hb653 := Lib.hid hb653
    replace ba_1 := kH ba_1 hb653
    refine hK.out _ _ ba_1.out (fun _ => ?_); clear hK K
    try simp only [Act.put, qsA, qsZ, qsS]
    refine oneH 3 rfl fun K hK => ?_
    go_simp
    go_at_call 63
    refine (ownTurns_any c A B n k m j _).mono ?_
    rintro e w654 ⟨rfl, hb655⟩
    dsimp only
    replace hb655 := Lib.hid hb655
    replace ba_1 := kH ba_1 hb655
    refine hK.out _ _ ba_1.out (fun _ => ?_); clear hK K
    try simp only [Act.put, qsA, qsZ, qsS]
    refine oneH 4 rfl fun K hK => ?_
    replace ra_4 := rH (rH ra_4 hb653) hb655
    replace rb_5 := rH (rH rb_5 hb653) hb655
    go_simp
    go_at_call 80
    refine (flawIn_wide (c + 1) c A B n k m j ws ts _ ra_4.out rb_5.out HL1.out HL2.out _ HV.out).mono ?_
    rintro e w656 ⟨A9, n9, c9, rfl, hz9, hm9, hb657⟩
    dsimp only
    replace hb657 := Lib.hid hb657
    have z9_658 := Lib.hid (hz9)
    replace ba_1 := kH ba_1 hb657
    refine hK.out _ _ ba_1.out (fun _ => ?_); clear hK K
    try simp only [Act.put, qsA, qsZ, qsS]
    refine' twH 5 ba_1.out ?_
    refine' twH 6 ba_1.out ?_
    refine' twH 7 ba_1.out ?_
    try simp only [Act.put, qsA, qsZ, qsS]
    refine oneH 9 rfl fun K hK => ?_
    replace bo_651 := kH (kH (kH bo_651 hb653) hb655) hb657
    replace bel_3 := bH (bH (bH bel_3 hb653) hb655) hb657
    replace ra_4 := rH ra_4 hb657
    replace rb_5 := rH rb_5 hb657
    replace bz_2 := kH (kH (kH bz_2 hb653) hb655) hb657
    have v662 : (w656).cell? ⟨g644, 0, none⟩ = some (.bool false) := Blk.cell (bo_651.out) 0
    have f663 : (w656).frozen? ⟨g644, 0, none⟩ = false := Blk.frozen (bo_651.out) 0
    have v664 : (w656).cell? ⟨g644, 1, none⟩ = some (.slice none 0 0) := Blk.cell (bo_651.out) 1
    have f665 : (w656).frozen? ⟨g644, 1, none⟩ = false := Blk.frozen (bo_651.out) 1
    have hlt_ := Blk.lt (bo_651.out)
    go_simp
    have k666 := Lib.hid (Below.setCell (Below.setCell (bel_3.out) (p := ⟨g644, 0, none⟩) (lb648.out) (.bool V2)) (p := ⟨g644, 1, none⟩) (lb648.out) (.slice A9 n9 c9))
    have k667 := Lib.hid (Blk.far (Blk.far (ba_1.out) (p := ⟨g644, 0, none⟩) (ne649.out) (.bool V2)) (p := ⟨g644, 1, none⟩) (ne649.out) (.slice A9 n9 c9))
    have k668 := Lib.hid (Blk.far (Blk.far (bz_2.out) (p := ⟨g644, 0, none⟩) (ne650.out) (.bool V2)) (p := ⟨g644, 1, none⟩) (ne650.out) (.slice A9 n9 c9))
    have k669 := Lib.hid (Blk.set_ (Blk.set_ (bo_651.out) 0 (.bool V2)) 1 (.slice A9 n9 c9))
    have k670 := Lib.hid (rdI_setc (rdI_setc (z9_658.out) ⟨g644, 0, none⟩ (.bool V2) (bo_651.out) (by simp)) ⟨g644, 1, none⟩ (.slice A9 n9 c9) (Blk.set_ (bo_651.out) 0 (.bool V2)) (by simp))
    obtain ⟨w671, hw672⟩ : ∃ w', w' = (((w656).setCell ⟨g644, 0, none⟩ (.bool V2)).setCell ⟨g644, 1, none⟩ (.slice A9 n9 c9)) := ⟨_, rfl⟩
    rw [← hw672] at k666 k667 k668 k669 k670
    rw [← hw672]
    clear hw672 v662 f663 v664 f665 hlt_
    refine hK.out _ _ k667.out (fun _ => ?_); clear hK K
    try simp only [Act.put, qsA, qsZ, qsS]
    refine' twH 10 k667.out ?_
    try simp only [Act.put, qsA, qsZ, qsS]
    refine wpAnyH_done (by kernel_rfl) ?_ _
    obtain ⟨z_1018, z_1019, z_1020⟩ := at3 k667
    obtain ⟨z_1021, z_1022⟩ := at2 k668
    obtain ⟨z_1023, z_1024⟩ := at2 k669
    have fz_1025 : (w671).frozen? ⟨w.heap.size + 1, 0, none⟩ = false := Blk.frozen k668.out 0
    have fz_1026 : (w671).frozen? ⟨w.heap.size + 1, 1, none⟩ = false := Blk.frozen k668.out 1
    have hlb_ := Blk.lt k668.out
    have HK := Lib.hid (And.intro (k668.out) (And.intro k666.out k670.out))
    go_wp2
    obtain ⟨bz_, bel_, z_⟩ := HK.out
    refine bodyPost_ret (v := .tuple #[.agg #[.bool V2, .slice A9 n9 c9], .bool V3, .int .i64 0]) (by simp [results, Tryz.results43, go_sem, z_1018, z_1019, z_1020, z_1021, z_1022, z_1023, z_1024, fz_1025, fz_1026]) rfl ?_
    exact ⟨A9, n9, c9, rfl, rdI_setc (rdI_setc z_ ⟨w.heap.size + 1, 0, none⟩ (.bool V2) bz_ (by simp)) ⟨w.heap.size + 1, 1, none⟩ (.slice A9 n9 c9) (Blk.set_ bz_ 0 (.bool V2)) (by simp), hm9, (by have hsz_ := Below.size bel_; repeat' (first | with_reducible exact bel_ | with_reducible exact Below.refl _ _ | with_reducible refine Below.alloc ?_ ?_ _ | with_reducible refine Below.setCell ?_ ?_ _ | with_reducible refine Below.drew ?_ | with_reducible refine below_setRow ?_ ?_ _ | omega | (simp; done) | (simp; omega)))⟩
   exact AllReadyH.nil
 · rw [if_neg h0]
   have hne : (q != 0) = true := by simpa using h0
   clear h0 hq
   unfold RetFE
   dsimp only
   go_enter Tryz.func43, Tryz.ntmps43
   obtain ⟨ba_1, bz_2, bel_3⟩ := ent2 w #[.int .i64 c, .slice A n k, .slice B m j] 24 #[.bool false, .slice none 0 0] 33
   have ra_4 := rI h1 bel_3
   have rb_5 := rI h2 bel_3
   clear h1 h2
   obtain ⟨z_6, z_7, z_8⟩ := at3 ba_1
   obtain ⟨z_9, z_10⟩ := at2 bz_2
   have hc := CheckOutline_any c A B n k m j ws ts _ ra_4.out rb_5.out hn hm
   rw [E1.out] at hc
   try dsimp only at hc
   have HC := Lib.hid hc; clear hc
   go_wp2_with fail
   refine HC.out.mono ?_
   rintro e w_11 ⟨rfl, hb⟩
   clear HC
   clear z_6 z_7 z_8 z_9 z_10
   have hb_12 := Lib.hid hb
   clear hb
   replace ba_1 := kH ba_1 hb_12
   obtain ⟨z_13, z_14, z_15⟩ := at3 ba_1
   replace bz_2 := kH bz_2 hb_12
   obtain ⟨z_16, z_17⟩ := at2 bz_2
   have fz_18 : (w_11).frozen? ⟨w.heap.size + 1, 0, none⟩ = false := Blk.frozen bz_2.out 0
   have fz_19 : (w_11).frozen? ⟨w.heap.size + 1, 1, none⟩ = false := Blk.frozen bz_2.out 1
   have hlb_ := Blk.lt bz_2.out
   replace bel_3 := bH bel_3 hb_12
   have HK := Lib.hid (bel_3.out)
   go_wp2
   have bel_ := HK.out
   refine bodyPost_ret (v := .tuple #[.agg #[.bool false, .slice none 0 0], .bool false, .int .i64 q]) (by simp [results, Tryz.results43, go_sem, z_13, z_14, z_15, z_16, z_17, fz_18, fz_19]) rfl ?_
   exact ⟨none, 0, 0, rfl, RdI.nil_ _, by unfold maxLen; omega, (by have hsz_ := Below.size bel_; repeat' (first | with_reducible exact bel_ | with_reducible exact Below.refl _ _ | with_reducible refine Below.alloc ?_ ?_ _ | with_reducible refine Below.setCell ?_ ?_ _ | with_reducible refine Below.drew ?_ | with_reducible refine below_setRow ?_ ?_ _ | omega | (simp; done) | (simp; omega)))⟩
end Go.Proofs.YtaoanagmgheicaaGreat
