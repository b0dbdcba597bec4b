import Derived.Test.YtaoanagmgheicaaGreatQEShared
set_option linter.unusedSimpArgs false
set_option linter.unusedVariables false
namespace Go.Proofs.YtaoanagmgheicaaGreat
open Go.RowKit
def oP (u : Bool) (a : Otl) : Int := if u then a.c else a.c + 1
def oL (u : Bool) (a : Otl) : List Bnd := if u then a.ts else a.ws
def checkFlawV (u : Bool) (a : Otl) (x : List Int) : Bool × Int := if chkO a = 0 then checkCircleV (oP u a) (oL u a) x else (false, chkO a)
set_option maxRecDepth 100000 in
set_option maxHeartbeats 4000000 in
theorem CheckFlaw_any (c : Int) (A B : Option Addr) (n k m j : Nat) (ws ts : List Bnd) (w : World) (h1 : RdB w A n k ws) (h2 : RdB w B m j ts) (hn : n ≤ maxLen) (hm : m ≤ maxLen) (u : Bool) (X : Option Addr) (xn xk : Nat) (x : List Int) (hx : RdI w X xn xk x) (hxm : xn ≤ maxLen) : Calls Tryz.prog 20 #[.agg #[.int .i64 c, .slice A n k, .slice B m j], .agg #[.bool u, .slice X xn xk]] w fun e w' => e = .returned (.tuple #[.bool (checkFlawV u ⟨c, ws, ts⟩ x).1, .int .i64 (checkFlawV u ⟨c, ws, ts⟩ x).2]) ∧ Below w.heap.size w w' := by
 unfold checkFlawV
 obtain ⟨q, hq⟩ : ∃ q, chkO ⟨c, ws, ts⟩ = q := ⟨_, rfl⟩
 rw [hq]
 have E1 := Lib.hid hq
 by_cases h0 : q = 0
 · subst h0
   rw [if_pos rfl]
   obtain ⟨g1, g2, -, -⟩ := chkO_ok hq
   dsimp only at g1 g2
   clear hq
   obtain ⟨V, hV⟩ : ∃ V, checkCircleV (oP u ⟨c, ws, ts⟩) (oL u ⟨c, ws, ts⟩) x = V := ⟨_, rfl⟩
   rw [hV]
   cases u
   · have EV := Lib.hid (show checkCircleV (c + 1) ws x = V from hV); clear hV
     obtain ⟨V1, V2⟩ := V
     dsimp only
     go_enter Tryz.func20, Tryz.ntmps20
     obtain ⟨ba_1, bf_2, bel_3⟩ := ent2 w #[.int .i64 c, .slice A n k, .slice B m j] 24 #[.bool false, .slice X xn xk] 33
     have ra_4 := rI h1 bel_3
     have rb_5 := rI h2 bel_3
     have rx_6 := iI hx bel_3
     clear h1 h2 hx
     obtain ⟨z_7, z_8, z_9⟩ := at3 ba_1
     obtain ⟨z_10, z_11⟩ := at2 bf_2
     have hc := CheckOutline_any c A B n k m j ws ts _ ra_4.out rb_5.out hn hm
     rw [E1.out] at hc
     try dsimp only at hc
     have HC := Lib.hid hc; clear hc
     go_wp2_with fail
     refine HC.out.mono ?_
     rintro e w_12 ⟨rfl, hb⟩
     clear HC
     clear z_7 z_8 z_9 z_10 z_11
     have hb_13 := Lib.hid hb
     clear hb
     replace ba_1 := kH ba_1 hb_13
     obtain ⟨z_14, z_15, z_16⟩ := at3 ba_1
     replace bf_2 := kH bf_2 hb_13
     obtain ⟨z_17, z_18⟩ := at2 bf_2
     go_wp2_with fail
     clear z_14 z_15 z_16 z_17 z_18
     replace bel_3 := bD (bH bel_3 hb_13)
     replace ra_4 := rD (rH ra_4 hb_13)
     replace rb_5 := rD (rH rb_5 hb_13)
     replace rx_6 := iD (iH rx_6 hb_13)
     replace ba_1 := kD ba_1
     replace bf_2 := kD bf_2
     refine wp_region_held_drew (S := (fun W' => Blk W' (w.heap.size) 24 #[.int .i64 c, .slice A n k, .slice B m j] ∧ Blk W' (w.heap.size + 1) 33 #[.bool false, .slice X xn xk])) (by kernel_rfl) ⟨ba_1.out, bf_2.out⟩ (fun _ => ?_)
     obtain ⟨w526, hw527⟩ : ∃ w', w' = (w_12.drew) := ⟨_, rfl⟩
     rw [← hw527] at bel_3 ra_4 rb_5 rx_6 ba_1 bf_2
     rw [← hw527]
     clear hw527
     refine' tkH 0 ⟨ba_1.out, bf_2.out⟩ ?hyR528 ?_
     case hyR528 => (rintro W' ⟨hS0, hS1⟩; have hc0 := Blk.nth hS0 0; have hc1 := Blk.nth hS0 1; have hc2 := Blk.nth hS0 2; clear hS0 hS1; go_simp; try with_reducible rfl)
     refine' twH 1 ⟨ba_1.out, bf_2.out⟩ ?_
     refine' tkH 2 ⟨ba_1.out, bf_2.out⟩ ?hyR530 ?_
     case hyR530 => (rintro W' ⟨hS0, hS1⟩; have hc0 := Blk.nth hS1 0; clear hS0 hS1; go_simp; try with_reducible rfl)
     refine' twH 4 ⟨ba_1.out, bf_2.out⟩ ?_
     try simp only [Act.put, qsA, qsZ, qsS]
     refine' tkH 5 ⟨ba_1.out, bf_2.out⟩ ?hyR532 ?_
     case hyR532 => (rintro W' ⟨hS0, hS1⟩; have hc0 := Blk.nth hS1 1; clear hS0 hS1; go_simp; try with_reducible rfl)
     try simp only [Act.put, qsA, qsZ, qsS]
     refine oneH 3 rfl fun K hK => ?_
     go_simp
     go_at_call 63
     refine (ownWays_any c A B n k m j _ (by omega) (by omega)).mono ?_
     rintro e w533 ⟨rfl, hb534⟩
     dsimp only
     replace hb534 := Lib.hid hb534
     replace ba_1 := kH ba_1 hb534
     replace bf_2 := kH bf_2 hb534
     refine hK.out _ _ ⟨ba_1.out, bf_2.out⟩ (fun _ => ?_); clear hK K
     try simp only [Act.put, qsA, qsZ, qsS]
     refine oneH 6 rfl fun K hK => ?_
     replace ra_4 := rH ra_4 hb534
     replace rx_6 := iH rx_6 hb534
     go_simp
     go_at_call 62
     refine (CheckCircle_is (c + 1) A X n k xn xk ws x _ ra_4.out hn rx_6.out hxm _ EV.out).mono ?_
     rintro e w535 ⟨rfl, hb536⟩
     dsimp only
     replace hb536 := Lib.hid hb536
     replace ba_1 := kH ba_1 hb536
     replace bf_2 := kH bf_2 hb536
     refine hK.out _ _ ⟨ba_1.out, bf_2.out⟩ (fun _ => ?_); clear hK K
     try simp only [Act.put, qsA, qsZ, qsS]
     refine' twH 7 ⟨ba_1.out, bf_2.out⟩ ?_
     refine' twH 8 ⟨ba_1.out, bf_2.out⟩ ?_
     refine' twH 9 ⟨ba_1.out, bf_2.out⟩ ?_
     refine' twH 10 ⟨ba_1.out, bf_2.out⟩ ?_
     try simp only [Act.put, qsA, qsZ, qsS]
     refine wpAnyH_done (by kernel_rfl) ?_ _
     go_wp2
     go_ret2
     replace bel_3 := bH (bH bel_3 hb534) hb536
     exact ⟨rfl, bel_3.out⟩
   · have EV := Lib.hid (show checkCircleV c ts x = V from hV); clear hV
     obtain ⟨V1, V2⟩ := V
     dsimp only
     go_enter Tryz.func20, Tryz.ntmps20
     obtain ⟨ba_1, bf_2, bel_3⟩ := ent2 w #[.int .i64 c, .slice A n k, .slice B m j] 24 #[.bool true, .slice X xn xk] 33
     have ra_4 := rI h1 bel_3
     have rb_5 := rI h2 bel_3
     have rx_6 := iI hx bel_3
     clear h1 h2 hx
     obtain ⟨z_7, z_8, z_9⟩ := at3 ba_1
     obtain ⟨z_10, z_11⟩ := at2 bf_2
     have hc := CheckOutline_any c A B n k m j ws ts _ ra_4.out rb_5.out hn hm
     rw [E1.out] at hc
     try dsimp only at hc
     have HC := Lib.hid hc; clear hc
     go_wp2_with fail
     refine HC.out.mono ?_
     rintro e w_12 ⟨rfl, hb⟩
     clear HC
     clear z_7 z_8 z_9 z_10 z_11
     have hb_13 := Lib.hid hb
     clear hb
     replace ba_1 := kH ba_1 hb_13
     obtain ⟨z_14, z_15, z_16⟩ := at3 ba_1
     replace bf_2 := kH bf_2 hb_13
     obtain ⟨z_17, z_18⟩ := at2 bf_2
     go_wp2_with fail
     clear z_14 z_15 z_16 z_17 z_18
     replace bel_3 := bD (bH bel_3 hb_13)
     replace ra_4 := rD (rH ra_4 hb_13)
     replace rb_5 := rD (rH rb_5 hb_13)
     replace rx_6 := iD (iH rx_6 hb_13)
     replace ba_1 := kD ba_1
     replace bf_2 := kD bf_2
     refine wp_region_held_drew (S := (fun W' => Blk W' (w.heap.size) 24 #[.int .i64 c, .slice A n k, .slice B m j] ∧ Blk W' (w.heap.size + 1) 33 #[.bool true, .slice X xn xk])) (by kernel_rfl) ⟨ba_1.out, bf_2.out⟩ (fun _ => ?_)
     obtain ⟨w541, hw542⟩ : ∃ w', w' = (w_12.drew) := ⟨_, rfl⟩
     rw [← hw542] at bel_3 ra_4 rb_5 rx_6 ba_1 bf_2
     rw [← hw542]
     clear hw542
     refine' tkH 0 ⟨ba_1.out, bf_2.out⟩ ?hyR543 ?_
     case hyR543 => (rintro W' ⟨hS0, hS1⟩; have hc0 := Blk.nth hS0 0; have hc1 := Blk.nth hS0 1; have hc2 := Blk.nth hS0 2; clear hS0 hS1; go_simp; try with_reducible rfl)
     refine' twH 1 ⟨ba_1.out, bf_2.out⟩ ?_
     refine' tkH 2 ⟨ba_1.out, bf_2.out⟩ ?hyR545 ?_
     case hyR545 => (rintro W' ⟨hS0, hS1⟩; have hc0 := Blk.nth hS1 0; clear hS0 hS1; go_simp; try with_reducible rfl)
     refine' twH 4 ⟨ba_1.out, bf_2.out⟩ ?_
     try simp only [Act.put, qsA, qsZ, qsS]
     refine' tkH 5 ⟨ba_1.out, bf_2.out⟩ ?hyR547 ?_
     case hyR547 => (rintro W' ⟨hS0, hS1⟩; have hc0 := Blk.nth hS1 1; clear hS0 hS1; go_simp; try with_reducible rfl)
     try simp only [Act.put, qsA, qsZ, qsS]
     refine oneH 3 rfl fun K hK => ?_
     go_simp
     go_at_call 63
     refine (ownTurns_any c A B n k m j _).mono ?_
     rintro e w548 ⟨rfl, hb549⟩
     dsimp only
     replace hb549 := Lib.hid hb549
     replace ba_1 := kH ba_1 hb549
     replace bf_2 := kH bf_2 hb549
     refine hK.out _ _ ⟨ba_1.out, bf_2.out⟩ (fun _ => ?_); clear hK K
     try simp only [Act.put, qsA, qsZ, qsS]
     refine oneH 6 rfl fun K hK => ?_
     replace rb_5 := rH rb_5 hb549
     replace rx_6 := iH rx_6 hb549
     go_simp
     go_at_call 62
     refine (CheckCircle_is c B X m j xn xk ts x _ rb_5.out hm rx_6.out hxm _ EV.out).mono ?_
     rintro e w550 ⟨rfl, hb551⟩
     dsimp only
     replace hb551 := Lib.hid hb551
     replace ba_1 := kH ba_1 hb551
     replace bf_2 := kH bf_2 hb551
     refine hK.out _ _ ⟨ba_1.out, bf_2.out⟩ (fun _ => ?_); clear hK K
     try simp only [Act.put, qsA, qsZ, qsS]
     refine' twH 7 ⟨ba_1.out, bf_2.out⟩ ?_
     refine' twH 8 ⟨ba_1.out, bf_2.out⟩ ?_
     refine' twH 9 ⟨ba_1.out, bf_2.out⟩ ?_
     refine' twH 10 ⟨ba_1.out, bf_2.out⟩ ?_
     try simp only [Act.put, qsA, qsZ, qsS]
     refine wpAnyH_done (by kernel_rfl) ?_ _
     go_wp2
     go_ret2
     replace bel_3 := bH (bH bel_3 hb549) hb551
     exact ⟨rfl, bel_3.out⟩
 · rw [if_neg h0]
   have hne : (q != 0) = true := by simpa using h0
   clear h0 hq
   dsimp only
   go_enter Tryz.func20, Tryz.ntmps20
   obtain ⟨ba_1, bf_2, bel_3⟩ := ent2 w #[.int .i64 c, .slice A n k, .slice B m j] 24 #[.bool u, .slice X xn xk] 33
   have ra_4 := rI h1 bel_3
   have rb_5 := rI h2 bel_3
   have rx_6 := iI hx bel_3
   clear h1 h2 hx
   obtain ⟨z_7, z_8, z_9⟩ := at3 ba_1
   obtain ⟨z_10, z_11⟩ := at2 bf_2
   have hc := CheckOutline_any c A B n k m j ws ts _ ra_4.out rb_5.out hn hm
   rw [E1.out] at hc
   try dsimp only at hc
   have HC := Lib.hid hc; clear hc
   go_wp2_with fail
   refine HC.out.mono ?_
   rintro e w_12 ⟨rfl, hb⟩
   clear HC
   clear z_7 z_8 z_9 z_10 z_11
   have hb_13 := Lib.hid hb
   clear hb
   replace ba_1 := kH ba_1 hb_13
   obtain ⟨z_14, z_15, z_16⟩ := at3 ba_1
   replace bf_2 := kH bf_2 hb_13
   obtain ⟨z_17, z_18⟩ := at2 bf_2
   go_wp2
   go_ret2
   replace bel_3 := bH bel_3 hb_13
   exact ⟨rfl, bel_3.out⟩
end Go.Proofs.YtaoanagmgheicaaGreat
