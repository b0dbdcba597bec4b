import Derived.Test.YtaoanagmgheicaaGreatQERefO
import Derived.Test.YtaoanagmgheicaaGreatWEPub
import Derived.Test.YtaoanagmgheicaaGreatWRPathM
set_option maxHeartbeats 4000000
set_option linter.unusedSimpArgs false
set_option linter.unusedVariables false
namespace Go.Proofs.YtaoanagmgheicaaGreat
open Go.RowKit
set_option maxRecDepth 100000 in
theorem rOwn_w (c : Int) (A B : Option Addr) (n k m j : Nat) (ws ts : List Bnd) (w : World) (h1 : RdB w A n k ws) (h2 : RdB w B m j ts) (hn : n ≤ maxLen) (hm : m ≤ maxLen) (hc1 : 3 ≤ c) (hc2 : c ≤ 16) :
 Calls Tryz.prog 65 #[.agg #[.int .i64 c, .slice A n k, .slice B m j], .bool false] w fun e w' => ∃ A7 n7 k7, e = .returned (.agg #[.int .i64 (c + 1), .slice A7 n7 k7]) ∧ RdB w' A7 n7 k7 ws ∧ Below w.heap.size w w' := by
  go_enter Tryz.func65, Tryz.ntmps65
  obtain ⟨ba_1, bz_2, bel_3⟩ := ent2 w #[.int .i64 c, .slice A n k, .slice B m j] 24 #[.int .i64 0, .slice none 0 0] 46
  have ra_4 := rI h1 bel_3
  clear h1
  obtain ⟨z_5, z_6, z_7⟩ := at3 ba_1
  obtain ⟨z_8, z_9⟩ := at2 bz_2
  have hc := rways_any c A B n k m j (((w.alloc (.cells #[.int .i64 c, .slice A n k, .slice B m j] 24)).alloc (.cells #[.int .i64 0, .slice none 0 0] 46))) (by omega) (by omega)
  have HC := Lib.hid hc; clear hc
  go_wp2_with fail
  refine HC.out.mono ?_
  rintro e w_10 ⟨rfl, hb⟩
  clear HC
  clear z_5 z_6 z_7 z_8 z_9
  have hb_11 := Lib.hid hb
  clear hb
  replace ba_1 := kH ba_1 hb_11
  obtain ⟨z_12, z_13, z_14⟩ := at3 ba_1
  replace bz_2 := kH bz_2 hb_11
  obtain ⟨z_15, z_16⟩ := at2 bz_2
  have fz_17 : (w_10).frozen? ⟨w.heap.size + 1, 0, none⟩ = false := Blk.frozen bz_2.out 0
  have fz_18 : (w_10).frozen? ⟨w.heap.size + 1, 1, none⟩ = false := Blk.frozen bz_2.out 1
  replace bel_3 := bH bel_3 hb_11
  replace ra_4 := rH ra_4 hb_11
  have hlb_ := Blk.lt bz_2.out; have bz_ := bz_2.out; have bel_ := bel_3.out; have rl_ := ra_4.out
  have HK := Lib.hid (And.intro bz_ (And.intro bel_ rl_)); clear bz_ bel_ rl_
  go_wp2
  obtain ⟨bz_, bel_, rl_⟩ := HK.out
  refine bodyPost_ret (v := .agg #[.int .i64 (c + 1), .slice A n k]) (by simp [results, Tryz.results65, go_sem, z_12, z_13, z_14, z_15, z_16, fz_17, fz_18]) rfl ?_
  exact ⟨_, _, _, rfl, rdB_set2 rl_ ⟨w.heap.size + 1, 0, none⟩ ⟨w.heap.size + 1, 1, none⟩ (.int .i64 (c + 1)) (.slice A n k) bz_ rfl, (by have hsz_ := Below.size bel_; repeat' (first | with_reducible exact bel_ | with_reducible exact Below.refl _ _ | with_reducible refine Below.alloc ?_ ?_ _ | with_reducible refine Below.setCell ?_ ?_ _ | with_reducible refine Below.drew ?_ | with_reducible refine below_setRow ?_ ?_ _ | omega | (simp; done) | (simp; omega)))⟩
set_option maxRecDepth 100000 in
theorem rOwn_t (c : Int) (A B : Option Addr) (n k m j : Nat) (ws ts : List Bnd) (w : World) (h1 : RdB w A n k ws) (h2 : RdB w B m j ts) (hn : n ≤ maxLen) (hm : m ≤ maxLen) (hc1 : 3 ≤ c) (hc2 : c ≤ 16) :
 Calls Tryz.prog 65 #[.agg #[.int .i64 c, .slice A n k, .slice B m j], .bool true] w fun e w' => ∃ A7 n7 k7, e = .returned (.agg #[.int .i64 c, .slice A7 n7 k7]) ∧ RdB w' A7 n7 k7 ts ∧ Below w.heap.size w w' := by
  go_enter Tryz.func65, Tryz.ntmps65
  obtain ⟨ba_1, bz_2, bel_3⟩ := ent2 w #[.int .i64 c, .slice A n k, .slice B m j] 24 #[.int .i64 0, .slice none 0 0] 46
  have rb_4 := rI h2 bel_3
  clear h2
  obtain ⟨z_5, z_6, z_7⟩ := at3 ba_1
  obtain ⟨z_8, z_9⟩ := at2 bz_2
  have hc := rturns_any c A B n k m j (((w.alloc (.cells #[.int .i64 c, .slice A n k, .slice B m j] 24)).alloc (.cells #[.int .i64 0, .slice none 0 0] 46)))
  have HC := Lib.hid hc; clear hc
  go_wp2_with fail
  refine HC.out.mono ?_
  rintro e w_10 ⟨rfl, hb⟩
  clear HC
  clear z_5 z_6 z_7 z_8 z_9
  have hb_11 := Lib.hid hb
  clear hb
  replace ba_1 := kH ba_1 hb_11
  obtain ⟨z_12, z_13, z_14⟩ := at3 ba_1
  replace bz_2 := kH bz_2 hb_11
  obtain ⟨z_15, z_16⟩ := at2 bz_2
  have fz_17 : (w_10).frozen? ⟨w.heap.size + 1, 0, none⟩ = false := Blk.frozen bz_2.out 0
  have fz_18 : (w_10).frozen? ⟨w.heap.size + 1, 1, none⟩ = false := Blk.frozen bz_2.out 1
  replace bel_3 := bH bel_3 hb_11
  replace rb_4 := rH rb_4 hb_11
  have hlb_ := Blk.lt bz_2.out; have bz_ := bz_2.out; have bel_ := bel_3.out; have rl_ := rb_4.out
  have HK := Lib.hid (And.intro bz_ (And.intro bel_ rl_)); clear bz_ bel_ rl_
  go_wp2
  obtain ⟨bz_, bel_, rl_⟩ := HK.out
  refine bodyPost_ret (v := .agg #[.int .i64 c, .slice B m j]) (by simp [results, Tryz.results65, go_sem, z_12, z_13, z_14, z_15, z_16, fz_17, fz_18]) rfl ?_
  exact ⟨_, _, _, rfl, rdB_set2 rl_ ⟨w.heap.size + 1, 0, none⟩ ⟨w.heap.size + 1, 1, none⟩ (.int .i64 c) (.slice B m j) bz_ rfl, (by have hsz_ := Below.size bel_; repeat' (first | with_reducible exact bel_ | with_reducible exact Below.refl _ _ | with_reducible refine Below.alloc ?_ ?_ _ | with_reducible refine Below.setCell ?_ ?_ _ | with_reducible refine Below.drew ?_ | with_reducible refine below_setRow ?_ ?_ _ | omega | (simp; done) | (simp; omega)))⟩
theorem rOwn_any (u : Bool) (c : Int) (A B : Option Addr) (n k m j : Nat) (ws ts : List Bnd) (w : World) (h1 : RdB w A n k ws) (h2 : RdB w B m j ts) (hn : n ≤ maxLen) (hm : m ≤ maxLen) (hc1 : 3 ≤ c) (hc2 : c ≤ 16) :
 Calls Tryz.prog 65 #[.agg #[.int .i64 c, .slice A n k, .slice B m j], .bool u] w fun e w' => ∃ A7 n7 k7, e = .returned (.agg #[.int .i64 (oP u ⟨c, ws, ts⟩), .slice A7 n7 k7]) ∧ RdB w' A7 n7 k7 (oL u ⟨c, ws, ts⟩) ∧ n7 ≤ maxLen ∧ Below w.heap.size w w' := by
 cases u
 · refine (rOwn_w c A B n k m j ws ts w h1 h2 hn hm hc1 hc2).mono ?_
   rintro e w' ⟨A7, n7, k7, he, hr, hb⟩
   exact ⟨A7, n7, k7, he, hr, by rw [← hr.len, h1.len]; exact hn, hb⟩
 · refine (rOwn_t c A B n k m j ws ts w h1 h2 hn hm hc1 hc2).mono ?_
   rintro e w' ⟨A7, n7, k7, he, hr, hb⟩
   exact ⟨A7, n7, k7, he, hr, by rw [← hr.len, h2.len]; exact hm, hb⟩
theorem rCheckCircle_is (P : Int) (A : Option Addr) (n k : Nat) (l : List Bnd) (w : World) (hr : RdB w A n k l) (hn : n ≤ maxLen) (B : Option Addr) (m d : Nat) (x : List Int) (hx : RdI w B m d x) (hm : m ≤ 100) (V : Bool × Int) (hV : checkCircleV P l x = V) :
 Calls Tryz.prog 64 #[.agg #[.int .i64 P, .slice A n k], .slice B m d] w fun e w' => e = .returned (.tuple #[.bool V.1, .int .i64 V.2]) ∧ Below w.heap.size w w' := by
 subst hV
 exact rCheckCircle_any P A n k l w hr hn B m d x hx hm
set_option maxRecDepth 100000 in
theorem rCheckFlaw_err (t : Bool) (c : Int) (A B : Option Addr) (n k m j : Nat) (ws ts : List Bnd) (w : World) (h1 : RdB w A n k ws) (h2 : RdB w B m j ts) (hn : n ≤ maxLen) (hm : m ≤ maxLen) (F : Option Addr) (fm fd : Nat) (x : List Int) (hf : RdI w F fm fd x) (hfm : fm ≤ 100) (q : Int) (hq : (q != 0) = true) (E1 : Hid (chkO ⟨c, ws, ts⟩ = q)) :
 Calls Tryz.prog 21 #[.agg #[.int .i64 c, .slice A n k, .slice B m j], .agg #[.bool t, .slice F fm fd]] w fun e w' => e = .returned (.tuple #[.bool false, .int .i64 q]) ∧ Below w.heap.size w w' := by
  go_enter Tryz.func21, Tryz.ntmps21
  obtain ⟨ba_1, bf_2, bel_3⟩ := ent2 w #[.int .i64 c, .slice A n k, .slice B m j] 24 #[.bool t, .slice F fm fd] 33
  have ra_4 := rI h1 bel_3
  have rb_5 := rI h2 bel_3
  have rf_6 := iI hf bel_3
  clear h1 h2 hf
  obtain ⟨z_7, z_8, z_9⟩ := at3 ba_1
  obtain ⟨z_10, z_11⟩ := at2 bf_2
  have hc := rCheckOutline_any c A B n k m j ws ts _ ra_4.out rb_5.out hn hm
  rw [E1.out] at hc
  try dsimp only at hc
  have HC := Lib.hid hc; clear hc
  go_wp2_with fail
  refine HC.out.mono ?_
  rintro e w_12 ⟨rfl, hb⟩
  clear HC
  clear z_7 z_8 z_9 z_10 z_11
  have hb_13 := Lib.hid hb
  clear hb
  replace ba_1 := kH ba_1 hb_13
  obtain ⟨z_14, z_15, z_16⟩ := at3 ba_1
  replace bf_2 := kH bf_2 hb_13
  obtain ⟨z_17, z_18⟩ := at2 bf_2
  go_wp2
  go_ret2
  replace bel_3 := bH bel_3 hb_13
  exact ⟨rfl, bel_3.out⟩
set_option maxRecDepth 100000 in
theorem rCheckFlaw_ok (t : Bool) (c : Int) (A B : Option Addr) (n k m j : Nat) (ws ts : List Bnd) (w : World) (h1 : RdB w A n k ws) (h2 : RdB w B m j ts) (hn : n ≤ maxLen) (hm : m ≤ maxLen) (F : Option Addr) (fm fd : Nat) (x : List Int) (hf : RdI w F fm fd x) (hfm : fm ≤ 100) (HC1 : Hid (3 ≤ c)) (HC2 : Hid (c ≤ 16)) (E1 : Hid (chkO ⟨c, ws, ts⟩ = 0)) (v1 : Bool) (v2 : Int) (EV : Hid (checkCircleV (oP t ⟨c, ws, ts⟩) (oL t ⟨c, ws, ts⟩) x = (v1, v2))) :
 Calls Tryz.prog 21 #[.agg #[.int .i64 c, .slice A n k, .slice B m j], .agg #[.bool t, .slice F fm fd]] w fun e w' => e = .returned (.tuple #[.bool v1, .int .i64 v2]) ∧ Below w.heap.size w w' := by
  go_enter Tryz.func21, Tryz.ntmps21
  obtain ⟨ba_1, bf_2, bel_3⟩ := ent2 w #[.int .i64 c, .slice A n k, .slice B m j] 24 #[.bool t, .slice F fm fd] 33
  have ra_4 := rI h1 bel_3
  have rb_5 := rI h2 bel_3
  have rf_6 := iI hf bel_3
  clear h1 h2 hf
  obtain ⟨z_7, z_8, z_9⟩ := at3 ba_1
  obtain ⟨z_10, z_11⟩ := at2 bf_2
  have hc := rCheckOutline_any c A B n k m j ws ts _ ra_4.out rb_5.out hn hm
  rw [E1.out] at hc
  try dsimp only at hc
  have HC := Lib.hid hc; clear hc
  go_wp2_with fail
  refine HC.out.mono ?_
  rintro e w_12 ⟨rfl, hb⟩
  clear HC
  clear z_7 z_8 z_9 z_10 z_11
  have hb_13 := Lib.hid hb
  clear hb
  replace ba_1 := kH ba_1 hb_13
  obtain ⟨z_14, z_15, z_16⟩ := at3 ba_1
  replace bf_2 := kH bf_2 hb_13
  obtain ⟨z_17, z_18⟩ := at2 bf_2
  go_wp2_with fail
  clear z_14 z_15 z_16 z_17 z_18
  replace bel_3 := bD (bH bel_3 hb_13)
  replace ra_4 := rD (rH ra_4 hb_13)
  replace rb_5 := rD (rH rb_5 hb_13)
  replace rf_6 := iD (iH rf_6 hb_13)
  replace ba_1 := kD ba_1
  replace bf_2 := kD bf_2
  refine wp_region_held_drew (S := (fun W' => Blk W' (w.heap.size) 24 #[.int .i64 c, .slice A n k, .slice B m j] ∧ Blk W' (w.heap.size + 1) 33 #[.bool t, .slice F fm fd])) (by kernel_rfl) ⟨ba_1.out, bf_2.out⟩ (fun _ => ?_)
  obtain ⟨w2902, hw2903⟩ : ∃ w', w' = (w_12.drew) := ⟨_, rfl⟩
  rw [← hw2903] at bel_3 ra_4 rb_5 rf_6 ba_1 bf_2
  rw [← hw2903]
  clear hw2903
  refine' tkH 0 ⟨ba_1.out, bf_2.out⟩ ?hyR2904 ?_
  case hyR2904 => (rintro W' ⟨hS0, hS1⟩; have hc0 := Blk.nth hS0 0; have hc1 := Blk.nth hS0 1; have hc2 := Blk.nth hS0 2; clear hS0 hS1; go_simp; try with_reducible rfl)
  refine' twH 1 ⟨ba_1.out, bf_2.out⟩ ?_
  refine' tkH 2 ⟨ba_1.out, bf_2.out⟩ ?hyR2906 ?_
  case hyR2906 => (rintro W' ⟨hS0, hS1⟩; have hc0 := Blk.nth hS1 0; clear hS0 hS1; go_simp; try with_reducible rfl)
  refine' twH 4 ⟨ba_1.out, bf_2.out⟩ ?_
  try simp only [Act.put, qsA, qsZ, qsS]
  refine' tkH 5 ⟨ba_1.out, bf_2.out⟩ ?hyR2908 ?_
  case hyR2908 => (rintro W' ⟨hS0, hS1⟩; have hc0 := Blk.nth hS1 1; clear hS0 hS1; go_simp; try with_reducible rfl)
  try simp only [Act.put, qsA, qsZ, qsS]
  refine oneH 3 rfl fun K hK => ?_
  go_simp
  go_at_call 65
  refine (rOwn_any t c A B n k m j ws ts _ ra_4.out rb_5.out hn hm HC1.out HC2.out).mono ?_
  rintro e w2909 ⟨A7, n7, k7, rfl, hr7, hn7, hb2910⟩
  dsimp only
  replace hb2910 := Lib.hid hb2910
  have r7_2911 := Lib.hid (hr7)
  replace ba_1 := kH ba_1 hb2910
  replace bf_2 := kH bf_2 hb2910
  refine hK.out _ _ ⟨ba_1.out, bf_2.out⟩ (fun _ => ?_); clear hK K
  try simp only [Act.put, qsA, qsZ, qsS]
  refine oneH 6 rfl fun K hK => ?_
  replace rf_6 := iH rf_6 hb2910
  go_simp
  go_at_call 64
  refine (rCheckCircle_is (oP t ⟨c, ws, ts⟩) A7 n7 k7 (oL t ⟨c, ws, ts⟩) _ r7_2911.out hn7 F fm fd x rf_6.out hfm _ EV.out).mono ?_
  rintro e w2912 ⟨rfl, hb2913⟩
  dsimp only
  replace hb2913 := Lib.hid hb2913
  replace ba_1 := kH ba_1 hb2913
  replace bf_2 := kH bf_2 hb2913
  refine hK.out _ _ ⟨ba_1.out, bf_2.out⟩ (fun _ => ?_); clear hK K
  try simp only [Act.put, qsA, qsZ, qsS]
  refine' twH 7 ⟨ba_1.out, bf_2.out⟩ ?_
  refine' twH 8 ⟨ba_1.out, bf_2.out⟩ ?_
  refine' twH 9 ⟨ba_1.out, bf_2.out⟩ ?_
  refine' twH 10 ⟨ba_1.out, bf_2.out⟩ ?_
  try simp only [Act.put, qsA, qsZ, qsS]
  refine wpAnyH_done (by kernel_rfl) ?_ _
  go_wp2
  go_ret2
  replace bel_3 := bH (bH bel_3 hb2910) hb2913
  exact ⟨rfl, bel_3.out⟩
theorem rCheckFlaw_any (t : Bool) (c : Int) (A B : Option Addr) (n k m j : Nat) (ws ts : List Bnd) (w : World) (h1 : RdB w A n k ws) (h2 : RdB w B m j ts) (hn : n ≤ maxLen) (hm : m ≤ maxLen) (F : Option Addr) (fm fd : Nat) (x : List Int) (hf : RdI w F fm fd x) (hfm : fm ≤ 100) :
 Calls Tryz.prog 21 #[.agg #[.int .i64 c, .slice A n k, .slice B m j], .agg #[.bool t, .slice F fm fd]] w fun e w' => e = .returned (.tuple #[.bool (checkFlawV t ⟨c, ws, ts⟩ x).1, .int .i64 (checkFlawV t ⟨c, ws, ts⟩ x).2]) ∧ Below w.heap.size w w' := by
 unfold checkFlawV
 by_cases h : chkO ⟨c, ws, ts⟩ = 0
 · rw [if_pos h]
   obtain ⟨g1, g2, -, -⟩ := chkO_ok h
   exact rCheckFlaw_ok t c A B n k m j ws ts w h1 h2 hn hm F fm fd x hf hfm (Lib.hid g1) (Lib.hid g2) (Lib.hid h) _ _ (Lib.hid rfl)
 · rw [if_neg h]
   exact rCheckFlaw_err t c A B n k m j ws ts w h1 h2 hn hm F fm fd x hf hfm _ (by simpa using h) (Lib.hid rfl)
end Go.Proofs.YtaoanagmgheicaaGreat
