import Derived.Test.YtaoanagmgheicaaGreatQGraph
import Derived.Test.YtaoanagmgheicaaGreatQRef
import Derived.Test.YtaoanagmgheicaaGreatQEPair
set_option linter.unusedSimpArgs false
set_option linter.unusedVariables false
namespace Go.Proofs.YtaoanagmgheicaaGreat
open Go.RowKit
theorem rways_any (c : Int) (A B : Option Addr) (n k m j : Nat) (w : World) (hc : -1000000 ≤ c) (hc' : c ≤ 1000000) :
 Calls Tryz.prog 68 #[.agg #[.int .i64 c, .slice A n k, .slice B m j]] w fun e w' => e = .returned (.agg #[.int .i64 (c + 1), .slice A n k]) ∧ Below w.heap.size w w' := by
 go_enter Tryz.func68, Tryz.ntmps68
 go_wp2
 refine bodyPost_ret (v := .agg #[.int .i64 (c + 1), .slice A n k]) (by simp [results, Tryz.results68, go_sem]) rfl ⟨rfl, (by (repeat (first | exact Below.refl _ _ | refine Below.drew ?_ | refine Below.alloc ?_ (by simp) _)))⟩
theorem rturns_any (c : Int) (A B : Option Addr) (n k m j : Nat) (w : World) :
 Calls Tryz.prog 69 #[.agg #[.int .i64 c, .slice A n k, .slice B m j]] w fun e w' => e = .returned (.agg #[.int .i64 c, .slice B m j]) ∧ Below w.heap.size w w' := by
 go_enter Tryz.func69, Tryz.ntmps69
 go_wp2
 refine bodyPost_ret (v := .agg #[.int .i64 c, .slice B m j]) (by simp [results, Tryz.results69, go_sem]) rfl ⟨rfl, (by (repeat (first | exact Below.refl _ _ | refine Below.drew ?_ | refine Below.alloc ?_ (by simp) _)))⟩
set_option maxRecDepth 100000 in
set_option maxHeartbeats 4000000 in
theorem rCheckOutline_any (c : Int) (A B : Option Addr) (n k m j : Nat) (ws ts : List Bnd) (w : World) (h1 : RdB w A n k ws) (h2 : RdB w B m j ts) (hn : n ≤ maxLen) (hm : m ≤ maxLen) :
 Calls Tryz.prog 23 #[.agg #[.int .i64 c, .slice A n k, .slice B m j]] w fun e w' => e = .returned (.int .i64 (chkO ⟨c, ws, ts⟩)) ∧ Below w.heap.size w w' := by
 by_cases h3 : 3 ≤ c
 · by_cases h16 : c ≤ 16
   · obtain ⟨q, hq⟩ : ∃ q, chk (c + 1) ws = q := ⟨_, rfl⟩
     obtain ⟨q2, hq2⟩ : ∃ q, chk c ts = q := ⟨_, rfl⟩
     unfold chkO
     rw [if_neg (by simp; omega)]
     dsimp only
     rw [hq, hq2]
     have E1 := Lib.hid hq; have E2 := Lib.hid hq2; clear hq hq2
     by_cases h0 : q = 0
     · rw [if_neg (by simpa using h0)]
       subst h0
       go_enter Tryz.func23, Tryz.ntmps23
       obtain ⟨ba_1, bel_2⟩ := ent1 w #[.int .i64 c, .slice A n k, .slice B m j] 24
       have ra_3 := rI h1 bel_2
       have rb_4 := rI h2 bel_2
       clear h1 h2
       obtain ⟨z_5, z_6, z_7⟩ := at3 ba_1
       have hc := rways_any c A B n k m j ((w.alloc (.cells #[.int .i64 c, .slice A n k, .slice B m j] 24))) (by omega) (by omega)
       have HC := Lib.hid hc; clear hc
       go_wp2_with fail
       refine HC.out.mono ?_
       rintro e w_8 ⟨rfl, hb⟩
       clear HC
       clear z_5 z_6 z_7
       have hb_9 := Lib.hid hb
       clear hb
       replace ba_1 := kH ba_1 hb_9
       obtain ⟨z_10, z_11, z_12⟩ := at3 ba_1
       replace ra_3 := rH ra_3 hb_9
       have hc := rCheckSystem_any (c + 1) A n k ws (w_8) ra_3.out hn
       rw [E1.out] at hc
       try dsimp only at hc
       have HC := Lib.hid hc; clear hc
       go_wp2_with fail
       refine HC.out.mono ?_
       rintro e w_13 ⟨rfl, hb⟩
       clear HC
       clear z_10 z_11 z_12
       have hb_14 := Lib.hid hb
       clear hb
       replace ba_1 := kH ba_1 hb_14
       obtain ⟨z_15, z_16, z_17⟩ := at3 ba_1
       have hc := rturns_any c A B n k m j (w_13)
       have HC := Lib.hid hc; clear hc
       go_wp2_with fail
       refine HC.out.mono ?_
       rintro e w_18 ⟨rfl, hb⟩
       clear HC
       clear z_15 z_16 z_17
       have hb_19 := Lib.hid hb
       clear hb
       replace ba_1 := kH ba_1 hb_19
       obtain ⟨z_20, z_21, z_22⟩ := at3 ba_1
       replace rb_4 := rH (rH (rH rb_4 hb_9) hb_14) hb_19
       have hc := rCheckSystem_any c B m j ts (w_18) rb_4.out hm
       rw [E2.out] at hc
       try dsimp only at hc
       have HC := Lib.hid hc; clear hc
       go_wp2_with fail
       refine HC.out.mono ?_
       rintro e w_23 ⟨rfl, hb⟩
       clear HC
       clear z_20 z_21 z_22
       have hb_24 := Lib.hid hb
       clear hb
       replace ba_1 := kH ba_1 hb_24
       obtain ⟨z_25, z_26, z_27⟩ := at3 ba_1
       go_wp2
       go_ret
       replace bel_2 := bH (bH (bH (bH bel_2 hb_9) hb_14) hb_19) hb_24
       exact ⟨rfl, bel_2.out⟩
     · rw [if_pos h0]
       have hne : (q == 0) = false := by simpa using h0
       clear h0
       go_enter Tryz.func23, Tryz.ntmps23
       obtain ⟨ba_1, bel_2⟩ := ent1 w #[.int .i64 c, .slice A n k, .slice B m j] 24
       have ra_3 := rI h1 bel_2
       have rb_4 := rI h2 bel_2
       clear h1 h2
       obtain ⟨z_5, z_6, z_7⟩ := at3 ba_1
       have hc := rways_any c A B n k m j ((w.alloc (.cells #[.int .i64 c, .slice A n k, .slice B m j] 24))) (by omega) (by omega)
       have HC := Lib.hid hc; clear hc
       go_wp2_with fail
       refine HC.out.mono ?_
       rintro e w_8 ⟨rfl, hb⟩
       clear HC
       clear z_5 z_6 z_7
       have hb_9 := Lib.hid hb
       clear hb
       replace ba_1 := kH ba_1 hb_9
       obtain ⟨z_10, z_11, z_12⟩ := at3 ba_1
       replace ra_3 := rH ra_3 hb_9
       have hc := rCheckSystem_any (c + 1) A n k ws (w_8) ra_3.out hn
       rw [E1.out] at hc
       try dsimp only at hc
       have HC := Lib.hid hc; clear hc
       go_wp2_with fail
       refine HC.out.mono ?_
       rintro e w_13 ⟨rfl, hb⟩
       clear HC
       clear z_10 z_11 z_12
       have hb_14 := Lib.hid hb
       clear hb
       replace ba_1 := kH ba_1 hb_14
       obtain ⟨z_15, z_16, z_17⟩ := at3 ba_1
       go_wp2
       go_ret
       replace bel_2 := bH (bH bel_2 hb_9) hb_14
       exact ⟨rfl, bel_2.out⟩
   · go_enter Tryz.func23, Tryz.ntmps23
     go_wp2
     go_ret
     exact ⟨ret_int (by unfold chkO; rw [if_pos (by simp; omega)]), (by (repeat (first | exact Below.refl _ _ | refine Below.drew ?_ | refine Below.alloc ?_ (by simp) _)))⟩
 · go_enter Tryz.func23, Tryz.ntmps23
   go_wp2
   go_ret
   exact ⟨ret_int (by unfold chkO; rw [if_pos (by simp; omega)]), (by (repeat (first | exact Below.refl _ _ | refine Below.drew ?_ | refine Below.alloc ?_ (by simp) _)))⟩
end Go.Proofs.YtaoanagmgheicaaGreat
