import Derived.Test.YtaoanagmgheicaaGreatQRef
import Derived.Test.YtaoanagmgheicaaGreatWRCheckM
set_option maxHeartbeats 4000000
set_option linter.unusedSimpArgs false
set_option linter.unusedVariables false
namespace Go.Proofs.YtaoanagmgheicaaGreat
open Go.RowKit
theorem walk_idx {l : List Bnd} (hok : OkB l) {x : List Int} {s : Int} (h : walkR l x [] [] 0 = (s, true)) : ∀ i ∈ x, ∃ k b, i = Int.ofNat k ∧ l[k]? = some b := by
 rw [walkR_eq hok] at h
 by_cases hc : (chainV l x).2 = true ∧ (toL l x).Nodup
 · rw [if_pos hc] at h
   exact chainG_ok h
 · rw [if_neg hc] at h; injection h with _ h; cases h
theorem walk_no {l : List Bnd} (hok : OkB l) {x : List Int} (h : (walkR l x [] [] 0).2 = false) : walkR l x [] [] 0 = (0, false) := by
 rw [walkR_eq hok] at h ⊢
 by_cases hc : (chainV l x).2 = true ∧ (toL l x).Nodup
 · rw [if_pos hc] at h; rw [hc.1] at h; cases h
 · rw [if_neg hc]
set_option maxRecDepth 100000 in
theorem rC_err (P : Int) (A : Option Addr) (n k : Nat) (l : List Bnd) (w : World) (hr : RdB w A n k l) (hn : n ≤ maxLen) (B : Option Addr) (m d : Nat) (x : List Int) (hx : RdI w B m d x) (hm : m ≤ 100) (q : Int) (hq : (q != 0) = true) (E0 : Hid (chk P l = q)) :
 Calls Tryz.prog 64 #[.agg #[.int .i64 P, .slice A n k], .slice B m d] w fun e w' => e = .returned (.tuple #[.bool false, .int .i64 q]) ∧ Below w.heap.size w w' := by
 go_enter Tryz.func64, Tryz.ntmps64
 have bel_1 := Lib.hid (show Below w.heap.size w w from Below.refl _ w)
 have x_2 := Lib.hid (hx)
 clear hx
 have rd_3 := Lib.hid (hr)
 clear hr
 obtain ⟨o_, ho_⟩ : ∃ o, o = ((.cells #[.int .i64 P, .slice A n k] 46) : Obj) := ⟨_, rfl⟩
 replace bel_1 := bA bel_1 o_
 replace x_2 := iA x_2 o_
 replace rd_3 := rA rd_3 o_
 subst ho_
 have srd_4 := Lib.hid (Blk.new w 46 #[.int .i64 P, .slice A n k])
 have hc := rCheckSystem_any P A n k l _ rd_3.out hn
 rw [E0.out] at hc
 try dsimp only at hc
 have HC := Lib.hid hc; clear hc
 go_wp2_with fail
 refine HC.out.mono ?_
 rintro e w_5 ⟨rfl, hb⟩
 clear HC
 have hb_6 := Lib.hid hb
 clear hb
 replace srd_4 := kH srd_4 hb_6
 have z_7 : (w_5).cell? ⟨w.heap.size, 0, none⟩ = some (.int .i64 P) := Blk.cell srd_4.out 0
 have z_8 : (w_5).cell? ⟨w.heap.size, 1, none⟩ = some (.slice A n k) := Blk.cell srd_4.out 1
 go_wp2
 go_ret2
 replace bel_1 := bH bel_1 hb_6
 exact ⟨rfl, bel_1.out⟩
set_option maxRecDepth 100000 in
theorem rC_no (P : Int) (A : Option Addr) (n k : Nat) (l : List Bnd) (w : World) (hr : RdB w A n k l) (hn : n ≤ maxLen) (B : Option Addr) (m d : Nat) (x : List Int) (hx : RdI w B m d x) (hm : m ≤ 100) (hn4 : n ≤ 402) (HOK : Hid (OkB l)) (E0 : Hid (chk P l = 0)) (E1 : Hid (walkR l x [] [] 0 = (0, false))) :
 Calls Tryz.prog 64 #[.agg #[.int .i64 P, .slice A n k], .slice B m d] w fun e w' => e = .returned (.tuple #[.bool false, .int .i64 0]) ∧ Below w.heap.size w w' := by
 go_enter Tryz.func64, Tryz.ntmps64
 have bel_1 := Lib.hid (show Below w.heap.size w w from Below.refl _ w)
 have x_2 := Lib.hid (hx)
 clear hx
 have rd_3 := Lib.hid (hr)
 clear hr
 obtain ⟨o_, ho_⟩ : ∃ o, o = ((.cells #[.int .i64 P, .slice A n k] 46) : Obj) := ⟨_, rfl⟩
 replace bel_1 := bA bel_1 o_
 replace x_2 := iA x_2 o_
 replace rd_3 := rA rd_3 o_
 subst ho_
 have srd_4 := Lib.hid (Blk.new w 46 #[.int .i64 P, .slice A n k])
 have hc := rCheckSystem_any P A n k l _ rd_3.out hn
 rw [E0.out] at hc
 try dsimp only at hc
 have HC := Lib.hid hc; clear hc
 go_wp2_with fail
 refine HC.out.mono ?_
 rintro e w_5 ⟨rfl, hb⟩
 clear HC
 have hb_6 := Lib.hid hb
 clear hb
 replace srd_4 := kH srd_4 hb_6
 have z_7 : (w_5).cell? ⟨w.heap.size, 0, none⟩ = some (.int .i64 P) := Blk.cell srd_4.out 0
 have z_8 : (w_5).cell? ⟨w.heap.size, 1, none⟩ = some (.slice A n k) := Blk.cell srd_4.out 1
 replace rd_3 := rH rd_3 hb_6
 replace x_2 := iH x_2 hb_6
 have hc := rwalk_any P A B n k m d l x _ rd_3.out hn4 HOK.out x_2.out hm
 rw [E1.out] at hc
 try dsimp only at hc
 have HC := Lib.hid hc; clear hc
 go_wp2_with fail
 refine HC.out.mono ?_
 rintro e w_9 ⟨rfl, hb⟩
 clear HC
 clear z_7 z_8
 have hb_10 := Lib.hid hb
 clear hb
 replace srd_4 := kH srd_4 hb_10
 have z_11 : (w_9).cell? ⟨w.heap.size, 0, none⟩ = some (.int .i64 P) := Blk.cell srd_4.out 0
 have z_12 : (w_9).cell? ⟨w.heap.size, 1, none⟩ = some (.slice A n k) := Blk.cell srd_4.out 1
 go_wp2
 go_ret2
 replace bel_1 := bH (bH bel_1 hb_6) hb_10
 exact ⟨rfl, bel_1.out⟩
set_option maxRecDepth 100000 in
theorem rC_short (P : Int) (A : Option Addr) (n k : Nat) (l : List Bnd) (w : World) (hr : RdB w A n k l) (hn : n ≤ maxLen) (B : Option Addr) (m d : Nat) (x : List Int) (hx : RdI w B m d x) (hm : m ≤ 100) (hn4 : n ≤ 402) (HOK : Hid (OkB l)) (E0 : Hid (chk P l = 0)) (s : Int) (E1 : Hid (walkR l x [] [] 0 = (s, true))) (h2 : m < 2) :
 Calls Tryz.prog 64 #[.agg #[.int .i64 P, .slice A n k], .slice B m d] w fun e w' => e = .returned (.tuple #[.bool false, .int .i64 0]) ∧ Below w.heap.size w w' := by
 go_enter Tryz.func64, Tryz.ntmps64
 have bel_1 := Lib.hid (show Below w.heap.size w w from Below.refl _ w)
 have x_2 := Lib.hid (hx)
 clear hx
 have rd_3 := Lib.hid (hr)
 clear hr
 obtain ⟨o_, ho_⟩ : ∃ o, o = ((.cells #[.int .i64 P, .slice A n k] 46) : Obj) := ⟨_, rfl⟩
 replace bel_1 := bA bel_1 o_
 replace x_2 := iA x_2 o_
 replace rd_3 := rA rd_3 o_
 subst ho_
 have srd_4 := Lib.hid (Blk.new w 46 #[.int .i64 P, .slice A n k])
 have hc := rCheckSystem_any P A n k l _ rd_3.out hn
 rw [E0.out] at hc
 try dsimp only at hc
 have HC := Lib.hid hc; clear hc
 go_wp2_with fail
 refine HC.out.mono ?_
 rintro e w_5 ⟨rfl, hb⟩
 clear HC
 have hb_6 := Lib.hid hb
 clear hb
 replace srd_4 := kH srd_4 hb_6
 have z_7 : (w_5).cell? ⟨w.heap.size, 0, none⟩ = some (.int .i64 P) := Blk.cell srd_4.out 0
 have z_8 : (w_5).cell? ⟨w.heap.size, 1, none⟩ = some (.slice A n k) := Blk.cell srd_4.out 1
 replace rd_3 := rH rd_3 hb_6
 replace x_2 := iH x_2 hb_6
 have hc := rwalk_any P A B n k m d l x _ rd_3.out hn4 HOK.out x_2.out hm
 rw [E1.out] at hc
 try dsimp only at hc
 have HC := Lib.hid hc; clear hc
 go_wp2_with fail
 refine HC.out.mono ?_
 rintro e w_9 ⟨rfl, hb⟩
 clear HC
 clear z_7 z_8
 have hb_10 := Lib.hid hb
 clear hb
 replace srd_4 := kH srd_4 hb_10
 have z_11 : (w_9).cell? ⟨w.heap.size, 0, none⟩ = some (.int .i64 P) := Blk.cell srd_4.out 0
 have z_12 : (w_9).cell? ⟨w.heap.size, 1, none⟩ = some (.slice A n k) := Blk.cell srd_4.out 1
 go_wp2
 go_ret2
 replace bel_1 := bH (bH bel_1 hb_6) hb_10
 exact ⟨rfl, bel_1.out⟩
set_option maxRecDepth 100000 in
theorem rC_ok0 (P : Int) (A : Option Addr) (n k : Nat) (l : List Bnd) (w : World) (hr : RdB w A n k l) (hn : n ≤ maxLen) (B : Option Addr) (m d : Nat) (x : List Int) (hx : RdI w B (m + 1) d x) (hm : m + 1 ≤ 100) (hn4 : n ≤ 402) (HOK : Hid (OkB l)) (E0 : Hid (chk P l = 0)) (s : Int) (E1 : Hid (walkR l x [] [] 0 = (s, true))) (h2 : 1 ≤ m) (k0 k1 : Nat) (f0 t0 m0 i0 f1 t1 m1 i1 : Int) (hx0 : x[0]? = some (k0 : Int)) (hx1 : x[m]? = some (k1 : Int)) (hb0 : l[k0]? = some ⟨f0, t0, m0, i0⟩) (hb1 : l[k1]? = some ⟨f1, t1, m1, i1⟩) (hs : decide (s < 0) = false) :
 Calls Tryz.prog 64 #[.agg #[.int .i64 P, .slice A n k], .slice B (m + 1) d] w fun e w' => e = .returned (.tuple #[.bool false, .int .i64 0]) ∧ Below w.heap.size w w' := by
 obtain ⟨bx, ox, hBx⟩ := rdI_some hx hx0
 subst hBx
 obtain ⟨ba, oa, hA⟩ := rdB_some hr hb0
 subst hA
 have hk0 := (List.getElem?_eq_some_iff.1 hb0).1; have hk1 := (List.getElem?_eq_some_iff.1 hb1).1; have hln := hr.len; have hmx := hx.len; have hm0 := (List.getElem?_eq_some_iff.1 hx0).1; have hm1 := (List.getElem?_eq_some_iff.1 hx1).1
 have HX0 := Lib.hid hx0; have HX1 := Lib.hid hx1; have HB0 := Lib.hid hb0; have HB1 := Lib.hid hb1; clear hx0 hx1 hb0 hb1
 go_enter Tryz.func64, Tryz.ntmps64
 have bel_1 := Lib.hid (show Below w.heap.size w w from Below.refl _ w)
 have x_2 := Lib.hid (hx)
 clear hx
 have rd_3 := Lib.hid (hr)
 clear hr
 obtain ⟨o_, ho_⟩ : ∃ o, o = ((.cells #[.int .i64 P, .slice (some ⟨ba, oa, none⟩) n k] 46) : Obj) := ⟨_, rfl⟩
 replace bel_1 := bA bel_1 o_
 replace x_2 := iA x_2 o_
 replace rd_3 := rA rd_3 o_
 subst ho_
 have srd_4 := Lib.hid (Blk.new w 46 #[.int .i64 P, .slice (some ⟨ba, oa, none⟩) n k])
 have hc := rCheckSystem_any P (some ⟨ba, oa, none⟩) n k l _ rd_3.out hn
 rw [E0.out] at hc
 try dsimp only at hc
 have HC := Lib.hid hc; clear hc
 go_wp2_with fail
 refine HC.out.mono ?_
 rintro e w_5 ⟨rfl, hb⟩
 clear HC
 have hb_6 := Lib.hid hb
 clear hb
 replace srd_4 := kH srd_4 hb_6
 have z_7 : (w_5).cell? ⟨w.heap.size, 0, none⟩ = some (.int .i64 P) := Blk.cell srd_4.out 0
 have z_8 : (w_5).cell? ⟨w.heap.size, 1, none⟩ = some (.slice (some ⟨ba, oa, none⟩) n k) := Blk.cell srd_4.out 1
 replace rd_3 := rH rd_3 hb_6
 replace x_2 := iH x_2 hb_6
 have hc := rwalk_any P (some ⟨ba, oa, none⟩) (some ⟨bx, ox, none⟩) n k (m + 1) d l x _ rd_3.out hn4 HOK.out x_2.out hm
 rw [E1.out] at hc
 try dsimp only at hc
 have HC := Lib.hid hc; clear hc
 go_wp2_with fail
 refine HC.out.mono ?_
 rintro e w_9 ⟨rfl, hb⟩
 clear HC
 clear z_7 z_8
 have hb_10 := Lib.hid hb
 clear hb
 replace srd_4 := kH srd_4 hb_10
 have z_11 : (w_9).cell? ⟨w.heap.size, 0, none⟩ = some (.int .i64 P) := Blk.cell srd_4.out 0
 have z_12 : (w_9).cell? ⟨w.heap.size, 1, none⟩ = some (.slice (some ⟨ba, oa, none⟩) n k) := Blk.cell srd_4.out 1
 go_wp2_with fail
 replace rd_3 := rH rd_3 hb_10
 replace x_2 := iH x_2 hb_10
 obtain ⟨p0, p1, p2, p3, pl⟩ := rdB_at rd_3.out HB0.out; obtain ⟨r0, r1, r2, r3, rl⟩ := rdB_at rd_3.out HB1.out; obtain ⟨s0, sl⟩ := rdI_at x_2.out HX0.out; have s1 := (rdI_at x_2.out HX1.out).1
 clear p1 p2 p3 r0 r2 r3
 rw [Nat.add_zero] at s0
 go_quiet (fail)
 clear p0 r1 s0 s1
 replace bel_1 := bH (bH bel_1 hb_6) hb_10
 clear z_11 z_12
 have bel_13 := Lib.hid (bdrewN bel_1.out nq)
 clear bel_1
 have x_14 := Lib.hid (rdI_drewN x_2.out nq)
 clear x_2
 have rd_15 := Lib.hid (rdB_drewN rd_3.out nq)
 clear rd_3
 have srd_16 := Lib.hid (blk_drewN srd_4.out nq)
 clear srd_4
 have z_17 : ((World.drewN w_9 nq)).cell? ⟨w.heap.size, 0, none⟩ = some (.int .i64 P) := Blk.cell srd_16.out 0
 have z_18 : ((World.drewN w_9 nq)).cell? ⟨w.heap.size, 1, none⟩ = some (.slice (some ⟨ba, oa, none⟩) n k) := Blk.cell srd_16.out 1
 go_wp2
 go_ret2
 exact ⟨rfl, bel_13.out⟩
set_option maxRecDepth 100000 in
theorem rC_ok1 (P : Int) (A : Option Addr) (n k : Nat) (l : List Bnd) (w : World) (hr : RdB w A n k l) (hn : n ≤ maxLen) (B : Option Addr) (m d : Nat) (x : List Int) (hx : RdI w B (m + 1) d x) (hm : m + 1 ≤ 100) (hn4 : n ≤ 402) (HOK : Hid (OkB l)) (E0 : Hid (chk P l = 0)) (s : Int) (E1 : Hid (walkR l x [] [] 0 = (s, true))) (h2 : 1 ≤ m) (k0 k1 : Nat) (f0 t0 m0 i0 f1 t1 m1 i1 : Int) (hx0 : x[0]? = some (k0 : Int)) (hx1 : x[m]? = some (k1 : Int)) (hb0 : l[k0]? = some ⟨f0, t0, m0, i0⟩) (hb1 : l[k1]? = some ⟨f1, t1, m1, i1⟩) (hs : decide (s < 0) = true) (g1 : (f0 == t1) = false) (g2 : decide (f0 = t1) = false) (g3 : ¬ f0 = t1) :
 Calls Tryz.prog 64 #[.agg #[.int .i64 P, .slice A n k], .slice B (m + 1) d] w fun e w' => e = .returned (.tuple #[.bool false, .int .i64 0]) ∧ Below w.heap.size w w' := by
 obtain ⟨bx, ox, hBx⟩ := rdI_some hx hx0
 subst hBx
 obtain ⟨ba, oa, hA⟩ := rdB_some hr hb0
 subst hA
 have hk0 := (List.getElem?_eq_some_iff.1 hb0).1; have hk1 := (List.getElem?_eq_some_iff.1 hb1).1; have hln := hr.len; have hmx := hx.len; have hm0 := (List.getElem?_eq_some_iff.1 hx0).1; have hm1 := (List.getElem?_eq_some_iff.1 hx1).1
 have HX0 := Lib.hid hx0; have HX1 := Lib.hid hx1; have HB0 := Lib.hid hb0; have HB1 := Lib.hid hb1; clear hx0 hx1 hb0 hb1
 go_enter Tryz.func64, Tryz.ntmps64
 have bel_1 := Lib.hid (show Below w.heap.size w w from Below.refl _ w)
 have x_2 := Lib.hid (hx)
 clear hx
 have rd_3 := Lib.hid (hr)
 clear hr
 obtain ⟨o_, ho_⟩ : ∃ o, o = ((.cells #[.int .i64 P, .slice (some ⟨ba, oa, none⟩) n k] 46) : Obj) := ⟨_, rfl⟩
 replace bel_1 := bA bel_1 o_
 replace x_2 := iA x_2 o_
 replace rd_3 := rA rd_3 o_
 subst ho_
 have srd_4 := Lib.hid (Blk.new w 46 #[.int .i64 P, .slice (some ⟨ba, oa, none⟩) n k])
 have hc := rCheckSystem_any P (some ⟨ba, oa, none⟩) n k l _ rd_3.out hn
 rw [E0.out] at hc
 try dsimp only at hc
 have HC := Lib.hid hc; clear hc
 go_wp2_with fail
 refine HC.out.mono ?_
 rintro e w_5 ⟨rfl, hb⟩
 clear HC
 have hb_6 := Lib.hid hb
 clear hb
 replace srd_4 := kH srd_4 hb_6
 have z_7 : (w_5).cell? ⟨w.heap.size, 0, none⟩ = some (.int .i64 P) := Blk.cell srd_4.out 0
 have z_8 : (w_5).cell? ⟨w.heap.size, 1, none⟩ = some (.slice (some ⟨ba, oa, none⟩) n k) := Blk.cell srd_4.out 1
 replace rd_3 := rH rd_3 hb_6
 replace x_2 := iH x_2 hb_6
 have hc := rwalk_any P (some ⟨ba, oa, none⟩) (some ⟨bx, ox, none⟩) n k (m + 1) d l x _ rd_3.out hn4 HOK.out x_2.out hm
 rw [E1.out] at hc
 try dsimp only at hc
 have HC := Lib.hid hc; clear hc
 go_wp2_with fail
 refine HC.out.mono ?_
 rintro e w_9 ⟨rfl, hb⟩
 clear HC
 clear z_7 z_8
 have hb_10 := Lib.hid hb
 clear hb
 replace srd_4 := kH srd_4 hb_10
 have z_11 : (w_9).cell? ⟨w.heap.size, 0, none⟩ = some (.int .i64 P) := Blk.cell srd_4.out 0
 have z_12 : (w_9).cell? ⟨w.heap.size, 1, none⟩ = some (.slice (some ⟨ba, oa, none⟩) n k) := Blk.cell srd_4.out 1
 go_wp2_with fail
 replace rd_3 := rH rd_3 hb_10
 replace x_2 := iH x_2 hb_10
 obtain ⟨p0, p1, p2, p3, pl⟩ := rdB_at rd_3.out HB0.out; obtain ⟨r0, r1, r2, r3, rl⟩ := rdB_at rd_3.out HB1.out; obtain ⟨s0, sl⟩ := rdI_at x_2.out HX0.out; have s1 := (rdI_at x_2.out HX1.out).1
 clear p1 p2 p3 r0 r2 r3
 rw [Nat.add_zero] at s0
 go_quiet (fail)
 clear p0 r1 s0 s1
 replace bel_1 := bH (bH bel_1 hb_6) hb_10
 clear z_11 z_12
 have bel_13 := Lib.hid (bdrewN bel_1.out nq)
 clear bel_1
 have x_14 := Lib.hid (rdI_drewN x_2.out nq)
 clear x_2
 have rd_15 := Lib.hid (rdB_drewN rd_3.out nq)
 clear rd_3
 have srd_16 := Lib.hid (blk_drewN srd_4.out nq)
 clear srd_4
 have z_17 : ((World.drewN w_9 nq)).cell? ⟨w.heap.size, 0, none⟩ = some (.int .i64 P) := Blk.cell srd_16.out 0
 have z_18 : ((World.drewN w_9 nq)).cell? ⟨w.heap.size, 1, none⟩ = some (.slice (some ⟨ba, oa, none⟩) n k) := Blk.cell srd_16.out 1
 go_wp2
 go_ret2
 exact ⟨rfl, bel_13.out⟩
set_option maxRecDepth 100000 in
theorem rC_ok2 (P : Int) (A : Option Addr) (n k : Nat) (l : List Bnd) (w : World) (hr : RdB w A n k l) (hn : n ≤ maxLen) (B : Option Addr) (m d : Nat) (x : List Int) (hx : RdI w B (m + 1) d x) (hm : m + 1 ≤ 100) (hn4 : n ≤ 402) (HOK : Hid (OkB l)) (E0 : Hid (chk P l = 0)) (s : Int) (E1 : Hid (walkR l x [] [] 0 = (s, true))) (h2 : 1 ≤ m) (k0 k1 : Nat) (f0 t0 m0 i0 f1 m1 i1 : Int) (hx0 : x[0]? = some (k0 : Int)) (hx1 : x[m]? = some (k1 : Int)) (hb0 : l[k0]? = some ⟨f0, t0, m0, i0⟩) (hb1 : l[k1]? = some ⟨f1, f0, m1, i1⟩) (hs : decide (s < 0) = true) :
 Calls Tryz.prog 64 #[.agg #[.int .i64 P, .slice A n k], .slice B (m + 1) d] w fun e w' => e = .returned (.tuple #[.bool true, .int .i64 0]) ∧ Below w.heap.size w w' := by
 obtain ⟨bx, ox, hBx⟩ := rdI_some hx hx0
 subst hBx
 obtain ⟨ba, oa, hA⟩ := rdB_some hr hb0
 subst hA
 have hk0 := (List.getElem?_eq_some_iff.1 hb0).1; have hk1 := (List.getElem?_eq_some_iff.1 hb1).1; have hln := hr.len; have hmx := hx.len; have hm0 := (List.getElem?_eq_some_iff.1 hx0).1; have hm1 := (List.getElem?_eq_some_iff.1 hx1).1
 have HX0 := Lib.hid hx0; have HX1 := Lib.hid hx1; have HB0 := Lib.hid hb0; have HB1 := Lib.hid hb1; clear hx0 hx1 hb0 hb1
 go_enter Tryz.func64, Tryz.ntmps64
 have bel_1 := Lib.hid (show Below w.heap.size w w from Below.refl _ w)
 have x_2 := Lib.hid (hx)
 clear hx
 have rd_3 := Lib.hid (hr)
 clear hr
 obtain ⟨o_, ho_⟩ : ∃ o, o = ((.cells #[.int .i64 P, .slice (some ⟨ba, oa, none⟩) n k] 46) : Obj) := ⟨_, rfl⟩
 replace bel_1 := bA bel_1 o_
 replace x_2 := iA x_2 o_
 replace rd_3 := rA rd_3 o_
 subst ho_
 have srd_4 := Lib.hid (Blk.new w 46 #[.int .i64 P, .slice (some ⟨ba, oa, none⟩) n k])
 have hc := rCheckSystem_any P (some ⟨ba, oa, none⟩) n k l _ rd_3.out hn
 rw [E0.out] at hc
 try dsimp only at hc
 have HC := Lib.hid hc; clear hc
 go_wp2_with fail
 refine HC.out.mono ?_
 rintro e w_5 ⟨rfl, hb⟩
 clear HC
 have hb_6 := Lib.hid hb
 clear hb
 replace srd_4 := kH srd_4 hb_6
 have z_7 : (w_5).cell? ⟨w.heap.size, 0, none⟩ = some (.int .i64 P) := Blk.cell srd_4.out 0
 have z_8 : (w_5).cell? ⟨w.heap.size, 1, none⟩ = some (.slice (some ⟨ba, oa, none⟩) n k) := Blk.cell srd_4.out 1
 replace rd_3 := rH rd_3 hb_6
 replace x_2 := iH x_2 hb_6
 have hc := rwalk_any P (some ⟨ba, oa, none⟩) (some ⟨bx, ox, none⟩) n k (m + 1) d l x _ rd_3.out hn4 HOK.out x_2.out hm
 rw [E1.out] at hc
 try dsimp only at hc
 have HC := Lib.hid hc; clear hc
 go_wp2_with fail
 refine HC.out.mono ?_
 rintro e w_9 ⟨rfl, hb⟩
 clear HC
 clear z_7 z_8
 have hb_10 := Lib.hid hb
 clear hb
 replace srd_4 := kH srd_4 hb_10
 have z_11 : (w_9).cell? ⟨w.heap.size, 0, none⟩ = some (.int .i64 P) := Blk.cell srd_4.out 0
 have z_12 : (w_9).cell? ⟨w.heap.size, 1, none⟩ = some (.slice (some ⟨ba, oa, none⟩) n k) := Blk.cell srd_4.out 1
 go_wp2_with fail
 replace rd_3 := rH rd_3 hb_10
 replace x_2 := iH x_2 hb_10
 obtain ⟨p0, p1, p2, p3, pl⟩ := rdB_at rd_3.out HB0.out; obtain ⟨r0, r1, r2, r3, rl⟩ := rdB_at rd_3.out HB1.out; obtain ⟨s0, sl⟩ := rdI_at x_2.out HX0.out; have s1 := (rdI_at x_2.out HX1.out).1
 clear p1 p2 p3 r0 r2 r3
 rw [Nat.add_zero] at s0
 go_quiet (fail)
 clear p0 r1 s0 s1
 replace bel_1 := bH (bH bel_1 hb_6) hb_10
 clear z_11 z_12
 have bel_13 := Lib.hid (bdrewN bel_1.out nq)
 clear bel_1
 have x_14 := Lib.hid (rdI_drewN x_2.out nq)
 clear x_2
 have rd_15 := Lib.hid (rdB_drewN rd_3.out nq)
 clear rd_3
 have srd_16 := Lib.hid (blk_drewN srd_4.out nq)
 clear srd_4
 have z_17 : ((World.drewN w_9 nq)).cell? ⟨w.heap.size, 0, none⟩ = some (.int .i64 P) := Blk.cell srd_16.out 0
 have z_18 : ((World.drewN w_9 nq)).cell? ⟨w.heap.size, 1, none⟩ = some (.slice (some ⟨ba, oa, none⟩) n k) := Blk.cell srd_16.out 1
 go_wp2
 go_ret2
 exact ⟨rfl, bel_13.out⟩
end Go.Proofs.YtaoanagmgheicaaGreat
