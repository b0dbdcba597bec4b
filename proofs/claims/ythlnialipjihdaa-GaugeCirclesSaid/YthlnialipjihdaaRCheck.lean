/- The reference's CheckCircle and CheckPath. -/
import Derived.Test.YthlnialipjihdaaRCheckM
import Derived.Test.YthlnialipjihdaaREnds
set_option linter.unusedSimpArgs false
set_option linter.unusedVariables false
namespace Go.Proofs.Ythlnialipjihdaa
open Go.RowKit

theorem walk_idx {l : List Bnd} (hok : OkB l) {x : List Int} {s : Int} (h : walkR l x [] [] 0 = (s, true)) : ∀ i ∈ x, ∃ k b, i = Int.ofNat k ∧ l[k]? = some b := by
  rw [walkR_eq hok] at h
  by_cases hc : (chainV l x).2 = true ∧ (toL l x).Nodup
  · rw [if_pos hc] at h
    exact chainG_ok h
  · rw [if_neg hc] at h; injection h with _ h; cases h
theorem walk_no {l : List Bnd} (hok : OkB l) {x : List Int} (h : (walkR l x [] [] 0).2 = false) : walkR l x [] [] 0 = (0, false) := by
  rw [walkR_eq hok] at h ⊢
  by_cases hc : (chainV l x).2 = true ∧ (toL l x).Nodup
  · rw [if_pos hc] at h; rw [hc.1] at h; cases h
  · rw [if_neg hc]

theorem walkR_nil (l : List Bnd) : walkR l [] [] [] 0 = (0, true) := rfl

set_option maxRecDepth 100000 in
set_option maxHeartbeats 4000000 in
theorem rC_err (P : Int) (A : Option Addr) (n k : Nat) (l : List Bnd) (w : World) (hr : RdB w A n k l) (hn : n ≤ maxLen) (B : Option Addr) (m d : Nat) (x : List Int) (hx : RdI w B m d x) (hm : m ≤ 100) (q : Int) (hq : (q != 0) = true) (E0 : Hid (chk P l = q)) :
    Calls Try.prog 29 #[.agg #[.int .i64 P, .slice A n k], .slice B m d] w fun e w' => e = .returned (.tuple #[.bool false, .int .i64 q]) ∧ Below w.heap.size w w' := by
  go_enter Try.func29, Try.ntmps29
  have bel_1 := Lib.hid (show Below w.heap.size w w from Below.refl _ w)
  have x_2 := Lib.hid (hx)
  clear hx
  have rd_3 := Lib.hid (hr)
  clear hr
  have bel_4 := Lib.hid (Below.alloc bel_1.out (bel_1.out.size) (.cells #[.int .i64 P, .slice A n k] 24))
  clear bel_1
  have x_5 := Lib.hid (RdI.alloc x_2.out (.cells #[.int .i64 P, .slice A n k] 24))
  clear x_2
  have rd_6 := Lib.hid (RdB.alloc rd_3.out (.cells #[.int .i64 P, .slice A n k] 24))
  clear rd_3
  have srd_7 := Lib.hid (Blk.new w 24 #[.int .i64 P, .slice A n k])
  have hc := rCheckSystem_any P A n k l _ rd_6.out hn
  rw [E0.out] at hc
  try dsimp only at hc
  have HC := Lib.hid hc; clear hc
  go_wp2_with fail
  refine HC.out.mono ?_
  rintro e w_8 ⟨rfl, hb⟩
  clear HC
  have bel_9 := Lib.hid (Below.trans bel_4.out (Below.mono hb (bel_4.out.size)))
  clear bel_4
  have x_10 := Lib.hid (RdI.below x_5.out hb)
  clear x_5
  have rd_11 := Lib.hid (RdB.below rd_6.out hb)
  clear rd_6
  have srd_12 := Lib.hid (Blk.keep srd_7.out hb)
  clear srd_7
  clear hb
  have z_13 : (w_8).cell? ⟨w.heap.size, 0, none⟩ = some (.int .i64 P) := Blk.cell srd_12.out 0
  have z_14 : (w_8).cell? ⟨w.heap.size, 1, none⟩ = some (.slice A n k) := Blk.cell srd_12.out 1
  go_wp2
  go_ret2
  exact ⟨rfl, bel_9.out⟩

set_option maxRecDepth 100000 in
set_option maxHeartbeats 4000000 in
theorem rC_no (P : Int) (A : Option Addr) (n k : Nat) (l : List Bnd) (w : World) (hr : RdB w A n k l) (hn : n ≤ maxLen) (B : Option Addr) (m d : Nat) (x : List Int) (hx : RdI w B m d x) (hm : m ≤ 100) (hn4 : n ≤ 402) (HOK : Hid (OkB l)) (E0 : Hid (chk P l = 0)) (E1 : Hid (walkR l x [] [] 0 = (0, false))) :
    Calls Try.prog 29 #[.agg #[.int .i64 P, .slice A n k], .slice B m d] w fun e w' => e = .returned (.tuple #[.bool false, .int .i64 0]) ∧ Below w.heap.size w w' := by
  go_enter Try.func29, Try.ntmps29
  have bel_1 := Lib.hid (show Below w.heap.size w w from Below.refl _ w)
  have x_2 := Lib.hid (hx)
  clear hx
  have rd_3 := Lib.hid (hr)
  clear hr
  have bel_4 := Lib.hid (Below.alloc bel_1.out (bel_1.out.size) (.cells #[.int .i64 P, .slice A n k] 24))
  clear bel_1
  have x_5 := Lib.hid (RdI.alloc x_2.out (.cells #[.int .i64 P, .slice A n k] 24))
  clear x_2
  have rd_6 := Lib.hid (RdB.alloc rd_3.out (.cells #[.int .i64 P, .slice A n k] 24))
  clear rd_3
  have srd_7 := Lib.hid (Blk.new w 24 #[.int .i64 P, .slice A n k])
  have hc := rCheckSystem_any P A n k l _ rd_6.out hn
  rw [E0.out] at hc
  try dsimp only at hc
  have HC := Lib.hid hc; clear hc
  go_wp2_with fail
  refine HC.out.mono ?_
  rintro e w_8 ⟨rfl, hb⟩
  clear HC
  have bel_9 := Lib.hid (Below.trans bel_4.out (Below.mono hb (bel_4.out.size)))
  clear bel_4
  have x_10 := Lib.hid (RdI.below x_5.out hb)
  clear x_5
  have rd_11 := Lib.hid (RdB.below rd_6.out hb)
  clear rd_6
  have srd_12 := Lib.hid (Blk.keep srd_7.out hb)
  clear srd_7
  clear hb
  have z_13 : (w_8).cell? ⟨w.heap.size, 0, none⟩ = some (.int .i64 P) := Blk.cell srd_12.out 0
  have z_14 : (w_8).cell? ⟨w.heap.size, 1, none⟩ = some (.slice A n k) := Blk.cell srd_12.out 1
  have hc := rwalk_any P A B n k m d l x _ rd_11.out hn4 HOK.out x_10.out hm
  rw [E1.out] at hc
  try dsimp only at hc
  have HC := Lib.hid hc; clear hc
  go_wp2_with fail
  refine HC.out.mono ?_
  rintro e w_15 ⟨rfl, hb⟩
  clear HC
  clear z_13 z_14
  have bel_16 := Lib.hid (Below.trans bel_9.out (Below.mono hb (bel_9.out.size)))
  clear bel_9
  have x_17 := Lib.hid (RdI.below x_10.out hb)
  clear x_10
  have rd_18 := Lib.hid (RdB.below rd_11.out hb)
  clear rd_11
  have srd_19 := Lib.hid (Blk.keep srd_12.out hb)
  clear srd_12
  clear hb
  have z_20 : (w_15).cell? ⟨w.heap.size, 0, none⟩ = some (.int .i64 P) := Blk.cell srd_19.out 0
  have z_21 : (w_15).cell? ⟨w.heap.size, 1, none⟩ = some (.slice A n k) := Blk.cell srd_19.out 1
  go_wp2
  go_ret2
  exact ⟨rfl, bel_16.out⟩

set_option maxRecDepth 100000 in
set_option maxHeartbeats 4000000 in
theorem rC_short (P : Int) (A : Option Addr) (n k : Nat) (l : List Bnd) (w : World) (hr : RdB w A n k l) (hn : n ≤ maxLen) (B : Option Addr) (m d : Nat) (x : List Int) (hx : RdI w B m d x) (hm : m ≤ 100) (hn4 : n ≤ 402) (HOK : Hid (OkB l)) (E0 : Hid (chk P l = 0)) (s : Int) (E1 : Hid (walkR l x [] [] 0 = (s, true))) (h2 : m < 2) :
    Calls Try.prog 29 #[.agg #[.int .i64 P, .slice A n k], .slice B m d] w fun e w' => e = .returned (.tuple #[.bool false, .int .i64 0]) ∧ Below w.heap.size w w' := by
  go_enter Try.func29, Try.ntmps29
  have bel_1 := Lib.hid (show Below w.heap.size w w from Below.refl _ w)
  have x_2 := Lib.hid (hx)
  clear hx
  have rd_3 := Lib.hid (hr)
  clear hr
  have bel_4 := Lib.hid (Below.alloc bel_1.out (bel_1.out.size) (.cells #[.int .i64 P, .slice A n k] 24))
  clear bel_1
  have x_5 := Lib.hid (RdI.alloc x_2.out (.cells #[.int .i64 P, .slice A n k] 24))
  clear x_2
  have rd_6 := Lib.hid (RdB.alloc rd_3.out (.cells #[.int .i64 P, .slice A n k] 24))
  clear rd_3
  have srd_7 := Lib.hid (Blk.new w 24 #[.int .i64 P, .slice A n k])
  have hc := rCheckSystem_any P A n k l _ rd_6.out hn
  rw [E0.out] at hc
  try dsimp only at hc
  have HC := Lib.hid hc; clear hc
  go_wp2_with fail
  refine HC.out.mono ?_
  rintro e w_8 ⟨rfl, hb⟩
  clear HC
  have bel_9 := Lib.hid (Below.trans bel_4.out (Below.mono hb (bel_4.out.size)))
  clear bel_4
  have x_10 := Lib.hid (RdI.below x_5.out hb)
  clear x_5
  have rd_11 := Lib.hid (RdB.below rd_6.out hb)
  clear rd_6
  have srd_12 := Lib.hid (Blk.keep srd_7.out hb)
  clear srd_7
  clear hb
  have z_13 : (w_8).cell? ⟨w.heap.size, 0, none⟩ = some (.int .i64 P) := Blk.cell srd_12.out 0
  have z_14 : (w_8).cell? ⟨w.heap.size, 1, none⟩ = some (.slice A n k) := Blk.cell srd_12.out 1
  have hc := rwalk_any P A B n k m d l x _ rd_11.out hn4 HOK.out x_10.out hm
  rw [E1.out] at hc
  try dsimp only at hc
  have HC := Lib.hid hc; clear hc
  go_wp2_with fail
  refine HC.out.mono ?_
  rintro e w_15 ⟨rfl, hb⟩
  clear HC
  clear z_13 z_14
  have bel_16 := Lib.hid (Below.trans bel_9.out (Below.mono hb (bel_9.out.size)))
  clear bel_9
  have x_17 := Lib.hid (RdI.below x_10.out hb)
  clear x_10
  have rd_18 := Lib.hid (RdB.below rd_11.out hb)
  clear rd_11
  have srd_19 := Lib.hid (Blk.keep srd_12.out hb)
  clear srd_12
  clear hb
  have z_20 : (w_15).cell? ⟨w.heap.size, 0, none⟩ = some (.int .i64 P) := Blk.cell srd_19.out 0
  have z_21 : (w_15).cell? ⟨w.heap.size, 1, none⟩ = some (.slice A n k) := Blk.cell srd_19.out 1
  go_wp2
  go_ret2
  exact ⟨rfl, bel_16.out⟩

set_option maxRecDepth 100000 in
set_option maxHeartbeats 4000000 in
theorem rC_ok0 (P : Int) (A : Option Addr) (n k : Nat) (l : List Bnd) (w : World) (hr : RdB w A n k l) (hn : n ≤ maxLen) (B : Option Addr) (m d : Nat) (x : List Int) (hx : RdI w B (m + 1) d x) (hm : m + 1 ≤ 100) (hn4 : n ≤ 402) (HOK : Hid (OkB l)) (E0 : Hid (chk P l = 0)) (s : Int) (E1 : Hid (walkR l x [] [] 0 = (s, true))) (h2 : 1 ≤ m) (k0 k1 : Nat) (f0 t0 m0 i0 f1 t1 m1 i1 : Int) (hx0 : x[0]? = some (k0 : Int)) (hx1 : x[m]? = some (k1 : Int)) (hb0 : l[k0]? = some ⟨f0, t0, m0, i0⟩) (hb1 : l[k1]? = some ⟨f1, t1, m1, i1⟩) (hs : decide (s < 0) = false) :
    Calls Try.prog 29 #[.agg #[.int .i64 P, .slice A n k], .slice B (m + 1) d] w fun e w' => e = .returned (.tuple #[.bool false, .int .i64 0]) ∧ Below w.heap.size w w' := by
  obtain ⟨bx, ox, hBx⟩ := rdI_some hx hx0
  subst hBx
  obtain ⟨ba, oa, hA⟩ := rdB_some hr hb0
  subst hA
  have hk0 := (List.getElem?_eq_some_iff.1 hb0).1; have hk1 := (List.getElem?_eq_some_iff.1 hb1).1; have hln := hr.len; have hmx := hx.len; have hm0 := (List.getElem?_eq_some_iff.1 hx0).1; have hm1 := (List.getElem?_eq_some_iff.1 hx1).1
  have HX0 := Lib.hid hx0; have HX1 := Lib.hid hx1; have HB0 := Lib.hid hb0; have HB1 := Lib.hid hb1; clear hx0 hx1 hb0 hb1
  go_enter Try.func29, Try.ntmps29
  have bel_1 := Lib.hid (show Below w.heap.size w w from Below.refl _ w)
  have x_2 := Lib.hid (hx)
  clear hx
  have rd_3 := Lib.hid (hr)
  clear hr
  have bel_4 := Lib.hid (Below.alloc bel_1.out (bel_1.out.size) (.cells #[.int .i64 P, .slice (some ⟨ba, oa, none⟩) n k] 24))
  clear bel_1
  have x_5 := Lib.hid (RdI.alloc x_2.out (.cells #[.int .i64 P, .slice (some ⟨ba, oa, none⟩) n k] 24))
  clear x_2
  have rd_6 := Lib.hid (RdB.alloc rd_3.out (.cells #[.int .i64 P, .slice (some ⟨ba, oa, none⟩) n k] 24))
  clear rd_3
  have srd_7 := Lib.hid (Blk.new w 24 #[.int .i64 P, .slice (some ⟨ba, oa, none⟩) n k])
  have hc := rCheckSystem_any P (some ⟨ba, oa, none⟩) n k l _ rd_6.out hn
  rw [E0.out] at hc
  try dsimp only at hc
  have HC := Lib.hid hc; clear hc
  go_wp2_with fail
  refine HC.out.mono ?_
  rintro e w_8 ⟨rfl, hb⟩
  clear HC
  have bel_9 := Lib.hid (Below.trans bel_4.out (Below.mono hb (bel_4.out.size)))
  clear bel_4
  have x_10 := Lib.hid (RdI.below x_5.out hb)
  clear x_5
  have rd_11 := Lib.hid (RdB.below rd_6.out hb)
  clear rd_6
  have srd_12 := Lib.hid (Blk.keep srd_7.out hb)
  clear srd_7
  clear hb
  have z_13 : (w_8).cell? ⟨w.heap.size, 0, none⟩ = some (.int .i64 P) := Blk.cell srd_12.out 0
  have z_14 : (w_8).cell? ⟨w.heap.size, 1, none⟩ = some (.slice (some ⟨ba, oa, none⟩) n k) := Blk.cell srd_12.out 1
  have hc := rwalk_any P (some ⟨ba, oa, none⟩) (some ⟨bx, ox, none⟩) n k (m + 1) d l x _ rd_11.out hn4 HOK.out x_10.out hm
  rw [E1.out] at hc
  try dsimp only at hc
  have HC := Lib.hid hc; clear hc
  go_wp2_with fail
  refine HC.out.mono ?_
  rintro e w_15 ⟨rfl, hb⟩
  clear HC
  clear z_13 z_14
  have bel_16 := Lib.hid (Below.trans bel_9.out (Below.mono hb (bel_9.out.size)))
  clear bel_9
  have x_17 := Lib.hid (RdI.below x_10.out hb)
  clear x_10
  have rd_18 := Lib.hid (RdB.below rd_11.out hb)
  clear rd_11
  have srd_19 := Lib.hid (Blk.keep srd_12.out hb)
  clear srd_12
  clear hb
  have z_20 : (w_15).cell? ⟨w.heap.size, 0, none⟩ = some (.int .i64 P) := Blk.cell srd_19.out 0
  have z_21 : (w_15).cell? ⟨w.heap.size, 1, none⟩ = some (.slice (some ⟨ba, oa, none⟩) n k) := Blk.cell srd_19.out 1
  go_wp2_with fail
  obtain ⟨p0, p1, p2, p3, pl⟩ := rdB_at rd_18.out HB0.out; obtain ⟨r0, r1, r2, r3, rl⟩ := rdB_at rd_18.out HB1.out; obtain ⟨s0, sl⟩ := rdI_at x_17.out HX0.out; have s1 := (rdI_at x_17.out HX1.out).1
  clear p1 p2 p3 r0 r2 r3
  rw [Nat.add_zero] at s0
  go_quiet (fail)
  clear p0 r1 s0 s1
  clear z_20 z_21
  have bel_22 := Lib.hid (bdrewN bel_16.out nq)
  clear bel_16
  have x_23 := Lib.hid (rdI_drewN x_17.out nq)
  clear x_17
  have rd_24 := Lib.hid (rdB_drewN rd_18.out nq)
  clear rd_18
  have srd_25 := Lib.hid (blk_drewN srd_19.out nq)
  clear srd_19
  have z_26 : ((World.drewN w_15 nq)).cell? ⟨w.heap.size, 0, none⟩ = some (.int .i64 P) := Blk.cell srd_25.out 0
  have z_27 : ((World.drewN w_15 nq)).cell? ⟨w.heap.size, 1, none⟩ = some (.slice (some ⟨ba, oa, none⟩) n k) := Blk.cell srd_25.out 1
  go_wp2
  go_ret2
  exact ⟨rfl, bel_22.out⟩

set_option maxRecDepth 100000 in
set_option maxHeartbeats 4000000 in
theorem rC_ok1 (P : Int) (A : Option Addr) (n k : Nat) (l : List Bnd) (w : World) (hr : RdB w A n k l) (hn : n ≤ maxLen) (B : Option Addr) (m d : Nat) (x : List Int) (hx : RdI w B (m + 1) d x) (hm : m + 1 ≤ 100) (hn4 : n ≤ 402) (HOK : Hid (OkB l)) (E0 : Hid (chk P l = 0)) (s : Int) (E1 : Hid (walkR l x [] [] 0 = (s, true))) (h2 : 1 ≤ m) (k0 k1 : Nat) (f0 t0 m0 i0 f1 t1 m1 i1 : Int) (hx0 : x[0]? = some (k0 : Int)) (hx1 : x[m]? = some (k1 : Int)) (hb0 : l[k0]? = some ⟨f0, t0, m0, i0⟩) (hb1 : l[k1]? = some ⟨f1, t1, m1, i1⟩) (hs : decide (s < 0) = true) (g1 : (f0 == t1) = false) (g2 : decide (f0 = t1) = false) (g3 : ¬ f0 = t1) :
    Calls Try.prog 29 #[.agg #[.int .i64 P, .slice A n k], .slice B (m + 1) d] w fun e w' => e = .returned (.tuple #[.bool false, .int .i64 0]) ∧ Below w.heap.size w w' := by
  obtain ⟨bx, ox, hBx⟩ := rdI_some hx hx0
  subst hBx
  obtain ⟨ba, oa, hA⟩ := rdB_some hr hb0
  subst hA
  have hk0 := (List.getElem?_eq_some_iff.1 hb0).1; have hk1 := (List.getElem?_eq_some_iff.1 hb1).1; have hln := hr.len; have hmx := hx.len; have hm0 := (List.getElem?_eq_some_iff.1 hx0).1; have hm1 := (List.getElem?_eq_some_iff.1 hx1).1
  have HX0 := Lib.hid hx0; have HX1 := Lib.hid hx1; have HB0 := Lib.hid hb0; have HB1 := Lib.hid hb1; clear hx0 hx1 hb0 hb1
  go_enter Try.func29, Try.ntmps29
  have bel_1 := Lib.hid (show Below w.heap.size w w from Below.refl _ w)
  have x_2 := Lib.hid (hx)
  clear hx
  have rd_3 := Lib.hid (hr)
  clear hr
  have bel_4 := Lib.hid (Below.alloc bel_1.out (bel_1.out.size) (.cells #[.int .i64 P, .slice (some ⟨ba, oa, none⟩) n k] 24))
  clear bel_1
  have x_5 := Lib.hid (RdI.alloc x_2.out (.cells #[.int .i64 P, .slice (some ⟨ba, oa, none⟩) n k] 24))
  clear x_2
  have rd_6 := Lib.hid (RdB.alloc rd_3.out (.cells #[.int .i64 P, .slice (some ⟨ba, oa, none⟩) n k] 24))
  clear rd_3
  have srd_7 := Lib.hid (Blk.new w 24 #[.int .i64 P, .slice (some ⟨ba, oa, none⟩) n k])
  have hc := rCheckSystem_any P (some ⟨ba, oa, none⟩) n k l _ rd_6.out hn
  rw [E0.out] at hc
  try dsimp only at hc
  have HC := Lib.hid hc; clear hc
  go_wp2_with fail
  refine HC.out.mono ?_
  rintro e w_8 ⟨rfl, hb⟩
  clear HC
  have bel_9 := Lib.hid (Below.trans bel_4.out (Below.mono hb (bel_4.out.size)))
  clear bel_4
  have x_10 := Lib.hid (RdI.below x_5.out hb)
  clear x_5
  have rd_11 := Lib.hid (RdB.below rd_6.out hb)
  clear rd_6
  have srd_12 := Lib.hid (Blk.keep srd_7.out hb)
  clear srd_7
  clear hb
  have z_13 : (w_8).cell? ⟨w.heap.size, 0, none⟩ = some (.int .i64 P) := Blk.cell srd_12.out 0
  have z_14 : (w_8).cell? ⟨w.heap.size, 1, none⟩ = some (.slice (some ⟨ba, oa, none⟩) n k) := Blk.cell srd_12.out 1
  have hc := rwalk_any P (some ⟨ba, oa, none⟩) (some ⟨bx, ox, none⟩) n k (m + 1) d l x _ rd_11.out hn4 HOK.out x_10.out hm
  rw [E1.out] at hc
  try dsimp only at hc
  have HC := Lib.hid hc; clear hc
  go_wp2_with fail
  refine HC.out.mono ?_
  rintro e w_15 ⟨rfl, hb⟩
  clear HC
  clear z_13 z_14
  have bel_16 := Lib.hid (Below.trans bel_9.out (Below.mono hb (bel_9.out.size)))
  clear bel_9
  have x_17 := Lib.hid (RdI.below x_10.out hb)
  clear x_10
  have rd_18 := Lib.hid (RdB.below rd_11.out hb)
  clear rd_11
  have srd_19 := Lib.hid (Blk.keep srd_12.out hb)
  clear srd_12
  clear hb
  have z_20 : (w_15).cell? ⟨w.heap.size, 0, none⟩ = some (.int .i64 P) := Blk.cell srd_19.out 0
  have z_21 : (w_15).cell? ⟨w.heap.size, 1, none⟩ = some (.slice (some ⟨ba, oa, none⟩) n k) := Blk.cell srd_19.out 1
  go_wp2_with fail
  obtain ⟨p0, p1, p2, p3, pl⟩ := rdB_at rd_18.out HB0.out; obtain ⟨r0, r1, r2, r3, rl⟩ := rdB_at rd_18.out HB1.out; obtain ⟨s0, sl⟩ := rdI_at x_17.out HX0.out; have s1 := (rdI_at x_17.out HX1.out).1
  clear p1 p2 p3 r0 r2 r3
  rw [Nat.add_zero] at s0
  go_quiet (fail)
  clear p0 r1 s0 s1
  clear z_20 z_21
  have bel_22 := Lib.hid (bdrewN bel_16.out nq)
  clear bel_16
  have x_23 := Lib.hid (rdI_drewN x_17.out nq)
  clear x_17
  have rd_24 := Lib.hid (rdB_drewN rd_18.out nq)
  clear rd_18
  have srd_25 := Lib.hid (blk_drewN srd_19.out nq)
  clear srd_19
  have z_26 : ((World.drewN w_15 nq)).cell? ⟨w.heap.size, 0, none⟩ = some (.int .i64 P) := Blk.cell srd_25.out 0
  have z_27 : ((World.drewN w_15 nq)).cell? ⟨w.heap.size, 1, none⟩ = some (.slice (some ⟨ba, oa, none⟩) n k) := Blk.cell srd_25.out 1
  go_wp2
  go_ret2
  exact ⟨rfl, bel_22.out⟩

set_option maxRecDepth 100000 in
set_option maxHeartbeats 4000000 in
theorem rC_ok2 (P : Int) (A : Option Addr) (n k : Nat) (l : List Bnd) (w : World) (hr : RdB w A n k l) (hn : n ≤ maxLen) (B : Option Addr) (m d : Nat) (x : List Int) (hx : RdI w B (m + 1) d x) (hm : m + 1 ≤ 100) (hn4 : n ≤ 402) (HOK : Hid (OkB l)) (E0 : Hid (chk P l = 0)) (s : Int) (E1 : Hid (walkR l x [] [] 0 = (s, true))) (h2 : 1 ≤ m) (k0 k1 : Nat) (f0 t0 m0 i0 f1 m1 i1 : Int) (hx0 : x[0]? = some (k0 : Int)) (hx1 : x[m]? = some (k1 : Int)) (hb0 : l[k0]? = some ⟨f0, t0, m0, i0⟩) (hb1 : l[k1]? = some ⟨f1, f0, m1, i1⟩) (hs : decide (s < 0) = true) :
    Calls Try.prog 29 #[.agg #[.int .i64 P, .slice A n k], .slice B (m + 1) d] w fun e w' => e = .returned (.tuple #[.bool true, .int .i64 0]) ∧ Below w.heap.size w w' := by
  obtain ⟨bx, ox, hBx⟩ := rdI_some hx hx0
  subst hBx
  obtain ⟨ba, oa, hA⟩ := rdB_some hr hb0
  subst hA
  have hk0 := (List.getElem?_eq_some_iff.1 hb0).1; have hk1 := (List.getElem?_eq_some_iff.1 hb1).1; have hln := hr.len; have hmx := hx.len; have hm0 := (List.getElem?_eq_some_iff.1 hx0).1; have hm1 := (List.getElem?_eq_some_iff.1 hx1).1
  have HX0 := Lib.hid hx0; have HX1 := Lib.hid hx1; have HB0 := Lib.hid hb0; have HB1 := Lib.hid hb1; clear hx0 hx1 hb0 hb1
  go_enter Try.func29, Try.ntmps29
  have bel_1 := Lib.hid (show Below w.heap.size w w from Below.refl _ w)
  have x_2 := Lib.hid (hx)
  clear hx
  have rd_3 := Lib.hid (hr)
  clear hr
  have bel_4 := Lib.hid (Below.alloc bel_1.out (bel_1.out.size) (.cells #[.int .i64 P, .slice (some ⟨ba, oa, none⟩) n k] 24))
  clear bel_1
  have x_5 := Lib.hid (RdI.alloc x_2.out (.cells #[.int .i64 P, .slice (some ⟨ba, oa, none⟩) n k] 24))
  clear x_2
  have rd_6 := Lib.hid (RdB.alloc rd_3.out (.cells #[.int .i64 P, .slice (some ⟨ba, oa, none⟩) n k] 24))
  clear rd_3
  have srd_7 := Lib.hid (Blk.new w 24 #[.int .i64 P, .slice (some ⟨ba, oa, none⟩) n k])
  have hc := rCheckSystem_any P (some ⟨ba, oa, none⟩) n k l _ rd_6.out hn
  rw [E0.out] at hc
  try dsimp only at hc
  have HC := Lib.hid hc; clear hc
  go_wp2_with fail
  refine HC.out.mono ?_
  rintro e w_8 ⟨rfl, hb⟩
  clear HC
  have bel_9 := Lib.hid (Below.trans bel_4.out (Below.mono hb (bel_4.out.size)))
  clear bel_4
  have x_10 := Lib.hid (RdI.below x_5.out hb)
  clear x_5
  have rd_11 := Lib.hid (RdB.below rd_6.out hb)
  clear rd_6
  have srd_12 := Lib.hid (Blk.keep srd_7.out hb)
  clear srd_7
  clear hb
  have z_13 : (w_8).cell? ⟨w.heap.size, 0, none⟩ = some (.int .i64 P) := Blk.cell srd_12.out 0
  have z_14 : (w_8).cell? ⟨w.heap.size, 1, none⟩ = some (.slice (some ⟨ba, oa, none⟩) n k) := Blk.cell srd_12.out 1
  have hc := rwalk_any P (some ⟨ba, oa, none⟩) (some ⟨bx, ox, none⟩) n k (m + 1) d l x _ rd_11.out hn4 HOK.out x_10.out hm
  rw [E1.out] at hc
  try dsimp only at hc
  have HC := Lib.hid hc; clear hc
  go_wp2_with fail
  refine HC.out.mono ?_
  rintro e w_15 ⟨rfl, hb⟩
  clear HC
  clear z_13 z_14
  have bel_16 := Lib.hid (Below.trans bel_9.out (Below.mono hb (bel_9.out.size)))
  clear bel_9
  have x_17 := Lib.hid (RdI.below x_10.out hb)
  clear x_10
  have rd_18 := Lib.hid (RdB.below rd_11.out hb)
  clear rd_11
  have srd_19 := Lib.hid (Blk.keep srd_12.out hb)
  clear srd_12
  clear hb
  have z_20 : (w_15).cell? ⟨w.heap.size, 0, none⟩ = some (.int .i64 P) := Blk.cell srd_19.out 0
  have z_21 : (w_15).cell? ⟨w.heap.size, 1, none⟩ = some (.slice (some ⟨ba, oa, none⟩) n k) := Blk.cell srd_19.out 1
  go_wp2_with fail
  obtain ⟨p0, p1, p2, p3, pl⟩ := rdB_at rd_18.out HB0.out; obtain ⟨r0, r1, r2, r3, rl⟩ := rdB_at rd_18.out HB1.out; obtain ⟨s0, sl⟩ := rdI_at x_17.out HX0.out; have s1 := (rdI_at x_17.out HX1.out).1
  clear p1 p2 p3 r0 r2 r3
  rw [Nat.add_zero] at s0
  go_quiet (fail)
  clear p0 r1 s0 s1
  clear z_20 z_21
  have bel_22 := Lib.hid (bdrewN bel_16.out nq)
  clear bel_16
  have x_23 := Lib.hid (rdI_drewN x_17.out nq)
  clear x_17
  have rd_24 := Lib.hid (rdB_drewN rd_18.out nq)
  clear rd_18
  have srd_25 := Lib.hid (blk_drewN srd_19.out nq)
  clear srd_19
  have z_26 : ((World.drewN w_15 nq)).cell? ⟨w.heap.size, 0, none⟩ = some (.int .i64 P) := Blk.cell srd_25.out 0
  have z_27 : ((World.drewN w_15 nq)).cell? ⟨w.heap.size, 1, none⟩ = some (.slice (some ⟨ba, oa, none⟩) n k) := Blk.cell srd_25.out 1
  go_wp2
  go_ret2
  exact ⟨rfl, bel_22.out⟩

set_option maxRecDepth 100000 in
set_option maxHeartbeats 4000000 in
theorem rP_err (P a b N : Int) (A : Option Addr) (n k : Nat) (l : List Bnd) (w : World) (hr : RdB w A n k l) (hn : n ≤ maxLen) (B : Option Addr) (m d : Nat) (x : List Int) (hx : RdI w B m d x) (hm : m ≤ 100) (q : Int) (hq : (q != 0) = true) (E0 : Hid (gcode P l [a, b] = q)) :
    Calls Try.prog 39 #[.agg #[.int .i64 P, .slice A n k], .int .i64 a, .int .i64 b, .int .i64 N, .slice B m d] w fun e w' => e = .returned (.tuple #[.bool false, .int .i64 q]) ∧ Below w.heap.size w w' := by
  go_enter Try.func39, Try.ntmps39
  have bel_1 := Lib.hid (show Below w.heap.size w w from Below.refl _ w)
  have x_2 := Lib.hid (hx)
  clear hx
  have rd_3 := Lib.hid (hr)
  clear hr
  have bel_4 := Lib.hid (Below.alloc bel_1.out (bel_1.out.size) (.cells #[.int .i64 P, .slice A n k] 24))
  clear bel_1
  have x_5 := Lib.hid (RdI.alloc x_2.out (.cells #[.int .i64 P, .slice A n k] 24))
  clear x_2
  have rd_6 := Lib.hid (RdB.alloc rd_3.out (.cells #[.int .i64 P, .slice A n k] 24))
  clear rd_3
  have srd_7 := Lib.hid (Blk.new w 24 #[.int .i64 P, .slice A n k])
  have hc := asked_any P a b A n k l _ rd_6.out hn
  rw [E0.out] at hc
  try dsimp only at hc
  have HC := Lib.hid hc; clear hc
  go_wp2_with fail
  refine HC.out.mono ?_
  rintro e w_8 ⟨rfl, hb⟩
  clear HC
  have bel_9 := Lib.hid (Below.trans bel_4.out (Below.mono hb (bel_4.out.size)))
  clear bel_4
  have x_10 := Lib.hid (RdI.below x_5.out hb)
  clear x_5
  have rd_11 := Lib.hid (RdB.below rd_6.out hb)
  clear rd_6
  have srd_12 := Lib.hid (Blk.keep srd_7.out hb)
  clear srd_7
  clear hb
  have z_13 : (w_8).cell? ⟨w.heap.size, 0, none⟩ = some (.int .i64 P) := Blk.cell srd_12.out 0
  have z_14 : (w_8).cell? ⟨w.heap.size, 1, none⟩ = some (.slice A n k) := Blk.cell srd_12.out 1
  go_wp2
  go_ret2
  exact ⟨rfl, bel_9.out⟩

set_option maxRecDepth 100000 in
set_option maxHeartbeats 4000000 in
theorem rP_nil (P a N : Int) (A : Option Addr) (n k : Nat) (l : List Bnd) (w : World) (hr : RdB w A n k l) (hn : n ≤ maxLen) (B : Option Addr) (d : Nat) (hx : RdI w B 0 d []) (hn4 : n ≤ 402) (HOK : Hid (OkB l)) (E0 : Hid (gcode P l [a, a] = 0)) (t : Bool) (hN : decide (0 ≤ N) = t) :
    Calls Try.prog 39 #[.agg #[.int .i64 P, .slice A n k], .int .i64 a, .int .i64 a, .int .i64 N, .slice B 0 d] w fun e w' => e = .returned (.tuple #[.bool t, .int .i64 0]) ∧ Below w.heap.size w w' := by
  go_enter Try.func39, Try.ntmps39
  have bel_1 := Lib.hid (show Below w.heap.size w w from Below.refl _ w)
  have x_2 := Lib.hid (hx)
  clear hx
  have rd_3 := Lib.hid (hr)
  clear hr
  have bel_4 := Lib.hid (Below.alloc bel_1.out (bel_1.out.size) (.cells #[.int .i64 P, .slice A n k] 24))
  clear bel_1
  have x_5 := Lib.hid (RdI.alloc x_2.out (.cells #[.int .i64 P, .slice A n k] 24))
  clear x_2
  have rd_6 := Lib.hid (RdB.alloc rd_3.out (.cells #[.int .i64 P, .slice A n k] 24))
  clear rd_3
  have srd_7 := Lib.hid (Blk.new w 24 #[.int .i64 P, .slice A n k])
  have hc := asked_any P a a A n k l _ rd_6.out hn
  rw [E0.out] at hc
  try dsimp only at hc
  have HC := Lib.hid hc; clear hc
  go_wp2_with fail
  refine HC.out.mono ?_
  rintro e w_8 ⟨rfl, hb⟩
  clear HC
  have bel_9 := Lib.hid (Below.trans bel_4.out (Below.mono hb (bel_4.out.size)))
  clear bel_4
  have x_10 := Lib.hid (RdI.below x_5.out hb)
  clear x_5
  have rd_11 := Lib.hid (RdB.below rd_6.out hb)
  clear rd_6
  have srd_12 := Lib.hid (Blk.keep srd_7.out hb)
  clear srd_7
  clear hb
  have z_13 : (w_8).cell? ⟨w.heap.size, 0, none⟩ = some (.int .i64 P) := Blk.cell srd_12.out 0
  have z_14 : (w_8).cell? ⟨w.heap.size, 1, none⟩ = some (.slice A n k) := Blk.cell srd_12.out 1
  have hc := rwalk_any P A B n k 0 d l [] _ rd_11.out hn4 HOK.out x_10.out (by omega)
  rw [walkR_nil l] at hc
  try dsimp only at hc
  have HC := Lib.hid hc; clear hc
  go_wp2_with fail
  refine HC.out.mono ?_
  rintro e w_15 ⟨rfl, hb⟩
  clear HC
  clear z_13 z_14
  have bel_16 := Lib.hid (Below.trans bel_9.out (Below.mono hb (bel_9.out.size)))
  clear bel_9
  have x_17 := Lib.hid (RdI.below x_10.out hb)
  clear x_10
  have rd_18 := Lib.hid (RdB.below rd_11.out hb)
  clear rd_11
  have srd_19 := Lib.hid (Blk.keep srd_12.out hb)
  clear srd_12
  clear hb
  have z_20 : (w_15).cell? ⟨w.heap.size, 0, none⟩ = some (.int .i64 P) := Blk.cell srd_19.out 0
  have z_21 : (w_15).cell? ⟨w.heap.size, 1, none⟩ = some (.slice A n k) := Blk.cell srd_19.out 1
  go_wp2
  go_ret2
  exact ⟨rfl, bel_16.out⟩

set_option maxRecDepth 100000 in
set_option maxHeartbeats 4000000 in
theorem rP_self (P a N : Int) (A : Option Addr) (n k : Nat) (l : List Bnd) (w : World) (hr : RdB w A n k l) (hn : n ≤ maxLen) (B : Option Addr) (m d : Nat) (x : List Int) (hx : RdI w B m d x) (hm : m ≤ 100) (hn4 : n ≤ 402) (HOK : Hid (OkB l)) (E0 : Hid (gcode P l [a, a] = 0)) (s : Int) (t : Bool) (E1 : Hid (walkR l x [] [] 0 = (s, t))) (h2 : 0 < m) :
    Calls Try.prog 39 #[.agg #[.int .i64 P, .slice A n k], .int .i64 a, .int .i64 a, .int .i64 N, .slice B m d] w fun e w' => e = .returned (.tuple #[.bool false, .int .i64 0]) ∧ Below w.heap.size w w' := by
  go_enter Try.func39, Try.ntmps39
  have bel_1 := Lib.hid (show Below w.heap.size w w from Below.refl _ w)
  have x_2 := Lib.hid (hx)
  clear hx
  have rd_3 := Lib.hid (hr)
  clear hr
  have bel_4 := Lib.hid (Below.alloc bel_1.out (bel_1.out.size) (.cells #[.int .i64 P, .slice A n k] 24))
  clear bel_1
  have x_5 := Lib.hid (RdI.alloc x_2.out (.cells #[.int .i64 P, .slice A n k] 24))
  clear x_2
  have rd_6 := Lib.hid (RdB.alloc rd_3.out (.cells #[.int .i64 P, .slice A n k] 24))
  clear rd_3
  have srd_7 := Lib.hid (Blk.new w 24 #[.int .i64 P, .slice A n k])
  have hc := asked_any P a a A n k l _ rd_6.out hn
  rw [E0.out] at hc
  try dsimp only at hc
  have HC := Lib.hid hc; clear hc
  go_wp2_with fail
  refine HC.out.mono ?_
  rintro e w_8 ⟨rfl, hb⟩
  clear HC
  have bel_9 := Lib.hid (Below.trans bel_4.out (Below.mono hb (bel_4.out.size)))
  clear bel_4
  have x_10 := Lib.hid (RdI.below x_5.out hb)
  clear x_5
  have rd_11 := Lib.hid (RdB.below rd_6.out hb)
  clear rd_6
  have srd_12 := Lib.hid (Blk.keep srd_7.out hb)
  clear srd_7
  clear hb
  have z_13 : (w_8).cell? ⟨w.heap.size, 0, none⟩ = some (.int .i64 P) := Blk.cell srd_12.out 0
  have z_14 : (w_8).cell? ⟨w.heap.size, 1, none⟩ = some (.slice A n k) := Blk.cell srd_12.out 1
  have hc := rwalk_any P A B n k m d l x _ rd_11.out hn4 HOK.out x_10.out hm
  rw [E1.out] at hc
  try dsimp only at hc
  have HC := Lib.hid hc; clear hc
  go_wp2_with fail
  refine HC.out.mono ?_
  rintro e w_15 ⟨rfl, hb⟩
  clear HC
  clear z_13 z_14
  have bel_16 := Lib.hid (Below.trans bel_9.out (Below.mono hb (bel_9.out.size)))
  clear bel_9
  have x_17 := Lib.hid (RdI.below x_10.out hb)
  clear x_10
  have rd_18 := Lib.hid (RdB.below rd_11.out hb)
  clear rd_11
  have srd_19 := Lib.hid (Blk.keep srd_12.out hb)
  clear srd_12
  clear hb
  have z_20 : (w_15).cell? ⟨w.heap.size, 0, none⟩ = some (.int .i64 P) := Blk.cell srd_19.out 0
  have z_21 : (w_15).cell? ⟨w.heap.size, 1, none⟩ = some (.slice A n k) := Blk.cell srd_19.out 1
  go_wp2
  go_ret2
  exact ⟨rfl, bel_16.out⟩

set_option maxRecDepth 100000 in
set_option maxHeartbeats 4000000 in
theorem rP_nilb (P a b N : Int) (A : Option Addr) (n k : Nat) (l : List Bnd) (w : World) (hr : RdB w A n k l) (hn : n ≤ maxLen) (B : Option Addr) (d : Nat) (hx : RdI w B 0 d []) (hn4 : n ≤ 402) (HOK : Hid (OkB l)) (E0 : Hid (gcode P l [a, b] = 0)) (g1 : (a == b) = false) (g2 : decide (a = b) = false) (g3 : ¬ a = b) :
    Calls Try.prog 39 #[.agg #[.int .i64 P, .slice A n k], .int .i64 a, .int .i64 b, .int .i64 N, .slice B 0 d] w fun e w' => e = .returned (.tuple #[.bool false, .int .i64 0]) ∧ Below w.heap.size w w' := by
  go_enter Try.func39, Try.ntmps39
  have bel_1 := Lib.hid (show Below w.heap.size w w from Below.refl _ w)
  have x_2 := Lib.hid (hx)
  clear hx
  have rd_3 := Lib.hid (hr)
  clear hr
  have bel_4 := Lib.hid (Below.alloc bel_1.out (bel_1.out.size) (.cells #[.int .i64 P, .slice A n k] 24))
  clear bel_1
  have x_5 := Lib.hid (RdI.alloc x_2.out (.cells #[.int .i64 P, .slice A n k] 24))
  clear x_2
  have rd_6 := Lib.hid (RdB.alloc rd_3.out (.cells #[.int .i64 P, .slice A n k] 24))
  clear rd_3
  have srd_7 := Lib.hid (Blk.new w 24 #[.int .i64 P, .slice A n k])
  have hc := asked_any P a b A n k l _ rd_6.out hn
  rw [E0.out] at hc
  try dsimp only at hc
  have HC := Lib.hid hc; clear hc
  go_wp2_with fail
  refine HC.out.mono ?_
  rintro e w_8 ⟨rfl, hb⟩
  clear HC
  have bel_9 := Lib.hid (Below.trans bel_4.out (Below.mono hb (bel_4.out.size)))
  clear bel_4
  have x_10 := Lib.hid (RdI.below x_5.out hb)
  clear x_5
  have rd_11 := Lib.hid (RdB.below rd_6.out hb)
  clear rd_6
  have srd_12 := Lib.hid (Blk.keep srd_7.out hb)
  clear srd_7
  clear hb
  have z_13 : (w_8).cell? ⟨w.heap.size, 0, none⟩ = some (.int .i64 P) := Blk.cell srd_12.out 0
  have z_14 : (w_8).cell? ⟨w.heap.size, 1, none⟩ = some (.slice A n k) := Blk.cell srd_12.out 1
  have hc := rwalk_any P A B n k 0 d l [] _ rd_11.out hn4 HOK.out x_10.out (by omega)
  rw [walkR_nil l] at hc
  try dsimp only at hc
  have HC := Lib.hid hc; clear hc
  go_wp2_with fail
  refine HC.out.mono ?_
  rintro e w_15 ⟨rfl, hb⟩
  clear HC
  clear z_13 z_14
  have bel_16 := Lib.hid (Below.trans bel_9.out (Below.mono hb (bel_9.out.size)))
  clear bel_9
  have x_17 := Lib.hid (RdI.below x_10.out hb)
  clear x_10
  have rd_18 := Lib.hid (RdB.below rd_11.out hb)
  clear rd_11
  have srd_19 := Lib.hid (Blk.keep srd_12.out hb)
  clear srd_12
  clear hb
  have z_20 : (w_15).cell? ⟨w.heap.size, 0, none⟩ = some (.int .i64 P) := Blk.cell srd_19.out 0
  have z_21 : (w_15).cell? ⟨w.heap.size, 1, none⟩ = some (.slice A n k) := Blk.cell srd_19.out 1
  go_wp2
  go_ret2
  exact ⟨rfl, bel_16.out⟩

set_option maxRecDepth 100000 in
set_option maxHeartbeats 4000000 in
theorem rP_no (P a b N : Int) (A : Option Addr) (n k : Nat) (l : List Bnd) (w : World) (hr : RdB w A n k l) (hn : n ≤ maxLen) (B : Option Addr) (m d : Nat) (x : List Int) (hx : RdI w B m d x) (hm : m ≤ 100) (hn4 : n ≤ 402) (HOK : Hid (OkB l)) (g1 : (a == b) = false) (g2 : decide (a = b) = false) (g3 : ¬ a = b) (h2 : 0 < m) (E0 : Hid (gcode P l [a, b] = 0)) (s : Int) (E1 : Hid (walkR l x [] [] 0 = (s, false))) :
    Calls Try.prog 39 #[.agg #[.int .i64 P, .slice A n k], .int .i64 a, .int .i64 b, .int .i64 N, .slice B m d] w fun e w' => e = .returned (.tuple #[.bool false, .int .i64 0]) ∧ Below w.heap.size w w' := by
  go_enter Try.func39, Try.ntmps39
  have bel_1 := Lib.hid (show Below w.heap.size w w from Below.refl _ w)
  have x_2 := Lib.hid (hx)
  clear hx
  have rd_3 := Lib.hid (hr)
  clear hr
  have bel_4 := Lib.hid (Below.alloc bel_1.out (bel_1.out.size) (.cells #[.int .i64 P, .slice A n k] 24))
  clear bel_1
  have x_5 := Lib.hid (RdI.alloc x_2.out (.cells #[.int .i64 P, .slice A n k] 24))
  clear x_2
  have rd_6 := Lib.hid (RdB.alloc rd_3.out (.cells #[.int .i64 P, .slice A n k] 24))
  clear rd_3
  have srd_7 := Lib.hid (Blk.new w 24 #[.int .i64 P, .slice A n k])
  have hc := asked_any P a b A n k l _ rd_6.out hn
  rw [E0.out] at hc
  try dsimp only at hc
  have HC := Lib.hid hc; clear hc
  go_wp2_with fail
  refine HC.out.mono ?_
  rintro e w_8 ⟨rfl, hb⟩
  clear HC
  have bel_9 := Lib.hid (Below.trans bel_4.out (Below.mono hb (bel_4.out.size)))
  clear bel_4
  have x_10 := Lib.hid (RdI.below x_5.out hb)
  clear x_5
  have rd_11 := Lib.hid (RdB.below rd_6.out hb)
  clear rd_6
  have srd_12 := Lib.hid (Blk.keep srd_7.out hb)
  clear srd_7
  clear hb
  have z_13 : (w_8).cell? ⟨w.heap.size, 0, none⟩ = some (.int .i64 P) := Blk.cell srd_12.out 0
  have z_14 : (w_8).cell? ⟨w.heap.size, 1, none⟩ = some (.slice A n k) := Blk.cell srd_12.out 1
  have hc := rwalk_any P A B n k m d l x _ rd_11.out hn4 HOK.out x_10.out hm
  rw [E1.out] at hc
  try dsimp only at hc
  have HC := Lib.hid hc; clear hc
  go_wp2_with fail
  refine HC.out.mono ?_
  rintro e w_15 ⟨rfl, hb⟩
  clear HC
  clear z_13 z_14
  have bel_16 := Lib.hid (Below.trans bel_9.out (Below.mono hb (bel_9.out.size)))
  clear bel_9
  have x_17 := Lib.hid (RdI.below x_10.out hb)
  clear x_10
  have rd_18 := Lib.hid (RdB.below rd_11.out hb)
  clear rd_11
  have srd_19 := Lib.hid (Blk.keep srd_12.out hb)
  clear srd_12
  clear hb
  have z_20 : (w_15).cell? ⟨w.heap.size, 0, none⟩ = some (.int .i64 P) := Blk.cell srd_19.out 0
  have z_21 : (w_15).cell? ⟨w.heap.size, 1, none⟩ = some (.slice A n k) := Blk.cell srd_19.out 1
  go_wp2
  go_ret2
  exact ⟨rfl, bel_16.out⟩

set_option maxRecDepth 100000 in
set_option maxHeartbeats 4000000 in
theorem rP_ok0 (P a b N : Int) (A : Option Addr) (n k : Nat) (l : List Bnd) (w : World) (hr : RdB w A n k l) (hn : n ≤ maxLen) (B : Option Addr) (m d : Nat) (x : List Int) (hx : RdI w B (m + 1) d x) (hm : m + 1 ≤ 100) (hn4 : n ≤ 402) (HOK : Hid (OkB l)) (g1 : (a == b) = false) (g2 : decide (a = b) = false) (g3 : ¬ a = b) (E0 : Hid (gcode P l [a, b] = 0)) (s : Int) (E1 : Hid (walkR l x [] [] 0 = (s, true))) (k0 k1 : Nat) (f0 t0 m0 i0 f1 t1 m1 i1 : Int) (hx0 : x[0]? = some (k0 : Int)) (hx1 : x[m]? = some (k1 : Int)) (hb0 : l[k0]? = some ⟨f0, t0, m0, i0⟩) (hb1 : l[k1]? = some ⟨f1, t1, m1, i1⟩) (hs : decide (s ≤ N) = false) :
    Calls Try.prog 39 #[.agg #[.int .i64 P, .slice A n k], .int .i64 a, .int .i64 b, .int .i64 N, .slice B (m + 1) d] w fun e w' => e = .returned (.tuple #[.bool false, .int .i64 0]) ∧ Below w.heap.size w w' := by
  obtain ⟨bx, ox, hBx⟩ := rdI_some hx hx0
  subst hBx
  obtain ⟨ba, oa, hA⟩ := rdB_some hr hb0
  subst hA
  have hk0 := (List.getElem?_eq_some_iff.1 hb0).1; have hk1 := (List.getElem?_eq_some_iff.1 hb1).1; have hln := hr.len; have hmx := hx.len; have hm0 := (List.getElem?_eq_some_iff.1 hx0).1; have hm1 := (List.getElem?_eq_some_iff.1 hx1).1
  have HX0 := Lib.hid hx0; have HX1 := Lib.hid hx1; have HB0 := Lib.hid hb0; have HB1 := Lib.hid hb1; clear hx0 hx1 hb0 hb1
  go_enter Try.func39, Try.ntmps39
  have bel_1 := Lib.hid (show Below w.heap.size w w from Below.refl _ w)
  have x_2 := Lib.hid (hx)
  clear hx
  have rd_3 := Lib.hid (hr)
  clear hr
  have bel_4 := Lib.hid (Below.alloc bel_1.out (bel_1.out.size) (.cells #[.int .i64 P, .slice (some ⟨ba, oa, none⟩) n k] 24))
  clear bel_1
  have x_5 := Lib.hid (RdI.alloc x_2.out (.cells #[.int .i64 P, .slice (some ⟨ba, oa, none⟩) n k] 24))
  clear x_2
  have rd_6 := Lib.hid (RdB.alloc rd_3.out (.cells #[.int .i64 P, .slice (some ⟨ba, oa, none⟩) n k] 24))
  clear rd_3
  have srd_7 := Lib.hid (Blk.new w 24 #[.int .i64 P, .slice (some ⟨ba, oa, none⟩) n k])
  have hc := asked_any P a b (some ⟨ba, oa, none⟩) n k l _ rd_6.out hn
  rw [E0.out] at hc
  try dsimp only at hc
  have HC := Lib.hid hc; clear hc
  go_wp2_with fail
  refine HC.out.mono ?_
  rintro e w_8 ⟨rfl, hb⟩
  clear HC
  have bel_9 := Lib.hid (Below.trans bel_4.out (Below.mono hb (bel_4.out.size)))
  clear bel_4
  have x_10 := Lib.hid (RdI.below x_5.out hb)
  clear x_5
  have rd_11 := Lib.hid (RdB.below rd_6.out hb)
  clear rd_6
  have srd_12 := Lib.hid (Blk.keep srd_7.out hb)
  clear srd_7
  clear hb
  have z_13 : (w_8).cell? ⟨w.heap.size, 0, none⟩ = some (.int .i64 P) := Blk.cell srd_12.out 0
  have z_14 : (w_8).cell? ⟨w.heap.size, 1, none⟩ = some (.slice (some ⟨ba, oa, none⟩) n k) := Blk.cell srd_12.out 1
  have hc := rwalk_any P (some ⟨ba, oa, none⟩) (some ⟨bx, ox, none⟩) n k (m + 1) d l x _ rd_11.out hn4 HOK.out x_10.out hm
  rw [E1.out] at hc
  try dsimp only at hc
  have HC := Lib.hid hc; clear hc
  go_wp2_with fail
  refine HC.out.mono ?_
  rintro e w_15 ⟨rfl, hb⟩
  clear HC
  clear z_13 z_14
  have bel_16 := Lib.hid (Below.trans bel_9.out (Below.mono hb (bel_9.out.size)))
  clear bel_9
  have x_17 := Lib.hid (RdI.below x_10.out hb)
  clear x_10
  have rd_18 := Lib.hid (RdB.below rd_11.out hb)
  clear rd_11
  have srd_19 := Lib.hid (Blk.keep srd_12.out hb)
  clear srd_12
  clear hb
  have z_20 : (w_15).cell? ⟨w.heap.size, 0, none⟩ = some (.int .i64 P) := Blk.cell srd_19.out 0
  have z_21 : (w_15).cell? ⟨w.heap.size, 1, none⟩ = some (.slice (some ⟨ba, oa, none⟩) n k) := Blk.cell srd_19.out 1
  go_wp2_with fail
  obtain ⟨p0, p1, p2, p3, pl⟩ := rdB_at rd_18.out HB0.out; obtain ⟨r0, r1, r2, r3, rl⟩ := rdB_at rd_18.out HB1.out; obtain ⟨s0, sl⟩ := rdI_at x_17.out HX0.out; have s1 := (rdI_at x_17.out HX1.out).1
  clear p1 p2 p3 r0 r2 r3
  rw [Nat.add_zero] at s0
  go_quiet (fail)
  clear p0 r1 s0 s1
  clear z_20 z_21
  have bel_22 := Lib.hid (bdrewN bel_16.out nq)
  clear bel_16
  have x_23 := Lib.hid (rdI_drewN x_17.out nq)
  clear x_17
  have rd_24 := Lib.hid (rdB_drewN rd_18.out nq)
  clear rd_18
  have srd_25 := Lib.hid (blk_drewN srd_19.out nq)
  clear srd_19
  have z_26 : ((World.drewN w_15 nq)).cell? ⟨w.heap.size, 0, none⟩ = some (.int .i64 P) := Blk.cell srd_25.out 0
  have z_27 : ((World.drewN w_15 nq)).cell? ⟨w.heap.size, 1, none⟩ = some (.slice (some ⟨ba, oa, none⟩) n k) := Blk.cell srd_25.out 1
  go_wp2
  go_ret2
  exact ⟨rfl, bel_22.out⟩

set_option maxRecDepth 100000 in
set_option maxHeartbeats 4000000 in
theorem rP_ok1 (P a b N : Int) (A : Option Addr) (n k : Nat) (l : List Bnd) (w : World) (hr : RdB w A n k l) (hn : n ≤ maxLen) (B : Option Addr) (m d : Nat) (x : List Int) (hx : RdI w B (m + 1) d x) (hm : m + 1 ≤ 100) (hn4 : n ≤ 402) (HOK : Hid (OkB l)) (g1 : (a == b) = false) (g2 : decide (a = b) = false) (g3 : ¬ a = b) (E0 : Hid (gcode P l [a, b] = 0)) (s : Int) (E1 : Hid (walkR l x [] [] 0 = (s, true))) (k0 k1 : Nat) (f0 t0 m0 i0 f1 t1 m1 i1 : Int) (hx0 : x[0]? = some (k0 : Int)) (hx1 : x[m]? = some (k1 : Int)) (hb0 : l[k0]? = some ⟨f0, t0, m0, i0⟩) (hb1 : l[k1]? = some ⟨f1, t1, m1, i1⟩) (hs : decide (s ≤ N) = true) (e1 : (f0 == a) = false) (e2 : decide (f0 = a) = false) (e3 : ¬ f0 = a) :
    Calls Try.prog 39 #[.agg #[.int .i64 P, .slice A n k], .int .i64 a, .int .i64 b, .int .i64 N, .slice B (m + 1) d] w fun e w' => e = .returned (.tuple #[.bool false, .int .i64 0]) ∧ Below w.heap.size w w' := by
  obtain ⟨bx, ox, hBx⟩ := rdI_some hx hx0
  subst hBx
  obtain ⟨ba, oa, hA⟩ := rdB_some hr hb0
  subst hA
  have hk0 := (List.getElem?_eq_some_iff.1 hb0).1; have hk1 := (List.getElem?_eq_some_iff.1 hb1).1; have hln := hr.len; have hmx := hx.len; have hm0 := (List.getElem?_eq_some_iff.1 hx0).1; have hm1 := (List.getElem?_eq_some_iff.1 hx1).1
  have HX0 := Lib.hid hx0; have HX1 := Lib.hid hx1; have HB0 := Lib.hid hb0; have HB1 := Lib.hid hb1; clear hx0 hx1 hb0 hb1
  go_enter Try.func39, Try.ntmps39
  have bel_1 := Lib.hid (show Below w.heap.size w w from Below.refl _ w)
  have x_2 := Lib.hid (hx)
  clear hx
  have rd_3 := Lib.hid (hr)
  clear hr
  have bel_4 := Lib.hid (Below.alloc bel_1.out (bel_1.out.size) (.cells #[.int .i64 P, .slice (some ⟨ba, oa, none⟩) n k] 24))
  clear bel_1
  have x_5 := Lib.hid (RdI.alloc x_2.out (.cells #[.int .i64 P, .slice (some ⟨ba, oa, none⟩) n k] 24))
  clear x_2
  have rd_6 := Lib.hid (RdB.alloc rd_3.out (.cells #[.int .i64 P, .slice (some ⟨ba, oa, none⟩) n k] 24))
  clear rd_3
  have srd_7 := Lib.hid (Blk.new w 24 #[.int .i64 P, .slice (some ⟨ba, oa, none⟩) n k])
  have hc := asked_any P a b (some ⟨ba, oa, none⟩) n k l _ rd_6.out hn
  rw [E0.out] at hc
  try dsimp only at hc
  have HC := Lib.hid hc; clear hc
  go_wp2_with fail
  refine HC.out.mono ?_
  rintro e w_8 ⟨rfl, hb⟩
  clear HC
  have bel_9 := Lib.hid (Below.trans bel_4.out (Below.mono hb (bel_4.out.size)))
  clear bel_4
  have x_10 := Lib.hid (RdI.below x_5.out hb)
  clear x_5
  have rd_11 := Lib.hid (RdB.below rd_6.out hb)
  clear rd_6
  have srd_12 := Lib.hid (Blk.keep srd_7.out hb)
  clear srd_7
  clear hb
  have z_13 : (w_8).cell? ⟨w.heap.size, 0, none⟩ = some (.int .i64 P) := Blk.cell srd_12.out 0
  have z_14 : (w_8).cell? ⟨w.heap.size, 1, none⟩ = some (.slice (some ⟨ba, oa, none⟩) n k) := Blk.cell srd_12.out 1
  have hc := rwalk_any P (some ⟨ba, oa, none⟩) (some ⟨bx, ox, none⟩) n k (m + 1) d l x _ rd_11.out hn4 HOK.out x_10.out hm
  rw [E1.out] at hc
  try dsimp only at hc
  have HC := Lib.hid hc; clear hc
  go_wp2_with fail
  refine HC.out.mono ?_
  rintro e w_15 ⟨rfl, hb⟩
  clear HC
  clear z_13 z_14
  have bel_16 := Lib.hid (Below.trans bel_9.out (Below.mono hb (bel_9.out.size)))
  clear bel_9
  have x_17 := Lib.hid (RdI.below x_10.out hb)
  clear x_10
  have rd_18 := Lib.hid (RdB.below rd_11.out hb)
  clear rd_11
  have srd_19 := Lib.hid (Blk.keep srd_12.out hb)
  clear srd_12
  clear hb
  have z_20 : (w_15).cell? ⟨w.heap.size, 0, none⟩ = some (.int .i64 P) := Blk.cell srd_19.out 0
  have z_21 : (w_15).cell? ⟨w.heap.size, 1, none⟩ = some (.slice (some ⟨ba, oa, none⟩) n k) := Blk.cell srd_19.out 1
  go_wp2_with fail
  obtain ⟨p0, p1, p2, p3, pl⟩ := rdB_at rd_18.out HB0.out; obtain ⟨r0, r1, r2, r3, rl⟩ := rdB_at rd_18.out HB1.out; obtain ⟨s0, sl⟩ := rdI_at x_17.out HX0.out; have s1 := (rdI_at x_17.out HX1.out).1
  clear p1 p2 p3 r0 r2 r3
  rw [Nat.add_zero] at s0
  go_quiet (fail)
  clear p0 r1 s0 s1
  clear z_20 z_21
  have bel_22 := Lib.hid (bdrewN bel_16.out nq)
  clear bel_16
  have x_23 := Lib.hid (rdI_drewN x_17.out nq)
  clear x_17
  have rd_24 := Lib.hid (rdB_drewN rd_18.out nq)
  clear rd_18
  have srd_25 := Lib.hid (blk_drewN srd_19.out nq)
  clear srd_19
  have z_26 : ((World.drewN w_15 nq)).cell? ⟨w.heap.size, 0, none⟩ = some (.int .i64 P) := Blk.cell srd_25.out 0
  have z_27 : ((World.drewN w_15 nq)).cell? ⟨w.heap.size, 1, none⟩ = some (.slice (some ⟨ba, oa, none⟩) n k) := Blk.cell srd_25.out 1
  go_wp2
  go_ret2
  exact ⟨rfl, bel_22.out⟩

set_option maxRecDepth 100000 in
set_option maxHeartbeats 4000000 in
theorem rP_ok2 (P a b N : Int) (A : Option Addr) (n k : Nat) (l : List Bnd) (w : World) (hr : RdB w A n k l) (hn : n ≤ maxLen) (B : Option Addr) (m d : Nat) (x : List Int) (hx : RdI w B (m + 1) d x) (hm : m + 1 ≤ 100) (hn4 : n ≤ 402) (HOK : Hid (OkB l)) (g1 : (a == b) = false) (g2 : decide (a = b) = false) (g3 : ¬ a = b) (E0 : Hid (gcode P l [a, b] = 0)) (s : Int) (E1 : Hid (walkR l x [] [] 0 = (s, true))) (k0 k1 : Nat) (t0 m0 i0 f1 t1 m1 i1 : Int) (hx0 : x[0]? = some (k0 : Int)) (hx1 : x[m]? = some (k1 : Int)) (hb0 : l[k0]? = some ⟨a, t0, m0, i0⟩) (hb1 : l[k1]? = some ⟨f1, t1, m1, i1⟩) (hs : decide (s ≤ N) = true) (e1 : (t1 == b) = false) (e2 : decide (t1 = b) = false) (e3 : ¬ t1 = b) :
    Calls Try.prog 39 #[.agg #[.int .i64 P, .slice A n k], .int .i64 a, .int .i64 b, .int .i64 N, .slice B (m + 1) d] w fun e w' => e = .returned (.tuple #[.bool false, .int .i64 0]) ∧ Below w.heap.size w w' := by
  obtain ⟨bx, ox, hBx⟩ := rdI_some hx hx0
  subst hBx
  obtain ⟨ba, oa, hA⟩ := rdB_some hr hb0
  subst hA
  have hk0 := (List.getElem?_eq_some_iff.1 hb0).1; have hk1 := (List.getElem?_eq_some_iff.1 hb1).1; have hln := hr.len; have hmx := hx.len; have hm0 := (List.getElem?_eq_some_iff.1 hx0).1; have hm1 := (List.getElem?_eq_some_iff.1 hx1).1
  have HX0 := Lib.hid hx0; have HX1 := Lib.hid hx1; have HB0 := Lib.hid hb0; have HB1 := Lib.hid hb1; clear hx0 hx1 hb0 hb1
  go_enter Try.func39, Try.ntmps39
  have bel_1 := Lib.hid (show Below w.heap.size w w from Below.refl _ w)
  have x_2 := Lib.hid (hx)
  clear hx
  have rd_3 := Lib.hid (hr)
  clear hr
  have bel_4 := Lib.hid (Below.alloc bel_1.out (bel_1.out.size) (.cells #[.int .i64 P, .slice (some ⟨ba, oa, none⟩) n k] 24))
  clear bel_1
  have x_5 := Lib.hid (RdI.alloc x_2.out (.cells #[.int .i64 P, .slice (some ⟨ba, oa, none⟩) n k] 24))
  clear x_2
  have rd_6 := Lib.hid (RdB.alloc rd_3.out (.cells #[.int .i64 P, .slice (some ⟨ba, oa, none⟩) n k] 24))
  clear rd_3
  have srd_7 := Lib.hid (Blk.new w 24 #[.int .i64 P, .slice (some ⟨ba, oa, none⟩) n k])
  have hc := asked_any P a b (some ⟨ba, oa, none⟩) n k l _ rd_6.out hn
  rw [E0.out] at hc
  try dsimp only at hc
  have HC := Lib.hid hc; clear hc
  go_wp2_with fail
  refine HC.out.mono ?_
  rintro e w_8 ⟨rfl, hb⟩
  clear HC
  have bel_9 := Lib.hid (Below.trans bel_4.out (Below.mono hb (bel_4.out.size)))
  clear bel_4
  have x_10 := Lib.hid (RdI.below x_5.out hb)
  clear x_5
  have rd_11 := Lib.hid (RdB.below rd_6.out hb)
  clear rd_6
  have srd_12 := Lib.hid (Blk.keep srd_7.out hb)
  clear srd_7
  clear hb
  have z_13 : (w_8).cell? ⟨w.heap.size, 0, none⟩ = some (.int .i64 P) := Blk.cell srd_12.out 0
  have z_14 : (w_8).cell? ⟨w.heap.size, 1, none⟩ = some (.slice (some ⟨ba, oa, none⟩) n k) := Blk.cell srd_12.out 1
  have hc := rwalk_any P (some ⟨ba, oa, none⟩) (some ⟨bx, ox, none⟩) n k (m + 1) d l x _ rd_11.out hn4 HOK.out x_10.out hm
  rw [E1.out] at hc
  try dsimp only at hc
  have HC := Lib.hid hc; clear hc
  go_wp2_with fail
  refine HC.out.mono ?_
  rintro e w_15 ⟨rfl, hb⟩
  clear HC
  clear z_13 z_14
  have bel_16 := Lib.hid (Below.trans bel_9.out (Below.mono hb (bel_9.out.size)))
  clear bel_9
  have x_17 := Lib.hid (RdI.below x_10.out hb)
  clear x_10
  have rd_18 := Lib.hid (RdB.below rd_11.out hb)
  clear rd_11
  have srd_19 := Lib.hid (Blk.keep srd_12.out hb)
  clear srd_12
  clear hb
  have z_20 : (w_15).cell? ⟨w.heap.size, 0, none⟩ = some (.int .i64 P) := Blk.cell srd_19.out 0
  have z_21 : (w_15).cell? ⟨w.heap.size, 1, none⟩ = some (.slice (some ⟨ba, oa, none⟩) n k) := Blk.cell srd_19.out 1
  go_wp2_with fail
  obtain ⟨p0, p1, p2, p3, pl⟩ := rdB_at rd_18.out HB0.out; obtain ⟨r0, r1, r2, r3, rl⟩ := rdB_at rd_18.out HB1.out; obtain ⟨s0, sl⟩ := rdI_at x_17.out HX0.out; have s1 := (rdI_at x_17.out HX1.out).1
  clear p1 p2 p3 r0 r2 r3
  rw [Nat.add_zero] at s0
  go_quiet (fail)
  clear p0 r1 s0 s1
  clear z_20 z_21
  have bel_22 := Lib.hid (bdrewN bel_16.out nq)
  clear bel_16
  have x_23 := Lib.hid (rdI_drewN x_17.out nq)
  clear x_17
  have rd_24 := Lib.hid (rdB_drewN rd_18.out nq)
  clear rd_18
  have srd_25 := Lib.hid (blk_drewN srd_19.out nq)
  clear srd_19
  have z_26 : ((World.drewN w_15 nq)).cell? ⟨w.heap.size, 0, none⟩ = some (.int .i64 P) := Blk.cell srd_25.out 0
  have z_27 : ((World.drewN w_15 nq)).cell? ⟨w.heap.size, 1, none⟩ = some (.slice (some ⟨ba, oa, none⟩) n k) := Blk.cell srd_25.out 1
  go_wp2
  go_ret2
  exact ⟨rfl, bel_22.out⟩

set_option maxRecDepth 100000 in
set_option maxHeartbeats 4000000 in
theorem rP_ok3 (P a b N : Int) (A : Option Addr) (n k : Nat) (l : List Bnd) (w : World) (hr : RdB w A n k l) (hn : n ≤ maxLen) (B : Option Addr) (m d : Nat) (x : List Int) (hx : RdI w B (m + 1) d x) (hm : m + 1 ≤ 100) (hn4 : n ≤ 402) (HOK : Hid (OkB l)) (g1 : (a == b) = false) (g2 : decide (a = b) = false) (g3 : ¬ a = b) (E0 : Hid (gcode P l [a, b] = 0)) (s : Int) (E1 : Hid (walkR l x [] [] 0 = (s, true))) (k0 k1 : Nat) (t0 m0 i0 f1 m1 i1 : Int) (hx0 : x[0]? = some (k0 : Int)) (hx1 : x[m]? = some (k1 : Int)) (hb0 : l[k0]? = some ⟨a, t0, m0, i0⟩) (hb1 : l[k1]? = some ⟨f1, b, m1, i1⟩) (hs : decide (s ≤ N) = true) :
    Calls Try.prog 39 #[.agg #[.int .i64 P, .slice A n k], .int .i64 a, .int .i64 b, .int .i64 N, .slice B (m + 1) d] w fun e w' => e = .returned (.tuple #[.bool true, .int .i64 0]) ∧ Below w.heap.size w w' := by
  obtain ⟨bx, ox, hBx⟩ := rdI_some hx hx0
  subst hBx
  obtain ⟨ba, oa, hA⟩ := rdB_some hr hb0
  subst hA
  have hk0 := (List.getElem?_eq_some_iff.1 hb0).1; have hk1 := (List.getElem?_eq_some_iff.1 hb1).1; have hln := hr.len; have hmx := hx.len; have hm0 := (List.getElem?_eq_some_iff.1 hx0).1; have hm1 := (List.getElem?_eq_some_iff.1 hx1).1
  have HX0 := Lib.hid hx0; have HX1 := Lib.hid hx1; have HB0 := Lib.hid hb0; have HB1 := Lib.hid hb1; clear hx0 hx1 hb0 hb1
  go_enter Try.func39, Try.ntmps39
  have bel_1 := Lib.hid (show Below w.heap.size w w from Below.refl _ w)
  have x_2 := Lib.hid (hx)
  clear hx
  have rd_3 := Lib.hid (hr)
  clear hr
  have bel_4 := Lib.hid (Below.alloc bel_1.out (bel_1.out.size) (.cells #[.int .i64 P, .slice (some ⟨ba, oa, none⟩) n k] 24))
  clear bel_1
  have x_5 := Lib.hid (RdI.alloc x_2.out (.cells #[.int .i64 P, .slice (some ⟨ba, oa, none⟩) n k] 24))
  clear x_2
  have rd_6 := Lib.hid (RdB.alloc rd_3.out (.cells #[.int .i64 P, .slice (some ⟨ba, oa, none⟩) n k] 24))
  clear rd_3
  have srd_7 := Lib.hid (Blk.new w 24 #[.int .i64 P, .slice (some ⟨ba, oa, none⟩) n k])
  have hc := asked_any P a b (some ⟨ba, oa, none⟩) n k l _ rd_6.out hn
  rw [E0.out] at hc
  try dsimp only at hc
  have HC := Lib.hid hc; clear hc
  go_wp2_with fail
  refine HC.out.mono ?_
  rintro e w_8 ⟨rfl, hb⟩
  clear HC
  have bel_9 := Lib.hid (Below.trans bel_4.out (Below.mono hb (bel_4.out.size)))
  clear bel_4
  have x_10 := Lib.hid (RdI.below x_5.out hb)
  clear x_5
  have rd_11 := Lib.hid (RdB.below rd_6.out hb)
  clear rd_6
  have srd_12 := Lib.hid (Blk.keep srd_7.out hb)
  clear srd_7
  clear hb
  have z_13 : (w_8).cell? ⟨w.heap.size, 0, none⟩ = some (.int .i64 P) := Blk.cell srd_12.out 0
  have z_14 : (w_8).cell? ⟨w.heap.size, 1, none⟩ = some (.slice (some ⟨ba, oa, none⟩) n k) := Blk.cell srd_12.out 1
  have hc := rwalk_any P (some ⟨ba, oa, none⟩) (some ⟨bx, ox, none⟩) n k (m + 1) d l x _ rd_11.out hn4 HOK.out x_10.out hm
  rw [E1.out] at hc
  try dsimp only at hc
  have HC := Lib.hid hc; clear hc
  go_wp2_with fail
  refine HC.out.mono ?_
  rintro e w_15 ⟨rfl, hb⟩
  clear HC
  clear z_13 z_14
  have bel_16 := Lib.hid (Below.trans bel_9.out (Below.mono hb (bel_9.out.size)))
  clear bel_9
  have x_17 := Lib.hid (RdI.below x_10.out hb)
  clear x_10
  have rd_18 := Lib.hid (RdB.below rd_11.out hb)
  clear rd_11
  have srd_19 := Lib.hid (Blk.keep srd_12.out hb)
  clear srd_12
  clear hb
  have z_20 : (w_15).cell? ⟨w.heap.size, 0, none⟩ = some (.int .i64 P) := Blk.cell srd_19.out 0
  have z_21 : (w_15).cell? ⟨w.heap.size, 1, none⟩ = some (.slice (some ⟨ba, oa, none⟩) n k) := Blk.cell srd_19.out 1
  go_wp2_with fail
  obtain ⟨p0, p1, p2, p3, pl⟩ := rdB_at rd_18.out HB0.out; obtain ⟨r0, r1, r2, r3, rl⟩ := rdB_at rd_18.out HB1.out; obtain ⟨s0, sl⟩ := rdI_at x_17.out HX0.out; have s1 := (rdI_at x_17.out HX1.out).1
  clear p1 p2 p3 r0 r2 r3
  rw [Nat.add_zero] at s0
  go_quiet (fail)
  clear p0 r1 s0 s1
  clear z_20 z_21
  have bel_22 := Lib.hid (bdrewN bel_16.out nq)
  clear bel_16
  have x_23 := Lib.hid (rdI_drewN x_17.out nq)
  clear x_17
  have rd_24 := Lib.hid (rdB_drewN rd_18.out nq)
  clear rd_18
  have srd_25 := Lib.hid (blk_drewN srd_19.out nq)
  clear srd_19
  have z_26 : ((World.drewN w_15 nq)).cell? ⟨w.heap.size, 0, none⟩ = some (.int .i64 P) := Blk.cell srd_25.out 0
  have z_27 : ((World.drewN w_15 nq)).cell? ⟨w.heap.size, 1, none⟩ = some (.slice (some ⟨ba, oa, none⟩) n k) := Blk.cell srd_25.out 1
  go_wp2
  go_ret2
  exact ⟨rfl, bel_22.out⟩
end Go.Proofs.Ythlnialipjihdaa
