/- The reference's Tie. -/
import Derived.Test.YthlnialipjihdaaRTied
import Derived.Test.YthlnialipjihdaaRAttain
import Derived.Test.YthlnialipjihdaaTie
set_option linter.unusedSimpArgs false
set_option linter.unusedVariables false
namespace Go.Proofs.Ythlnialipjihdaa
open Go.RowKit

theorem rpoint_b (p : Int) (A : Option Addr) (n c : Nat) (a : Int) (w : World) (t : Bool) (h : (decide (0 ≤ a) && decide (a < p)) = t) :
    Calls Try.prog 67 #[.agg #[.int .i64 p, .slice A n c], .int .i64 a] w fun e w' => e = .returned (.bool t) ∧ Below w.heap.size w w' :=
  (rpoint_any p A n c a w).mono fun e w' ⟨h1, h2⟩ => ⟨by rw [h1, h], by rw [h2]; exact (Below.refl _ w).alloc (Nat.le_refl _) _⟩

set_option maxRecDepth 100000 in
set_option maxHeartbeats 8000000 in
theorem rT_err (p a b M : Int) (A : Option Addr) (n c : Nat) (l : List Bnd) (w : World) (hr : RdB w A n c l) (hn : n ≤ maxLen) (q : Int) (hq : (q != 0) = true) (HQ : Hid (q ≠ 0)) (E0 : Hid (chk p l = q)) :
    Calls Try.prog 23 #[.agg #[.int .i64 p, .slice A n c], .int .i64 a, .int .i64 b, .int .i64 M] w (RetS q p (l ++ tieB a b M) w) := by
  have HR0 := Lib.hid hr
  go_enter Try.func23, Try.ntmps23
  have bel_1 := Lib.hid (show Below w.heap.size w w from Below.refl _ w)
  have rd_2 := Lib.hid (HR0.out)
  clear hr HR0
  have bel_3 := Lib.hid (Below.alloc bel_1.out (bel_1.out.size) (.cells #[.int .i64 p, .slice A n c] 24))
  clear bel_1
  have rd_4 := Lib.hid (RdB.alloc rd_2.out (.cells #[.int .i64 p, .slice A n c] 24))
  clear rd_2
  have s_5 := Lib.hid (Blk.new w 24 #[.int .i64 p, .slice A n c])
  have bel_6 := Lib.hid (Below.alloc bel_3.out (bel_3.out.size) (.cells #[.int .i64 0, .slice none 0 0] 24))
  clear bel_3
  have rd_7 := Lib.hid (RdB.alloc rd_4.out (.cells #[.int .i64 0, .slice none 0 0] 24))
  clear rd_4
  have s_8 := Lib.hid (Blk.alloc s_5.out (.cells #[.int .i64 0, .slice none 0 0] 24))
  clear s_5
  have nb_ := Blk.new (w.alloc (.cells #[.int .i64 p, .slice A n c] 24)) 24 #[.int .i64 0, .slice none 0 0]
  simp only [World.size_alloc] at nb_
  have res_9 := Lib.hid nb_; clear nb_
  have hc := rCheckSystem_any p A n c l _ rd_7.out hn
  rw [E0.out] at hc
  try dsimp only at hc
  have HC := Lib.hid hc; clear hc
  go_wp2_with fail
  refine HC.out.mono ?_
  rintro e w_10 ⟨rfl, hb⟩
  clear HC
  have bel_11 := Lib.hid (Below.trans bel_6.out (Below.mono hb (bel_6.out.size)))
  clear bel_6
  have rd_12 := Lib.hid (RdB.below rd_7.out hb)
  clear rd_7
  have s_13 := Lib.hid (Blk.keep s_8.out hb)
  clear s_8
  have res_14 := Lib.hid (Blk.keep res_9.out hb)
  clear res_9
  clear hb
  have z_15 : (w_10).cell? ⟨w.heap.size, 0, none⟩ = some (.int .i64 p) := Blk.cell s_13.out 0
  have z_16 : (w_10).cell? ⟨w.heap.size, 1, none⟩ = some (.slice A n c) := Blk.cell s_13.out 1
  have z_17 : (w_10).cell? ⟨w.heap.size + 1, 0, none⟩ = some (.int .i64 0) := Blk.cell res_14.out 0
  have z_18 : (w_10).cell? ⟨w.heap.size + 1, 1, none⟩ = some (.slice none 0 0) := Blk.cell res_14.out 1
  have f0 : (w_10).frozen? ⟨w.heap.size + 1, 0, none⟩ = false := Blk.frozen res_14.out 0
  have f1 : (w_10).frozen? ⟨w.heap.size + 1, 1, none⟩ = false := Blk.frozen res_14.out 1
  go_wp2
  refine bodyPost_ret (v := .tuple #[.agg #[.int .i64 0, .slice none 0 0], .int .i64 q]) (by simp [results, Try.results23, go_sem, z_17, z_18]) rfl ?_
  exact ⟨none, 0, 0, by rw [sysR_no HQ.out], fun h => absurd h HQ.out, (bel_11.out.setCell (p := ⟨w.heap.size + 1, 0, none⟩) (by simp) _).setCell (p := ⟨w.heap.size + 1, 1, none⟩) (by simp) _⟩

set_option maxRecDepth 100000 in
set_option maxHeartbeats 8000000 in
theorem rT_na (p a b M : Int) (A : Option Addr) (n c : Nat) (l : List Bnd) (w : World) (hr : RdB w A n c l) (hn : n ≤ maxLen) (HQ : Hid ((1 : Int) ≠ 0)) (E0 : Hid (chk p l = 0)) (t2 : Bool) (T1 : Hid ((decide (0 ≤ a) && decide (a < p)) = false)) (T2 : Hid ((decide (0 ≤ b) && decide (b < p)) = t2)) :
    Calls Try.prog 23 #[.agg #[.int .i64 p, .slice A n c], .int .i64 a, .int .i64 b, .int .i64 M] w (RetS 1 p (l ++ tieB a b M) w) := by
  have HR0 := Lib.hid hr
  go_enter Try.func23, Try.ntmps23
  have bel_1 := Lib.hid (show Below w.heap.size w w from Below.refl _ w)
  have rd_2 := Lib.hid (HR0.out)
  clear hr HR0
  have bel_3 := Lib.hid (Below.alloc bel_1.out (bel_1.out.size) (.cells #[.int .i64 p, .slice A n c] 24))
  clear bel_1
  have rd_4 := Lib.hid (RdB.alloc rd_2.out (.cells #[.int .i64 p, .slice A n c] 24))
  clear rd_2
  have s_5 := Lib.hid (Blk.new w 24 #[.int .i64 p, .slice A n c])
  have bel_6 := Lib.hid (Below.alloc bel_3.out (bel_3.out.size) (.cells #[.int .i64 0, .slice none 0 0] 24))
  clear bel_3
  have rd_7 := Lib.hid (RdB.alloc rd_4.out (.cells #[.int .i64 0, .slice none 0 0] 24))
  clear rd_4
  have s_8 := Lib.hid (Blk.alloc s_5.out (.cells #[.int .i64 0, .slice none 0 0] 24))
  clear s_5
  have nb_ := Blk.new (w.alloc (.cells #[.int .i64 p, .slice A n c] 24)) 24 #[.int .i64 0, .slice none 0 0]
  simp only [World.size_alloc] at nb_
  have res_9 := Lib.hid nb_; clear nb_
  have hc := rCheckSystem_any p A n c l _ rd_7.out hn
  rw [E0.out] at hc
  try dsimp only at hc
  have HC := Lib.hid hc; clear hc
  go_wp2_with fail
  refine HC.out.mono ?_
  rintro e w_10 ⟨rfl, hb⟩
  clear HC
  have bel_11 := Lib.hid (Below.trans bel_6.out (Below.mono hb (bel_6.out.size)))
  clear bel_6
  have rd_12 := Lib.hid (RdB.below rd_7.out hb)
  clear rd_7
  have s_13 := Lib.hid (Blk.keep s_8.out hb)
  clear s_8
  have res_14 := Lib.hid (Blk.keep res_9.out hb)
  clear res_9
  clear hb
  have z_15 : (w_10).cell? ⟨w.heap.size, 0, none⟩ = some (.int .i64 p) := Blk.cell s_13.out 0
  have z_16 : (w_10).cell? ⟨w.heap.size, 1, none⟩ = some (.slice A n c) := Blk.cell s_13.out 1
  have z_17 : (w_10).cell? ⟨w.heap.size + 1, 0, none⟩ = some (.int .i64 0) := Blk.cell res_14.out 0
  have z_18 : (w_10).cell? ⟨w.heap.size + 1, 1, none⟩ = some (.slice none 0 0) := Blk.cell res_14.out 1
  have hc := rpoint_b p A n c a (w_10) false T1.out
  have HC := Lib.hid hc; clear hc
  go_wp2_with fail
  refine HC.out.mono ?_
  rintro e w_19 ⟨rfl, hb⟩
  clear HC
  clear z_15 z_16 z_17 z_18
  have bel_20 := Lib.hid (Below.trans bel_11.out (Below.mono hb (bel_11.out.size)))
  clear bel_11
  have rd_21 := Lib.hid (RdB.below rd_12.out hb)
  clear rd_12
  have s_22 := Lib.hid (Blk.keep s_13.out hb)
  clear s_13
  have res_23 := Lib.hid (Blk.keep res_14.out hb)
  clear res_14
  clear hb
  have z_24 : (w_19).cell? ⟨w.heap.size, 0, none⟩ = some (.int .i64 p) := Blk.cell s_22.out 0
  have z_25 : (w_19).cell? ⟨w.heap.size, 1, none⟩ = some (.slice A n c) := Blk.cell s_22.out 1
  have z_26 : (w_19).cell? ⟨w.heap.size + 1, 0, none⟩ = some (.int .i64 0) := Blk.cell res_23.out 0
  have z_27 : (w_19).cell? ⟨w.heap.size + 1, 1, none⟩ = some (.slice none 0 0) := Blk.cell res_23.out 1
  have hc := rpoint_b p A n c b (w_19) t2 T2.out
  have HC := Lib.hid hc; clear hc
  go_wp2_with fail
  refine HC.out.mono ?_
  rintro e w_28 ⟨rfl, hb⟩
  clear HC
  clear z_24 z_25 z_26 z_27
  have bel_29 := Lib.hid (Below.trans bel_20.out (Below.mono hb (bel_20.out.size)))
  clear bel_20
  have rd_30 := Lib.hid (RdB.below rd_21.out hb)
  clear rd_21
  have s_31 := Lib.hid (Blk.keep s_22.out hb)
  clear s_22
  have res_32 := Lib.hid (Blk.keep res_23.out hb)
  clear res_23
  clear hb
  have z_33 : (w_28).cell? ⟨w.heap.size, 0, none⟩ = some (.int .i64 p) := Blk.cell s_31.out 0
  have z_34 : (w_28).cell? ⟨w.heap.size, 1, none⟩ = some (.slice A n c) := Blk.cell s_31.out 1
  have z_35 : (w_28).cell? ⟨w.heap.size + 1, 0, none⟩ = some (.int .i64 0) := Blk.cell res_32.out 0
  have z_36 : (w_28).cell? ⟨w.heap.size + 1, 1, none⟩ = some (.slice none 0 0) := Blk.cell res_32.out 1
  have f0 : (w_28).frozen? ⟨w.heap.size + 1, 0, none⟩ = false := Blk.frozen res_32.out 0
  have f1 : (w_28).frozen? ⟨w.heap.size + 1, 1, none⟩ = false := Blk.frozen res_32.out 1
  go_wp2
  refine bodyPost_ret (v := .tuple #[.agg #[.int .i64 0, .slice none 0 0], .int .i64 1]) (by simp [results, Try.results23, go_sem, z_35, z_36]) rfl ?_
  exact ⟨none, 0, 0, by rw [sysR_no HQ.out], fun h => absurd h HQ.out, (bel_29.out.setCell (p := ⟨w.heap.size + 1, 0, none⟩) (by simp) _).setCell (p := ⟨w.heap.size + 1, 1, none⟩) (by simp) _⟩

set_option maxRecDepth 100000 in
set_option maxHeartbeats 8000000 in
theorem rT_nb (p a b M : Int) (A : Option Addr) (n c : Nat) (l : List Bnd) (w : World) (hr : RdB w A n c l) (hn : n ≤ maxLen) (HQ : Hid ((1 : Int) ≠ 0)) (E0 : Hid (chk p l = 0)) (T1 : Hid ((decide (0 ≤ a) && decide (a < p)) = true)) (T2 : Hid ((decide (0 ≤ b) && decide (b < p)) = false)) :
    Calls Try.prog 23 #[.agg #[.int .i64 p, .slice A n c], .int .i64 a, .int .i64 b, .int .i64 M] w (RetS 1 p (l ++ tieB a b M) w) := by
  have HR0 := Lib.hid hr
  go_enter Try.func23, Try.ntmps23
  have bel_1 := Lib.hid (show Below w.heap.size w w from Below.refl _ w)
  have rd_2 := Lib.hid (HR0.out)
  clear hr HR0
  have bel_3 := Lib.hid (Below.alloc bel_1.out (bel_1.out.size) (.cells #[.int .i64 p, .slice A n c] 24))
  clear bel_1
  have rd_4 := Lib.hid (RdB.alloc rd_2.out (.cells #[.int .i64 p, .slice A n c] 24))
  clear rd_2
  have s_5 := Lib.hid (Blk.new w 24 #[.int .i64 p, .slice A n c])
  have bel_6 := Lib.hid (Below.alloc bel_3.out (bel_3.out.size) (.cells #[.int .i64 0, .slice none 0 0] 24))
  clear bel_3
  have rd_7 := Lib.hid (RdB.alloc rd_4.out (.cells #[.int .i64 0, .slice none 0 0] 24))
  clear rd_4
  have s_8 := Lib.hid (Blk.alloc s_5.out (.cells #[.int .i64 0, .slice none 0 0] 24))
  clear s_5
  have nb_ := Blk.new (w.alloc (.cells #[.int .i64 p, .slice A n c] 24)) 24 #[.int .i64 0, .slice none 0 0]
  simp only [World.size_alloc] at nb_
  have res_9 := Lib.hid nb_; clear nb_
  have hc := rCheckSystem_any p A n c l _ rd_7.out hn
  rw [E0.out] at hc
  try dsimp only at hc
  have HC := Lib.hid hc; clear hc
  go_wp2_with fail
  refine HC.out.mono ?_
  rintro e w_10 ⟨rfl, hb⟩
  clear HC
  have bel_11 := Lib.hid (Below.trans bel_6.out (Below.mono hb (bel_6.out.size)))
  clear bel_6
  have rd_12 := Lib.hid (RdB.below rd_7.out hb)
  clear rd_7
  have s_13 := Lib.hid (Blk.keep s_8.out hb)
  clear s_8
  have res_14 := Lib.hid (Blk.keep res_9.out hb)
  clear res_9
  clear hb
  have z_15 : (w_10).cell? ⟨w.heap.size, 0, none⟩ = some (.int .i64 p) := Blk.cell s_13.out 0
  have z_16 : (w_10).cell? ⟨w.heap.size, 1, none⟩ = some (.slice A n c) := Blk.cell s_13.out 1
  have z_17 : (w_10).cell? ⟨w.heap.size + 1, 0, none⟩ = some (.int .i64 0) := Blk.cell res_14.out 0
  have z_18 : (w_10).cell? ⟨w.heap.size + 1, 1, none⟩ = some (.slice none 0 0) := Blk.cell res_14.out 1
  have hc := rpoint_b p A n c a (w_10) true T1.out
  have HC := Lib.hid hc; clear hc
  go_wp2_with fail
  refine HC.out.mono ?_
  rintro e w_19 ⟨rfl, hb⟩
  clear HC
  clear z_15 z_16 z_17 z_18
  have bel_20 := Lib.hid (Below.trans bel_11.out (Below.mono hb (bel_11.out.size)))
  clear bel_11
  have rd_21 := Lib.hid (RdB.below rd_12.out hb)
  clear rd_12
  have s_22 := Lib.hid (Blk.keep s_13.out hb)
  clear s_13
  have res_23 := Lib.hid (Blk.keep res_14.out hb)
  clear res_14
  clear hb
  have z_24 : (w_19).cell? ⟨w.heap.size, 0, none⟩ = some (.int .i64 p) := Blk.cell s_22.out 0
  have z_25 : (w_19).cell? ⟨w.heap.size, 1, none⟩ = some (.slice A n c) := Blk.cell s_22.out 1
  have z_26 : (w_19).cell? ⟨w.heap.size + 1, 0, none⟩ = some (.int .i64 0) := Blk.cell res_23.out 0
  have z_27 : (w_19).cell? ⟨w.heap.size + 1, 1, none⟩ = some (.slice none 0 0) := Blk.cell res_23.out 1
  have hc := rpoint_b p A n c b (w_19) false T2.out
  have HC := Lib.hid hc; clear hc
  go_wp2_with fail
  refine HC.out.mono ?_
  rintro e w_28 ⟨rfl, hb⟩
  clear HC
  clear z_24 z_25 z_26 z_27
  have bel_29 := Lib.hid (Below.trans bel_20.out (Below.mono hb (bel_20.out.size)))
  clear bel_20
  have rd_30 := Lib.hid (RdB.below rd_21.out hb)
  clear rd_21
  have s_31 := Lib.hid (Blk.keep s_22.out hb)
  clear s_22
  have res_32 := Lib.hid (Blk.keep res_23.out hb)
  clear res_23
  clear hb
  have z_33 : (w_28).cell? ⟨w.heap.size, 0, none⟩ = some (.int .i64 p) := Blk.cell s_31.out 0
  have z_34 : (w_28).cell? ⟨w.heap.size, 1, none⟩ = some (.slice A n c) := Blk.cell s_31.out 1
  have z_35 : (w_28).cell? ⟨w.heap.size + 1, 0, none⟩ = some (.int .i64 0) := Blk.cell res_32.out 0
  have z_36 : (w_28).cell? ⟨w.heap.size + 1, 1, none⟩ = some (.slice none 0 0) := Blk.cell res_32.out 1
  have f0 : (w_28).frozen? ⟨w.heap.size + 1, 0, none⟩ = false := Blk.frozen res_32.out 0
  have f1 : (w_28).frozen? ⟨w.heap.size + 1, 1, none⟩ = false := Blk.frozen res_32.out 1
  go_wp2
  refine bodyPost_ret (v := .tuple #[.agg #[.int .i64 0, .slice none 0 0], .int .i64 1]) (by simp [results, Try.results23, go_sem, z_35, z_36]) rfl ?_
  exact ⟨none, 0, 0, by rw [sysR_no HQ.out], fun h => absurd h HQ.out, (bel_29.out.setCell (p := ⟨w.heap.size + 1, 0, none⟩) (by simp) _).setCell (p := ⟨w.heap.size + 1, 1, none⟩) (by simp) _⟩

set_option maxRecDepth 100000 in
set_option maxHeartbeats 8000000 in
theorem rT_eq (p a b M : Int) (A : Option Addr) (n c : Nat) (l : List Bnd) (w : World) (hr : RdB w A n c l) (hn : n ≤ maxLen) (HQ : Hid ((1 : Int) ≠ 0)) (E0 : Hid (chk p l = 0)) (T1 : Hid ((decide (0 ≤ a) && decide (a < p)) = true)) (T2 : Hid ((decide (0 ≤ b) && decide (b < p)) = true)) (h1 : (a == b) = true) :
    Calls Try.prog 23 #[.agg #[.int .i64 p, .slice A n c], .int .i64 a, .int .i64 b, .int .i64 M] w (RetS 1 p (l ++ tieB a b M) w) := by
  have HR0 := Lib.hid hr
  go_enter Try.func23, Try.ntmps23
  have bel_1 := Lib.hid (show Below w.heap.size w w from Below.refl _ w)
  have rd_2 := Lib.hid (HR0.out)
  clear hr HR0
  have bel_3 := Lib.hid (Below.alloc bel_1.out (bel_1.out.size) (.cells #[.int .i64 p, .slice A n c] 24))
  clear bel_1
  have rd_4 := Lib.hid (RdB.alloc rd_2.out (.cells #[.int .i64 p, .slice A n c] 24))
  clear rd_2
  have s_5 := Lib.hid (Blk.new w 24 #[.int .i64 p, .slice A n c])
  have bel_6 := Lib.hid (Below.alloc bel_3.out (bel_3.out.size) (.cells #[.int .i64 0, .slice none 0 0] 24))
  clear bel_3
  have rd_7 := Lib.hid (RdB.alloc rd_4.out (.cells #[.int .i64 0, .slice none 0 0] 24))
  clear rd_4
  have s_8 := Lib.hid (Blk.alloc s_5.out (.cells #[.int .i64 0, .slice none 0 0] 24))
  clear s_5
  have nb_ := Blk.new (w.alloc (.cells #[.int .i64 p, .slice A n c] 24)) 24 #[.int .i64 0, .slice none 0 0]
  simp only [World.size_alloc] at nb_
  have res_9 := Lib.hid nb_; clear nb_
  have hc := rCheckSystem_any p A n c l _ rd_7.out hn
  rw [E0.out] at hc
  try dsimp only at hc
  have HC := Lib.hid hc; clear hc
  go_wp2_with fail
  refine HC.out.mono ?_
  rintro e w_10 ⟨rfl, hb⟩
  clear HC
  have bel_11 := Lib.hid (Below.trans bel_6.out (Below.mono hb (bel_6.out.size)))
  clear bel_6
  have rd_12 := Lib.hid (RdB.below rd_7.out hb)
  clear rd_7
  have s_13 := Lib.hid (Blk.keep s_8.out hb)
  clear s_8
  have res_14 := Lib.hid (Blk.keep res_9.out hb)
  clear res_9
  clear hb
  have z_15 : (w_10).cell? ⟨w.heap.size, 0, none⟩ = some (.int .i64 p) := Blk.cell s_13.out 0
  have z_16 : (w_10).cell? ⟨w.heap.size, 1, none⟩ = some (.slice A n c) := Blk.cell s_13.out 1
  have z_17 : (w_10).cell? ⟨w.heap.size + 1, 0, none⟩ = some (.int .i64 0) := Blk.cell res_14.out 0
  have z_18 : (w_10).cell? ⟨w.heap.size + 1, 1, none⟩ = some (.slice none 0 0) := Blk.cell res_14.out 1
  have hc := rpoint_b p A n c a (w_10) true T1.out
  have HC := Lib.hid hc; clear hc
  go_wp2_with fail
  refine HC.out.mono ?_
  rintro e w_19 ⟨rfl, hb⟩
  clear HC
  clear z_15 z_16 z_17 z_18
  have bel_20 := Lib.hid (Below.trans bel_11.out (Below.mono hb (bel_11.out.size)))
  clear bel_11
  have rd_21 := Lib.hid (RdB.below rd_12.out hb)
  clear rd_12
  have s_22 := Lib.hid (Blk.keep s_13.out hb)
  clear s_13
  have res_23 := Lib.hid (Blk.keep res_14.out hb)
  clear res_14
  clear hb
  have z_24 : (w_19).cell? ⟨w.heap.size, 0, none⟩ = some (.int .i64 p) := Blk.cell s_22.out 0
  have z_25 : (w_19).cell? ⟨w.heap.size, 1, none⟩ = some (.slice A n c) := Blk.cell s_22.out 1
  have z_26 : (w_19).cell? ⟨w.heap.size + 1, 0, none⟩ = some (.int .i64 0) := Blk.cell res_23.out 0
  have z_27 : (w_19).cell? ⟨w.heap.size + 1, 1, none⟩ = some (.slice none 0 0) := Blk.cell res_23.out 1
  have hc := rpoint_b p A n c b (w_19) true T2.out
  have HC := Lib.hid hc; clear hc
  go_wp2_with fail
  refine HC.out.mono ?_
  rintro e w_28 ⟨rfl, hb⟩
  clear HC
  clear z_24 z_25 z_26 z_27
  have bel_29 := Lib.hid (Below.trans bel_20.out (Below.mono hb (bel_20.out.size)))
  clear bel_20
  have rd_30 := Lib.hid (RdB.below rd_21.out hb)
  clear rd_21
  have s_31 := Lib.hid (Blk.keep s_22.out hb)
  clear s_22
  have res_32 := Lib.hid (Blk.keep res_23.out hb)
  clear res_23
  clear hb
  have z_33 : (w_28).cell? ⟨w.heap.size, 0, none⟩ = some (.int .i64 p) := Blk.cell s_31.out 0
  have z_34 : (w_28).cell? ⟨w.heap.size, 1, none⟩ = some (.slice A n c) := Blk.cell s_31.out 1
  have z_35 : (w_28).cell? ⟨w.heap.size + 1, 0, none⟩ = some (.int .i64 0) := Blk.cell res_32.out 0
  have z_36 : (w_28).cell? ⟨w.heap.size + 1, 1, none⟩ = some (.slice none 0 0) := Blk.cell res_32.out 1
  have f0 : (w_28).frozen? ⟨w.heap.size + 1, 0, none⟩ = false := Blk.frozen res_32.out 0
  have f1 : (w_28).frozen? ⟨w.heap.size + 1, 1, none⟩ = false := Blk.frozen res_32.out 1
  go_wp2
  refine bodyPost_ret (v := .tuple #[.agg #[.int .i64 0, .slice none 0 0], .int .i64 1]) (by simp [results, Try.results23, go_sem, z_35, z_36]) rfl ?_
  exact ⟨none, 0, 0, by rw [sysR_no HQ.out], fun h => absurd h HQ.out, (bel_29.out.setCell (p := ⟨w.heap.size + 1, 0, none⟩) (by simp) _).setCell (p := ⟨w.heap.size + 1, 1, none⟩) (by simp) _⟩

set_option maxRecDepth 100000 in
set_option maxHeartbeats 8000000 in
theorem rT_far (p a b M : Int) (A : Option Addr) (n c : Nat) (l : List Bnd) (w : World) (hr : RdB w A n c l) (hn : n ≤ maxLen) (HQ : Hid ((1 : Int) ≠ 0)) (E0 : Hid (chk p l = 0)) (T1 : Hid ((decide (0 ≤ a) && decide (a < p)) = true)) (T2 : Hid ((decide (0 ≤ b) && decide (b < p)) = true)) (h1 : (a == b) = false) (HM : Hid (¬ (-1000000 ≤ M ∧ M ≤ 1000000))) :
    Calls Try.prog 23 #[.agg #[.int .i64 p, .slice A n c], .int .i64 a, .int .i64 b, .int .i64 M] w (RetS 1 p (l ++ tieB a b M) w) := by
  have HR0 := Lib.hid hr
  go_enter Try.func23, Try.ntmps23
  have bel_1 := Lib.hid (show Below w.heap.size w w from Below.refl _ w)
  have rd_2 := Lib.hid (HR0.out)
  clear hr HR0
  have bel_3 := Lib.hid (Below.alloc bel_1.out (bel_1.out.size) (.cells #[.int .i64 p, .slice A n c] 24))
  clear bel_1
  have rd_4 := Lib.hid (RdB.alloc rd_2.out (.cells #[.int .i64 p, .slice A n c] 24))
  clear rd_2
  have s_5 := Lib.hid (Blk.new w 24 #[.int .i64 p, .slice A n c])
  have bel_6 := Lib.hid (Below.alloc bel_3.out (bel_3.out.size) (.cells #[.int .i64 0, .slice none 0 0] 24))
  clear bel_3
  have rd_7 := Lib.hid (RdB.alloc rd_4.out (.cells #[.int .i64 0, .slice none 0 0] 24))
  clear rd_4
  have s_8 := Lib.hid (Blk.alloc s_5.out (.cells #[.int .i64 0, .slice none 0 0] 24))
  clear s_5
  have nb_ := Blk.new (w.alloc (.cells #[.int .i64 p, .slice A n c] 24)) 24 #[.int .i64 0, .slice none 0 0]
  simp only [World.size_alloc] at nb_
  have res_9 := Lib.hid nb_; clear nb_
  have hc := rCheckSystem_any p A n c l _ rd_7.out hn
  rw [E0.out] at hc
  try dsimp only at hc
  have HC := Lib.hid hc; clear hc
  go_wp2_with fail
  refine HC.out.mono ?_
  rintro e w_10 ⟨rfl, hb⟩
  clear HC
  have bel_11 := Lib.hid (Below.trans bel_6.out (Below.mono hb (bel_6.out.size)))
  clear bel_6
  have rd_12 := Lib.hid (RdB.below rd_7.out hb)
  clear rd_7
  have s_13 := Lib.hid (Blk.keep s_8.out hb)
  clear s_8
  have res_14 := Lib.hid (Blk.keep res_9.out hb)
  clear res_9
  clear hb
  have z_15 : (w_10).cell? ⟨w.heap.size, 0, none⟩ = some (.int .i64 p) := Blk.cell s_13.out 0
  have z_16 : (w_10).cell? ⟨w.heap.size, 1, none⟩ = some (.slice A n c) := Blk.cell s_13.out 1
  have z_17 : (w_10).cell? ⟨w.heap.size + 1, 0, none⟩ = some (.int .i64 0) := Blk.cell res_14.out 0
  have z_18 : (w_10).cell? ⟨w.heap.size + 1, 1, none⟩ = some (.slice none 0 0) := Blk.cell res_14.out 1
  have hc := rpoint_b p A n c a (w_10) true T1.out
  have HC := Lib.hid hc; clear hc
  go_wp2_with fail
  refine HC.out.mono ?_
  rintro e w_19 ⟨rfl, hb⟩
  clear HC
  clear z_15 z_16 z_17 z_18
  have bel_20 := Lib.hid (Below.trans bel_11.out (Below.mono hb (bel_11.out.size)))
  clear bel_11
  have rd_21 := Lib.hid (RdB.below rd_12.out hb)
  clear rd_12
  have s_22 := Lib.hid (Blk.keep s_13.out hb)
  clear s_13
  have res_23 := Lib.hid (Blk.keep res_14.out hb)
  clear res_14
  clear hb
  have z_24 : (w_19).cell? ⟨w.heap.size, 0, none⟩ = some (.int .i64 p) := Blk.cell s_22.out 0
  have z_25 : (w_19).cell? ⟨w.heap.size, 1, none⟩ = some (.slice A n c) := Blk.cell s_22.out 1
  have z_26 : (w_19).cell? ⟨w.heap.size + 1, 0, none⟩ = some (.int .i64 0) := Blk.cell res_23.out 0
  have z_27 : (w_19).cell? ⟨w.heap.size + 1, 1, none⟩ = some (.slice none 0 0) := Blk.cell res_23.out 1
  have hc := rpoint_b p A n c b (w_19) true T2.out
  have HC := Lib.hid hc; clear hc
  go_wp2_with fail
  refine HC.out.mono ?_
  rintro e w_28 ⟨rfl, hb⟩
  clear HC
  clear z_24 z_25 z_26 z_27
  have bel_29 := Lib.hid (Below.trans bel_20.out (Below.mono hb (bel_20.out.size)))
  clear bel_20
  have rd_30 := Lib.hid (RdB.below rd_21.out hb)
  clear rd_21
  have s_31 := Lib.hid (Blk.keep s_22.out hb)
  clear s_22
  have res_32 := Lib.hid (Blk.keep res_23.out hb)
  clear res_23
  clear hb
  have z_33 : (w_28).cell? ⟨w.heap.size, 0, none⟩ = some (.int .i64 p) := Blk.cell s_31.out 0
  have z_34 : (w_28).cell? ⟨w.heap.size, 1, none⟩ = some (.slice A n c) := Blk.cell s_31.out 1
  have z_35 : (w_28).cell? ⟨w.heap.size + 1, 0, none⟩ = some (.int .i64 0) := Blk.cell res_32.out 0
  have z_36 : (w_28).cell? ⟨w.heap.size + 1, 1, none⟩ = some (.slice none 0 0) := Blk.cell res_32.out 1
  have hc := (show Calls Try.prog 68 #[.int .i64 M, .int .i64 (-1000000), .int .i64 1000000] (w_28) fun e w' => e = .returned (.bool false) ∧ Below (w_28).heap.size (w_28) w' from within_false M _ _ (w_28) HM.out)
  have HC := Lib.hid hc; clear hc
  go_wp2_with fail
  refine HC.out.mono ?_
  rintro e w_37 ⟨rfl, hb⟩
  clear HC
  clear z_33 z_34 z_35 z_36
  have bel_38 := Lib.hid (Below.trans bel_29.out (Below.mono hb (bel_29.out.size)))
  clear bel_29
  have rd_39 := Lib.hid (RdB.below rd_30.out hb)
  clear rd_30
  have s_40 := Lib.hid (Blk.keep s_31.out hb)
  clear s_31
  have res_41 := Lib.hid (Blk.keep res_32.out hb)
  clear res_32
  clear hb
  have z_42 : (w_37).cell? ⟨w.heap.size, 0, none⟩ = some (.int .i64 p) := Blk.cell s_40.out 0
  have z_43 : (w_37).cell? ⟨w.heap.size, 1, none⟩ = some (.slice A n c) := Blk.cell s_40.out 1
  have z_44 : (w_37).cell? ⟨w.heap.size + 1, 0, none⟩ = some (.int .i64 0) := Blk.cell res_41.out 0
  have z_45 : (w_37).cell? ⟨w.heap.size + 1, 1, none⟩ = some (.slice none 0 0) := Blk.cell res_41.out 1
  have f0 : (w_37).frozen? ⟨w.heap.size + 1, 0, none⟩ = false := Blk.frozen res_41.out 0
  have f1 : (w_37).frozen? ⟨w.heap.size + 1, 1, none⟩ = false := Blk.frozen res_41.out 1
  go_wp2
  refine bodyPost_ret (v := .tuple #[.agg #[.int .i64 0, .slice none 0 0], .int .i64 1]) (by simp [results, Try.results23, go_sem, z_44, z_45]) rfl ?_
  exact ⟨none, 0, 0, by rw [sysR_no HQ.out], fun h => absurd h HQ.out, (bel_38.out.setCell (p := ⟨w.heap.size + 1, 0, none⟩) (by simp) _).setCell (p := ⟨w.heap.size + 1, 1, none⟩) (by simp) _⟩

set_option maxRecDepth 100000 in
set_option maxHeartbeats 8000000 in
theorem rT_ok (p a b M : Int) (A : Option Addr) (n c : Nat) (l : List Bnd) (w : World) (hr : RdB w A n c l) (hn : n ≤ maxLen) (hn4 : n ≤ 400) (E0 : Hid (chk p l = 0)) (T1 : Hid ((decide (0 ≤ a) && decide (a < p)) = true)) (T2 : Hid ((decide (0 ≤ b) && decide (b < p)) = true)) (h1 : (a == b) = false) (HM : Hid (-1000000 ≤ M ∧ M ≤ 1000000)) (hM1 : -1000000 ≤ M) (hM2 : M ≤ 1000000) :
    Calls Try.prog 23 #[.agg #[.int .i64 p, .slice A n c], .int .i64 a, .int .i64 b, .int .i64 M] w (RetS (chk p (l ++ tieB a b M)) p (l ++ tieB a b M) w) := by
  obtain ⟨i0, hi0, hz0, hz1, hz2⟩ := info_parts infoB
  have HI := Lib.hid hi0; have HZ0 := Lib.hid hz0; have HZ1 := Lib.hid hz1; have HZ2 := Lib.hid hz2; clear hi0 hz0 hz1 hz2
  have HR0 := Lib.hid hr
  go_enter Try.func23, Try.ntmps23
  have bel_1 := Lib.hid (show Below w.heap.size w w from Below.refl _ w)
  have rd_2 := Lib.hid (HR0.out)
  clear hr HR0
  have bel_3 := Lib.hid (Below.alloc bel_1.out (bel_1.out.size) (.cells #[.int .i64 p, .slice A n c] 24))
  clear bel_1
  have rd_4 := Lib.hid (RdB.alloc rd_2.out (.cells #[.int .i64 p, .slice A n c] 24))
  clear rd_2
  have s_5 := Lib.hid (Blk.new w 24 #[.int .i64 p, .slice A n c])
  have bel_6 := Lib.hid (Below.alloc bel_3.out (bel_3.out.size) (.cells #[.int .i64 0, .slice none 0 0] 24))
  clear bel_3
  have rd_7 := Lib.hid (RdB.alloc rd_4.out (.cells #[.int .i64 0, .slice none 0 0] 24))
  clear rd_4
  have s_8 := Lib.hid (Blk.alloc s_5.out (.cells #[.int .i64 0, .slice none 0 0] 24))
  clear s_5
  have nb_ := Blk.new (w.alloc (.cells #[.int .i64 p, .slice A n c] 24)) 24 #[.int .i64 0, .slice none 0 0]
  simp only [World.size_alloc] at nb_
  have res_9 := Lib.hid nb_; clear nb_
  have hc := rCheckSystem_any p A n c l _ rd_7.out hn
  rw [E0.out] at hc
  try dsimp only at hc
  have HC := Lib.hid hc; clear hc
  go_wp2_with fail
  refine HC.out.mono ?_
  rintro e w_10 ⟨rfl, hb⟩
  clear HC
  have bel_11 := Lib.hid (Below.trans bel_6.out (Below.mono hb (bel_6.out.size)))
  clear bel_6
  have rd_12 := Lib.hid (RdB.below rd_7.out hb)
  clear rd_7
  have s_13 := Lib.hid (Blk.keep s_8.out hb)
  clear s_8
  have res_14 := Lib.hid (Blk.keep res_9.out hb)
  clear res_9
  clear hb
  have z_15 : (w_10).cell? ⟨w.heap.size, 0, none⟩ = some (.int .i64 p) := Blk.cell s_13.out 0
  have z_16 : (w_10).cell? ⟨w.heap.size, 1, none⟩ = some (.slice A n c) := Blk.cell s_13.out 1
  have z_17 : (w_10).cell? ⟨w.heap.size + 1, 0, none⟩ = some (.int .i64 0) := Blk.cell res_14.out 0
  have z_18 : (w_10).cell? ⟨w.heap.size + 1, 1, none⟩ = some (.slice none 0 0) := Blk.cell res_14.out 1
  have hc := rpoint_b p A n c a (w_10) true T1.out
  have HC := Lib.hid hc; clear hc
  go_wp2_with fail
  refine HC.out.mono ?_
  rintro e w_19 ⟨rfl, hb⟩
  clear HC
  clear z_15 z_16 z_17 z_18
  have bel_20 := Lib.hid (Below.trans bel_11.out (Below.mono hb (bel_11.out.size)))
  clear bel_11
  have rd_21 := Lib.hid (RdB.below rd_12.out hb)
  clear rd_12
  have s_22 := Lib.hid (Blk.keep s_13.out hb)
  clear s_13
  have res_23 := Lib.hid (Blk.keep res_14.out hb)
  clear res_14
  clear hb
  have z_24 : (w_19).cell? ⟨w.heap.size, 0, none⟩ = some (.int .i64 p) := Blk.cell s_22.out 0
  have z_25 : (w_19).cell? ⟨w.heap.size, 1, none⟩ = some (.slice A n c) := Blk.cell s_22.out 1
  have z_26 : (w_19).cell? ⟨w.heap.size + 1, 0, none⟩ = some (.int .i64 0) := Blk.cell res_23.out 0
  have z_27 : (w_19).cell? ⟨w.heap.size + 1, 1, none⟩ = some (.slice none 0 0) := Blk.cell res_23.out 1
  have hc := rpoint_b p A n c b (w_19) true T2.out
  have HC := Lib.hid hc; clear hc
  go_wp2_with fail
  refine HC.out.mono ?_
  rintro e w_28 ⟨rfl, hb⟩
  clear HC
  clear z_24 z_25 z_26 z_27
  have bel_29 := Lib.hid (Below.trans bel_20.out (Below.mono hb (bel_20.out.size)))
  clear bel_20
  have rd_30 := Lib.hid (RdB.below rd_21.out hb)
  clear rd_21
  have s_31 := Lib.hid (Blk.keep s_22.out hb)
  clear s_22
  have res_32 := Lib.hid (Blk.keep res_23.out hb)
  clear res_23
  clear hb
  have z_33 : (w_28).cell? ⟨w.heap.size, 0, none⟩ = some (.int .i64 p) := Blk.cell s_31.out 0
  have z_34 : (w_28).cell? ⟨w.heap.size, 1, none⟩ = some (.slice A n c) := Blk.cell s_31.out 1
  have z_35 : (w_28).cell? ⟨w.heap.size + 1, 0, none⟩ = some (.int .i64 0) := Blk.cell res_32.out 0
  have z_36 : (w_28).cell? ⟨w.heap.size + 1, 1, none⟩ = some (.slice none 0 0) := Blk.cell res_32.out 1
  have hc := (show Calls Try.prog 68 #[.int .i64 M, .int .i64 (-1000000), .int .i64 1000000] (w_28) fun e w' => e = .returned (.bool true) ∧ Below (w_28).heap.size (w_28) w' from within_true M _ _ (w_28) HM.out)
  have HC := Lib.hid hc; clear hc
  go_wp2_with fail
  refine HC.out.mono ?_
  rintro e w_37 ⟨rfl, hb⟩
  clear HC
  clear z_33 z_34 z_35 z_36
  have bel_38 := Lib.hid (Below.trans bel_29.out (Below.mono hb (bel_29.out.size)))
  clear bel_29
  have rd_39 := Lib.hid (RdB.below rd_30.out hb)
  clear rd_30
  have s_40 := Lib.hid (Blk.keep s_31.out hb)
  clear s_31
  have res_41 := Lib.hid (Blk.keep res_32.out hb)
  clear res_32
  clear hb
  have z_42 : (w_37).cell? ⟨w.heap.size, 0, none⟩ = some (.int .i64 p) := Blk.cell s_40.out 0
  have z_43 : (w_37).cell? ⟨w.heap.size, 1, none⟩ = some (.slice A n c) := Blk.cell s_40.out 1
  have z_44 : (w_37).cell? ⟨w.heap.size + 1, 0, none⟩ = some (.int .i64 0) := Blk.cell res_41.out 0
  have z_45 : (w_37).cell? ⟨w.heap.size + 1, 1, none⟩ = some (.slice none 0 0) := Blk.cell res_41.out 1
  go_wp2_with fail
  refine (rtied_any p a b M A n c l _ rd_39.out (by omega) (by omega)).mono ?_
  rintro e w8 ⟨Bc, dc, rfl, ho, hb⟩
  clear z_42 z_43 z_44 z_45
  have OW := Lib.hid (owns_base ho (Nat.succ_le_of_lt (Blk.lt res_41.out))); clear ho
  have bel_46 := Lib.hid (Below.trans bel_38.out (Below.mono hb (bel_38.out.size)))
  clear bel_38
  have rd_47 := Lib.hid (RdB.below rd_39.out hb)
  clear rd_39
  have s_48 := Lib.hid (Blk.keep s_40.out hb)
  clear s_40
  have res_49 := Lib.hid (Blk.keep res_41.out hb)
  clear res_41
  clear hb
  have bel_50 := Lib.hid (Below.alloc bel_46.out (bel_46.out.size) (.cells #[.int .i64 p, .slice Bc (n + 2) dc] 24))
  clear bel_46
  have s_51 := Lib.hid (Blk.alloc s_48.out (.cells #[.int .i64 p, .slice Bc (n + 2) dc] 24))
  clear s_48
  have res_52 := Lib.hid (Blk.alloc res_49.out (.cells #[.int .i64 p, .slice Bc (n + 2) dc] 24))
  clear res_49
  have own_53 := Lib.hid (World.ownsRow.alloc OW.out (.cells #[.int .i64 p, .slice Bc (n + 2) dc] 24))
  clear OW
  have t_54 := Lib.hid (Blk.new w8 24 #[.int .i64 p, .slice Bc (n + 2) dc])
  have z_55 : ((w8.alloc (.cells #[.int .i64 p, .slice Bc (n + 2) dc] 24))).cell? ⟨w.heap.size, 0, none⟩ = some (.int .i64 p) := Blk.cell s_51.out 0
  have z_56 : ((w8.alloc (.cells #[.int .i64 p, .slice Bc (n + 2) dc] 24))).cell? ⟨w.heap.size, 1, none⟩ = some (.slice A n c) := Blk.cell s_51.out 1
  have z_57 : ((w8.alloc (.cells #[.int .i64 p, .slice Bc (n + 2) dc] 24))).cell? ⟨w.heap.size + 1, 0, none⟩ = some (.int .i64 0) := Blk.cell res_52.out 0
  have z_58 : ((w8.alloc (.cells #[.int .i64 p, .slice Bc (n + 2) dc] 24))).cell? ⟨w.heap.size + 1, 1, none⟩ = some (.slice none 0 0) := Blk.cell res_52.out 1
  have z_59 : ((w8.alloc (.cells #[.int .i64 p, .slice Bc (n + 2) dc] 24))).cell? ⟨w8.heap.size, 0, none⟩ = some (.int .i64 p) := Blk.cell t_54.out 0
  have z_60 : ((w8.alloc (.cells #[.int .i64 p, .slice Bc (n + 2) dc] 24))).cell? ⟨w8.heap.size, 1, none⟩ = some (.slice Bc (n + 2) dc) := Blk.cell t_54.out 1
  have hrd := (OwnB.rd (show OwnB _ (w.heap.size + 1 + 1) Bc (n + 2) dc (l ++ tieB a b M) from own_53.out)).1
  generalize hcq : chk p (l ++ tieB a b M) = cq at *
  have hc := rCheckSystem_any p Bc (n + 2) dc (l ++ tieB a b M) _ hrd (by unfold maxLen; omega)
  rw [hcq] at hc
  try dsimp only at hc
  have HC := Lib.hid hc; clear hc
  go_wp2_with fail
  refine HC.out.mono ?_
  rintro e w_61 ⟨rfl, hb⟩
  clear HC
  clear z_55 z_56 z_57 z_58 z_59 z_60
  have bel_62 := Lib.hid (Below.trans bel_50.out (Below.mono hb (bel_50.out.size)))
  clear bel_50
  have s_63 := Lib.hid (Blk.keep s_51.out hb)
  clear s_51
  have res_64 := Lib.hid (Blk.keep res_52.out hb)
  clear res_52
  have own_65 := Lib.hid (owns_below own_53.out hb)
  clear own_53
  have t_66 := Lib.hid (Blk.keep t_54.out hb)
  clear t_54
  clear hb
  have z_67 : (w_61).cell? ⟨w.heap.size, 0, none⟩ = some (.int .i64 p) := Blk.cell s_63.out 0
  have z_68 : (w_61).cell? ⟨w.heap.size, 1, none⟩ = some (.slice A n c) := Blk.cell s_63.out 1
  have z_69 : (w_61).cell? ⟨w.heap.size + 1, 0, none⟩ = some (.int .i64 0) := Blk.cell res_64.out 0
  have z_70 : (w_61).cell? ⟨w.heap.size + 1, 1, none⟩ = some (.slice none 0 0) := Blk.cell res_64.out 1
  have z_71 : (w_61).cell? ⟨w8.heap.size, 0, none⟩ = some (.int .i64 p) := Blk.cell t_66.out 0
  have z_72 : (w_61).cell? ⟨w8.heap.size, 1, none⟩ = some (.slice Bc (n + 2) dc) := Blk.cell t_66.out 1
  have f0 : (w_61).frozen? ⟨w.heap.size + 1, 0, none⟩ = false := Blk.frozen res_64.out 0
  have f1 : (w_61).frozen? ⟨w.heap.size + 1, 1, none⟩ = false := Blk.frozen res_64.out 1
  by_cases hz : cq = 0
  · subst hz
    go_wp2
    refine bodyPost_ret (v := .tuple #[.agg #[.int .i64 p, .slice Bc (n + 2) dc], .int .i64 0]) (by simp [results, Try.results23, go_sem, z_69, z_70]) rfl ?_
    refine ⟨Bc, n + 2, dc, by rw [sysR_yes], fun _ => ?_, (bel_62.out.setCell (p := ⟨w.heap.size + 1, 0, none⟩) (by simp) _).setCell (p := ⟨w.heap.size + 1, 1, none⟩) (by simp) _⟩
    exact owns_base (ownsRow_setCell_below (ownsRow_setCell_below own_65.out (a := ⟨w.heap.size + 1, 0, none⟩) (by simp) _) (a := ⟨w.heap.size + 1, 1, none⟩) (by simp) _) (by omega)
  · have hq : (cq != 0) = true := by simpa using hz
    have HQ := Lib.hid hz; clear hz
    go_wp2
    refine bodyPost_ret (v := .tuple #[.agg #[.int .i64 0, .slice none 0 0], .int .i64 cq]) (by simp [results, Try.results23, go_sem, z_69, z_70]) rfl ?_
    exact ⟨none, 0, 0, by rw [sysR_no HQ.out], fun h => absurd h HQ.out, (bel_62.out.setCell (p := ⟨w.heap.size + 1, 0, none⟩) (by simp) _).setCell (p := ⟨w.heap.size + 1, 1, none⟩) (by simp) _⟩

theorem rTie_any (p a b M : Int) (A : Option Addr) (n c : Nat) (l : List Bnd) (w : World) (hr : RdB w A n c l) (hn : n ≤ maxLen) : Calls Try.prog 23 #[.agg #[.int .i64 p, .slice A n c], .int .i64 a, .int .i64 b, .int .i64 M] w (RetS (tieC p l a b M) p (l ++ tieB a b M) w) := by
  unfold tieC gcode
  by_cases hk : chk p l = 0
  · obtain ⟨hp1, hp2, hlen, -⟩ := chk_ok hk
    have hn4 : n ≤ 400 := by have := hr.len; omega
    have h1 : (1 : Int) ≠ 0 := by decide
    have one : ¬ (1 : Int) = 0 := h1
    rw [if_pos hk]
    by_cases ha : 0 ≤ a ∧ a < p
    · have ta : (decide (0 ≤ a) && decide (a < p)) = true := by simp [ha.1, ha.2]
      by_cases hb : 0 ≤ b ∧ b < p
      · have tb : (decide (0 ≤ b) && decide (b < p)) = true := by simp [hb.1, hb.2]
        rw [if_pos (show [a, b].all (isPt p) = true from by simp [isPt]; omega), if_pos rfl]
        by_cases hab : a = b
        · rw [if_pos (.inl hab)]
          exact rT_eq p a b M A n c l w hr hn (Lib.hid h1) (Lib.hid hk) (Lib.hid ta) (Lib.hid tb) (by simpa using hab)
        · by_cases hM : -1000000 ≤ M ∧ M ≤ 1000000
          · rw [if_neg (fun h => h.elim (fun h => hab h) (fun h => h hM))]
            exact rT_ok p a b M A n c l w hr hn hn4 (Lib.hid hk) (Lib.hid ta) (Lib.hid tb) (by simpa using hab) (Lib.hid hM) hM.1 hM.2
          · rw [if_pos (.inr hM)]
            exact rT_far p a b M A n c l w hr hn (Lib.hid h1) (Lib.hid hk) (Lib.hid ta) (Lib.hid tb) (by simpa using hab) (Lib.hid hM)
      · rw [if_neg (show ¬ [a, b].all (isPt p) = true from by simp [isPt]; omega), if_neg one]
        exact rT_nb p a b M A n c l w hr hn (Lib.hid h1) (Lib.hid hk) (Lib.hid ta) (Lib.hid (by simp; omega))
    · rw [if_neg (show ¬ [a, b].all (isPt p) = true from by simp [isPt]; omega), if_neg one]
      exact rT_na p a b M A n c l w hr hn (Lib.hid h1) (Lib.hid hk) _ (Lib.hid (by simp; omega)) (Lib.hid rfl)
  · rw [if_neg hk, if_neg hk]
    exact rT_err p a b M A n c l w hr hn _ (by simpa using hk) (Lib.hid hk) (Lib.hid rfl)
end Go.Proofs.Ythlnialipjihdaa
