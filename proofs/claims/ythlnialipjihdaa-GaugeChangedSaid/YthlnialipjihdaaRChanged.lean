/- The reference's Changed. -/
import Derived.Test.YthlnialipjihdaaRWith
import Derived.Test.YthlnialipjihdaaRetT
import Derived.Test.YthlnialipjihdaaREnds
import Derived.Test.YthlnialipjihdaaShort
set_option linter.unusedSimpArgs false
set_option linter.unusedVariables false
namespace Go.Proofs.Ythlnialipjihdaa
open Go.RowKit

/-- Do the four least sums of two points differ? -/
def chgD (l l2 : List Bnd) (p a q : Nat) : Prop := dist l p a q ≠ dist l2 p a q ∨ dist l p q a ≠ dist l2 p q a
instance (l l2 : List Bnd) (p a q : Nat) : Decidable (chgD l l2 p a q) := inferInstanceAs (Decidable (_ ∨ _))
def chgR (l l2 : List Bnd) (p a k : Nat) : List Int := ((List.range k).filter (fun q => decide (chgD l l2 p a q))).map (fun q : Nat => (q : Int))
theorem chgR_succ (l l2 : List Bnd) (p a k : Nat) : chgR l l2 p a (k + 1) = if chgD l l2 p a k then chgR l l2 p a k ++ [(k : Int)] else chgR l l2 p a k := by
  unfold chgR
  rw [List.range_succ, List.filter_append, List.map_append]
  by_cases h : chgD l l2 p a k
  · rw [if_pos h]; simp [h]
  · rw [if_neg h]; simp [h]
theorem chgR_length (l l2 : List Bnd) (p a k : Nat) : (chgR l l2 p a k).length ≤ k := by
  unfold chgR
  rw [List.length_map]
  have := List.length_filter_le (fun q => decide (chgD l l2 p a q)) (List.range k)
  rwa [List.length_range] at this

theorem fin_inj {x y : Int} (h1 : fin x = fin y) (h2 : isF x = isF y) : x = y := by
  unfold fin isF at *
  by_cases hx : x = Inf
  · by_cases hy : y = Inf
    · rw [hx, hy]
    · simp [hx, hy] at h2
  · by_cases hy : y = Inf
    · simp [hx, hy] at h2
    · rw [if_neg hx, if_neg hy] at h1; exact h1

set_option maxRecDepth 100000 in
set_option maxHeartbeats 8000000 in
theorem rC_e1 (P f t m i a : Int) (A : Option Addr) (n k : Nat) (l : List Bnd) (w : World) (hr : RdB w A n k l) (hn : n ≤ maxLen) (qw pw : Int) (lw : List Bnd) (E1 : Hid (withC P l ⟨f, t, m, i⟩ = qw)) (E2 : Hid (sp qw P = pw)) (E3 : Hid (sl qw (l ++ [⟨f, t, m, i⟩]) = lw)) (hq : (qw != 0) = true) :
    Calls Try.prog 51 #[.agg #[.int .i64 P, .slice A n k], .agg #[.int .i64 f, .int .i64 t, .int .i64 m, .int .i64 i], .int .i64 a] w (RetL ([], qw) w) := by
  go_enter Try.func51, Try.ntmps51
  have bel_1 := Lib.hid (show Below w.heap.size w w from Below.refl _ w)
  have rd_2 := Lib.hid (hr)
  clear hr
  have bel_3 := Lib.hid (Below.alloc bel_1.out (bel_1.out.size) (.cells #[.int .i64 P, .slice A n k] 24))
  clear bel_1
  have rd_4 := Lib.hid (RdB.alloc rd_2.out (.cells #[.int .i64 P, .slice A n k] 24))
  clear rd_2
  have s_5 := Lib.hid (Blk.new w 24 #[.int .i64 P, .slice A n k])
  have bel_6 := Lib.hid (Below.alloc bel_3.out (bel_3.out.size) (.cells #[.int .i64 f, .int .i64 t, .int .i64 m, .int .i64 i] 54))
  clear bel_3
  have rd_7 := Lib.hid (RdB.alloc rd_4.out (.cells #[.int .i64 f, .int .i64 t, .int .i64 m, .int .i64 i] 54))
  clear rd_4
  have s_8 := Lib.hid (Blk.alloc s_5.out (.cells #[.int .i64 f, .int .i64 t, .int .i64 m, .int .i64 i] 54))
  clear s_5
  have nb_ := Blk.new (w.alloc (.cells #[.int .i64 P, .slice A n k] 24)) 54 #[.int .i64 f, .int .i64 t, .int .i64 m, .int .i64 i]
  simp only [World.size_alloc] at nb_
  have x_9 := Lib.hid nb_; clear nb_
  have hc := Calls.mono (rWith_any P f t m i A n k l _ rd_7.out hn) (fun e w' h => retT_of h)
  rw [E1.out] at hc
  rw [E2.out] at hc
  rw [E3.out] at hc
  have HC := Lib.hid hc; clear hc
  go_wp2_with fail
  refine HC.out.mono ?_
  rintro e w_10 ⟨At, nt, ct, rfl, ho, hb⟩
  clear HC
  have ow_11 := Lib.hid (owns_base ho (bel_6.out.size))
  have hmt := ownB_max ho
  have bel_12 := Lib.hid (Below.trans bel_6.out (Below.mono hb (bel_6.out.size)))
  clear bel_6
  have rd_13 := Lib.hid (RdB.below rd_7.out hb)
  clear rd_7
  have s_14 := Lib.hid (Blk.keep s_8.out hb)
  clear s_8
  have x_15 := Lib.hid (Blk.keep x_9.out hb)
  clear x_9
  have t_16 := Lib.hid ((OwnB.rd ho).1)
  clear ho hb
  have bel_17 := Lib.hid (Below.alloc bel_12.out (bel_12.out.size) (.cells #[.int .i64 pw, .slice At nt ct] 24))
  clear bel_12
  have rd_18 := Lib.hid (RdB.alloc rd_13.out (.cells #[.int .i64 pw, .slice At nt ct] 24))
  clear rd_13
  have s_19 := Lib.hid (Blk.alloc s_14.out (.cells #[.int .i64 pw, .slice At nt ct] 24))
  clear s_14
  have x_20 := Lib.hid (Blk.alloc x_15.out (.cells #[.int .i64 pw, .slice At nt ct] 24))
  clear x_15
  have ownt_21 := Lib.hid (World.ownsRow.alloc ow_11.out (.cells #[.int .i64 pw, .slice At nt ct] 24))
  clear ow_11
  have t_22 := Lib.hid (RdB.alloc t_16.out (.cells #[.int .i64 pw, .slice At nt ct] 24))
  clear t_16
  have st_23 := Lib.hid (Blk.new w_10 24 #[.int .i64 pw, .slice At nt ct])
  have z_24 : ((w_10.alloc (.cells #[.int .i64 pw, .slice At nt ct] 24))).cell? ⟨w.heap.size, 0, none⟩ = some (.int .i64 P) := Blk.cell s_19.out 0
  have z_25 : ((w_10.alloc (.cells #[.int .i64 pw, .slice At nt ct] 24))).cell? ⟨w.heap.size, 1, none⟩ = some (.slice A n k) := Blk.cell s_19.out 1
  have z_26 : ((w_10.alloc (.cells #[.int .i64 pw, .slice At nt ct] 24))).cell? ⟨w.heap.size + 1, 0, none⟩ = some (.int .i64 f) := Blk.cell x_20.out 0
  have z_27 : ((w_10.alloc (.cells #[.int .i64 pw, .slice At nt ct] 24))).cell? ⟨w.heap.size + 1, 1, none⟩ = some (.int .i64 t) := Blk.cell x_20.out 1
  have z_28 : ((w_10.alloc (.cells #[.int .i64 pw, .slice At nt ct] 24))).cell? ⟨w.heap.size + 1, 2, none⟩ = some (.int .i64 m) := Blk.cell x_20.out 2
  have z_29 : ((w_10.alloc (.cells #[.int .i64 pw, .slice At nt ct] 24))).cell? ⟨w.heap.size + 1, 3, none⟩ = some (.int .i64 i) := Blk.cell x_20.out 3
  have z_30 : ((w_10.alloc (.cells #[.int .i64 pw, .slice At nt ct] 24))).cell? ⟨w_10.heap.size, 0, none⟩ = some (.int .i64 pw) := Blk.cell st_23.out 0
  have z_31 : ((w_10.alloc (.cells #[.int .i64 pw, .slice At nt ct] 24))).cell? ⟨w_10.heap.size, 1, none⟩ = some (.slice At nt ct) := Blk.cell st_23.out 1
  go_wp2
  go_ret2
  exact ⟨none, 0, 0, rfl, OwnI.nil_ _ _, bel_17.out⟩

set_option maxRecDepth 100000 in
set_option maxHeartbeats 8000000 in
theorem rC_e2 (P f t m i a : Int) (A : Option Addr) (n k : Nat) (l : List Bnd) (w : World) (hr : RdB w A n k l) (hn : n ≤ maxLen) (lw : List Bnd) (E1 : Hid (withC P l ⟨f, t, m, i⟩ = 0)) (E2 : Hid (sp 0 P = P)) (E3 : Hid (sl 0 (l ++ [⟨f, t, m, i⟩]) = lw)) (q : Int) (hq : (q != 0) = true) (E4 : Hid (tup (greatT P l a a) = .tuple #[.int .i64 0, .bool false, .int .i64 q])) :
    Calls Try.prog 51 #[.agg #[.int .i64 P, .slice A n k], .agg #[.int .i64 f, .int .i64 t, .int .i64 m, .int .i64 i], .int .i64 a] w (RetL ([], q) w) := by
  go_enter Try.func51, Try.ntmps51
  have bel_1 := Lib.hid (show Below w.heap.size w w from Below.refl _ w)
  have rd_2 := Lib.hid (hr)
  clear hr
  have bel_3 := Lib.hid (Below.alloc bel_1.out (bel_1.out.size) (.cells #[.int .i64 P, .slice A n k] 24))
  clear bel_1
  have rd_4 := Lib.hid (RdB.alloc rd_2.out (.cells #[.int .i64 P, .slice A n k] 24))
  clear rd_2
  have s_5 := Lib.hid (Blk.new w 24 #[.int .i64 P, .slice A n k])
  have bel_6 := Lib.hid (Below.alloc bel_3.out (bel_3.out.size) (.cells #[.int .i64 f, .int .i64 t, .int .i64 m, .int .i64 i] 54))
  clear bel_3
  have rd_7 := Lib.hid (RdB.alloc rd_4.out (.cells #[.int .i64 f, .int .i64 t, .int .i64 m, .int .i64 i] 54))
  clear rd_4
  have s_8 := Lib.hid (Blk.alloc s_5.out (.cells #[.int .i64 f, .int .i64 t, .int .i64 m, .int .i64 i] 54))
  clear s_5
  have nb_ := Blk.new (w.alloc (.cells #[.int .i64 P, .slice A n k] 24)) 54 #[.int .i64 f, .int .i64 t, .int .i64 m, .int .i64 i]
  simp only [World.size_alloc] at nb_
  have x_9 := Lib.hid nb_; clear nb_
  have hc := Calls.mono (rWith_any P f t m i A n k l _ rd_7.out hn) (fun e w' h => retT_of h)
  rw [E1.out] at hc
  rw [E2.out] at hc
  rw [E3.out] at hc
  have HC := Lib.hid hc; clear hc
  go_wp2_with fail
  refine HC.out.mono ?_
  rintro e w_10 ⟨At, nt, ct, rfl, ho, hb⟩
  clear HC
  have ow_11 := Lib.hid (owns_base ho (bel_6.out.size))
  have hmt := ownB_max ho
  have bel_12 := Lib.hid (Below.trans bel_6.out (Below.mono hb (bel_6.out.size)))
  clear bel_6
  have rd_13 := Lib.hid (RdB.below rd_7.out hb)
  clear rd_7
  have s_14 := Lib.hid (Blk.keep s_8.out hb)
  clear s_8
  have x_15 := Lib.hid (Blk.keep x_9.out hb)
  clear x_9
  have t_16 := Lib.hid ((OwnB.rd ho).1)
  clear ho hb
  have bel_17 := Lib.hid (Below.alloc bel_12.out (bel_12.out.size) (.cells #[.int .i64 P, .slice At nt ct] 24))
  clear bel_12
  have rd_18 := Lib.hid (RdB.alloc rd_13.out (.cells #[.int .i64 P, .slice At nt ct] 24))
  clear rd_13
  have s_19 := Lib.hid (Blk.alloc s_14.out (.cells #[.int .i64 P, .slice At nt ct] 24))
  clear s_14
  have x_20 := Lib.hid (Blk.alloc x_15.out (.cells #[.int .i64 P, .slice At nt ct] 24))
  clear x_15
  have ownt_21 := Lib.hid (World.ownsRow.alloc ow_11.out (.cells #[.int .i64 P, .slice At nt ct] 24))
  clear ow_11
  have t_22 := Lib.hid (RdB.alloc t_16.out (.cells #[.int .i64 P, .slice At nt ct] 24))
  clear t_16
  have st_23 := Lib.hid (Blk.new w_10 24 #[.int .i64 P, .slice At nt ct])
  have z_24 : ((w_10.alloc (.cells #[.int .i64 P, .slice At nt ct] 24))).cell? ⟨w.heap.size, 0, none⟩ = some (.int .i64 P) := Blk.cell s_19.out 0
  have z_25 : ((w_10.alloc (.cells #[.int .i64 P, .slice At nt ct] 24))).cell? ⟨w.heap.size, 1, none⟩ = some (.slice A n k) := Blk.cell s_19.out 1
  have z_26 : ((w_10.alloc (.cells #[.int .i64 P, .slice At nt ct] 24))).cell? ⟨w.heap.size + 1, 0, none⟩ = some (.int .i64 f) := Blk.cell x_20.out 0
  have z_27 : ((w_10.alloc (.cells #[.int .i64 P, .slice At nt ct] 24))).cell? ⟨w.heap.size + 1, 1, none⟩ = some (.int .i64 t) := Blk.cell x_20.out 1
  have z_28 : ((w_10.alloc (.cells #[.int .i64 P, .slice At nt ct] 24))).cell? ⟨w.heap.size + 1, 2, none⟩ = some (.int .i64 m) := Blk.cell x_20.out 2
  have z_29 : ((w_10.alloc (.cells #[.int .i64 P, .slice At nt ct] 24))).cell? ⟨w.heap.size + 1, 3, none⟩ = some (.int .i64 i) := Blk.cell x_20.out 3
  have z_30 : ((w_10.alloc (.cells #[.int .i64 P, .slice At nt ct] 24))).cell? ⟨w_10.heap.size, 0, none⟩ = some (.int .i64 P) := Blk.cell st_23.out 0
  have z_31 : ((w_10.alloc (.cells #[.int .i64 P, .slice At nt ct] 24))).cell? ⟨w_10.heap.size, 1, none⟩ = some (.slice At nt ct) := Blk.cell st_23.out 1
  have hc := rGreatest_any P a a A n k l _ rd_18.out hn
  rw [E4.out] at hc
  try dsimp only at hc
  have HC := Lib.hid hc; clear hc
  go_wp2_with fail
  refine HC.out.mono ?_
  rintro e w_32 ⟨rfl, hb⟩
  clear HC
  clear z_24 z_25 z_26 z_27 z_28 z_29 z_30 z_31
  have bel_33 := Lib.hid (Below.trans bel_17.out (Below.mono hb (bel_17.out.size)))
  clear bel_17
  have rd_34 := Lib.hid (RdB.below rd_18.out hb)
  clear rd_18
  have s_35 := Lib.hid (Blk.keep s_19.out hb)
  clear s_19
  have x_36 := Lib.hid (Blk.keep x_20.out hb)
  clear x_20
  have ownt_37 := Lib.hid (owns_below ownt_21.out hb)
  clear ownt_21
  have t_38 := Lib.hid (RdB.below t_22.out hb)
  clear t_22
  have st_39 := Lib.hid (Blk.keep st_23.out hb)
  clear st_23
  clear hb
  have z_40 : (w_32).cell? ⟨w.heap.size, 0, none⟩ = some (.int .i64 P) := Blk.cell s_35.out 0
  have z_41 : (w_32).cell? ⟨w.heap.size, 1, none⟩ = some (.slice A n k) := Blk.cell s_35.out 1
  have z_42 : (w_32).cell? ⟨w.heap.size + 1, 0, none⟩ = some (.int .i64 f) := Blk.cell x_36.out 0
  have z_43 : (w_32).cell? ⟨w.heap.size + 1, 1, none⟩ = some (.int .i64 t) := Blk.cell x_36.out 1
  have z_44 : (w_32).cell? ⟨w.heap.size + 1, 2, none⟩ = some (.int .i64 m) := Blk.cell x_36.out 2
  have z_45 : (w_32).cell? ⟨w.heap.size + 1, 3, none⟩ = some (.int .i64 i) := Blk.cell x_36.out 3
  have z_46 : (w_32).cell? ⟨w_10.heap.size, 0, none⟩ = some (.int .i64 P) := Blk.cell st_39.out 0
  have z_47 : (w_32).cell? ⟨w_10.heap.size, 1, none⟩ = some (.slice At nt ct) := Blk.cell st_39.out 1
  go_wp2
  go_ret2
  exact ⟨none, 0, 0, rfl, OwnI.nil_ _ _, bel_33.out⟩

set_option maxRecDepth 100000 in
set_option maxHeartbeats 8000000 in
theorem rC_e3 (P f t m i a : Int) (A : Option Addr) (n k : Nat) (l : List Bnd) (w : World) (hr : RdB w A n k l) (hn : n ≤ maxLen) (lw : List Bnd) (E1 : Hid (withC P l ⟨f, t, m, i⟩ = 0)) (E2 : Hid (sp 0 P = P)) (E3 : Hid (sl 0 (l ++ [⟨f, t, m, i⟩]) = lw)) (q X : Int) (T : Bool) (hq : (q != 0) = true) (E4 : Hid (tup (greatT P l a a) = .tuple #[.int .i64 X, .bool T, .int .i64 0])) (E5 : Hid (tup (greatT P lw a a) = .tuple #[.int .i64 0, .bool false, .int .i64 q])) :
    Calls Try.prog 51 #[.agg #[.int .i64 P, .slice A n k], .agg #[.int .i64 f, .int .i64 t, .int .i64 m, .int .i64 i], .int .i64 a] w (RetL ([], q) w) := by
  go_enter Try.func51, Try.ntmps51
  have bel_1 := Lib.hid (show Below w.heap.size w w from Below.refl _ w)
  have rd_2 := Lib.hid (hr)
  clear hr
  have bel_3 := Lib.hid (Below.alloc bel_1.out (bel_1.out.size) (.cells #[.int .i64 P, .slice A n k] 24))
  clear bel_1
  have rd_4 := Lib.hid (RdB.alloc rd_2.out (.cells #[.int .i64 P, .slice A n k] 24))
  clear rd_2
  have s_5 := Lib.hid (Blk.new w 24 #[.int .i64 P, .slice A n k])
  have bel_6 := Lib.hid (Below.alloc bel_3.out (bel_3.out.size) (.cells #[.int .i64 f, .int .i64 t, .int .i64 m, .int .i64 i] 54))
  clear bel_3
  have rd_7 := Lib.hid (RdB.alloc rd_4.out (.cells #[.int .i64 f, .int .i64 t, .int .i64 m, .int .i64 i] 54))
  clear rd_4
  have s_8 := Lib.hid (Blk.alloc s_5.out (.cells #[.int .i64 f, .int .i64 t, .int .i64 m, .int .i64 i] 54))
  clear s_5
  have nb_ := Blk.new (w.alloc (.cells #[.int .i64 P, .slice A n k] 24)) 54 #[.int .i64 f, .int .i64 t, .int .i64 m, .int .i64 i]
  simp only [World.size_alloc] at nb_
  have x_9 := Lib.hid nb_; clear nb_
  have hc := Calls.mono (rWith_any P f t m i A n k l _ rd_7.out hn) (fun e w' h => retT_of h)
  rw [E1.out] at hc
  rw [E2.out] at hc
  rw [E3.out] at hc
  have HC := Lib.hid hc; clear hc
  go_wp2_with fail
  refine HC.out.mono ?_
  rintro e w_10 ⟨At, nt, ct, rfl, ho, hb⟩
  clear HC
  have ow_11 := Lib.hid (owns_base ho (bel_6.out.size))
  have hmt := ownB_max ho
  have bel_12 := Lib.hid (Below.trans bel_6.out (Below.mono hb (bel_6.out.size)))
  clear bel_6
  have rd_13 := Lib.hid (RdB.below rd_7.out hb)
  clear rd_7
  have s_14 := Lib.hid (Blk.keep s_8.out hb)
  clear s_8
  have x_15 := Lib.hid (Blk.keep x_9.out hb)
  clear x_9
  have t_16 := Lib.hid ((OwnB.rd ho).1)
  clear ho hb
  have bel_17 := Lib.hid (Below.alloc bel_12.out (bel_12.out.size) (.cells #[.int .i64 P, .slice At nt ct] 24))
  clear bel_12
  have rd_18 := Lib.hid (RdB.alloc rd_13.out (.cells #[.int .i64 P, .slice At nt ct] 24))
  clear rd_13
  have s_19 := Lib.hid (Blk.alloc s_14.out (.cells #[.int .i64 P, .slice At nt ct] 24))
  clear s_14
  have x_20 := Lib.hid (Blk.alloc x_15.out (.cells #[.int .i64 P, .slice At nt ct] 24))
  clear x_15
  have ownt_21 := Lib.hid (World.ownsRow.alloc ow_11.out (.cells #[.int .i64 P, .slice At nt ct] 24))
  clear ow_11
  have t_22 := Lib.hid (RdB.alloc t_16.out (.cells #[.int .i64 P, .slice At nt ct] 24))
  clear t_16
  have st_23 := Lib.hid (Blk.new w_10 24 #[.int .i64 P, .slice At nt ct])
  have z_24 : ((w_10.alloc (.cells #[.int .i64 P, .slice At nt ct] 24))).cell? ⟨w.heap.size, 0, none⟩ = some (.int .i64 P) := Blk.cell s_19.out 0
  have z_25 : ((w_10.alloc (.cells #[.int .i64 P, .slice At nt ct] 24))).cell? ⟨w.heap.size, 1, none⟩ = some (.slice A n k) := Blk.cell s_19.out 1
  have z_26 : ((w_10.alloc (.cells #[.int .i64 P, .slice At nt ct] 24))).cell? ⟨w.heap.size + 1, 0, none⟩ = some (.int .i64 f) := Blk.cell x_20.out 0
  have z_27 : ((w_10.alloc (.cells #[.int .i64 P, .slice At nt ct] 24))).cell? ⟨w.heap.size + 1, 1, none⟩ = some (.int .i64 t) := Blk.cell x_20.out 1
  have z_28 : ((w_10.alloc (.cells #[.int .i64 P, .slice At nt ct] 24))).cell? ⟨w.heap.size + 1, 2, none⟩ = some (.int .i64 m) := Blk.cell x_20.out 2
  have z_29 : ((w_10.alloc (.cells #[.int .i64 P, .slice At nt ct] 24))).cell? ⟨w.heap.size + 1, 3, none⟩ = some (.int .i64 i) := Blk.cell x_20.out 3
  have z_30 : ((w_10.alloc (.cells #[.int .i64 P, .slice At nt ct] 24))).cell? ⟨w_10.heap.size, 0, none⟩ = some (.int .i64 P) := Blk.cell st_23.out 0
  have z_31 : ((w_10.alloc (.cells #[.int .i64 P, .slice At nt ct] 24))).cell? ⟨w_10.heap.size, 1, none⟩ = some (.slice At nt ct) := Blk.cell st_23.out 1
  have hc := rGreatest_any P a a A n k l _ rd_18.out hn
  rw [E4.out] at hc
  try dsimp only at hc
  have HC := Lib.hid hc; clear hc
  go_wp2_with fail
  refine HC.out.mono ?_
  rintro e w_32 ⟨rfl, hb⟩
  clear HC
  clear z_24 z_25 z_26 z_27 z_28 z_29 z_30 z_31
  have bel_33 := Lib.hid (Below.trans bel_17.out (Below.mono hb (bel_17.out.size)))
  clear bel_17
  have rd_34 := Lib.hid (RdB.below rd_18.out hb)
  clear rd_18
  have s_35 := Lib.hid (Blk.keep s_19.out hb)
  clear s_19
  have x_36 := Lib.hid (Blk.keep x_20.out hb)
  clear x_20
  have ownt_37 := Lib.hid (owns_below ownt_21.out hb)
  clear ownt_21
  have t_38 := Lib.hid (RdB.below t_22.out hb)
  clear t_22
  have st_39 := Lib.hid (Blk.keep st_23.out hb)
  clear st_23
  clear hb
  have z_40 : (w_32).cell? ⟨w.heap.size, 0, none⟩ = some (.int .i64 P) := Blk.cell s_35.out 0
  have z_41 : (w_32).cell? ⟨w.heap.size, 1, none⟩ = some (.slice A n k) := Blk.cell s_35.out 1
  have z_42 : (w_32).cell? ⟨w.heap.size + 1, 0, none⟩ = some (.int .i64 f) := Blk.cell x_36.out 0
  have z_43 : (w_32).cell? ⟨w.heap.size + 1, 1, none⟩ = some (.int .i64 t) := Blk.cell x_36.out 1
  have z_44 : (w_32).cell? ⟨w.heap.size + 1, 2, none⟩ = some (.int .i64 m) := Blk.cell x_36.out 2
  have z_45 : (w_32).cell? ⟨w.heap.size + 1, 3, none⟩ = some (.int .i64 i) := Blk.cell x_36.out 3
  have z_46 : (w_32).cell? ⟨w_10.heap.size, 0, none⟩ = some (.int .i64 P) := Blk.cell st_39.out 0
  have z_47 : (w_32).cell? ⟨w_10.heap.size, 1, none⟩ = some (.slice At nt ct) := Blk.cell st_39.out 1
  have hc := rGreatest_any P a a At nt ct lw _ t_38.out hmt
  rw [E5.out] at hc
  try dsimp only at hc
  have HC := Lib.hid hc; clear hc
  go_wp2_with fail
  refine HC.out.mono ?_
  rintro e w_48 ⟨rfl, hb⟩
  clear HC
  clear z_40 z_41 z_42 z_43 z_44 z_45 z_46 z_47
  have bel_49 := Lib.hid (Below.trans bel_33.out (Below.mono hb (bel_33.out.size)))
  clear bel_33
  have rd_50 := Lib.hid (RdB.below rd_34.out hb)
  clear rd_34
  have s_51 := Lib.hid (Blk.keep s_35.out hb)
  clear s_35
  have x_52 := Lib.hid (Blk.keep x_36.out hb)
  clear x_36
  have ownt_53 := Lib.hid (owns_below ownt_37.out hb)
  clear ownt_37
  have t_54 := Lib.hid (RdB.below t_38.out hb)
  clear t_38
  have st_55 := Lib.hid (Blk.keep st_39.out hb)
  clear st_39
  clear hb
  have z_56 : (w_48).cell? ⟨w.heap.size, 0, none⟩ = some (.int .i64 P) := Blk.cell s_51.out 0
  have z_57 : (w_48).cell? ⟨w.heap.size, 1, none⟩ = some (.slice A n k) := Blk.cell s_51.out 1
  have z_58 : (w_48).cell? ⟨w.heap.size + 1, 0, none⟩ = some (.int .i64 f) := Blk.cell x_52.out 0
  have z_59 : (w_48).cell? ⟨w.heap.size + 1, 1, none⟩ = some (.int .i64 t) := Blk.cell x_52.out 1
  have z_60 : (w_48).cell? ⟨w.heap.size + 1, 2, none⟩ = some (.int .i64 m) := Blk.cell x_52.out 2
  have z_61 : (w_48).cell? ⟨w.heap.size + 1, 3, none⟩ = some (.int .i64 i) := Blk.cell x_52.out 3
  have z_62 : (w_48).cell? ⟨w_10.heap.size, 0, none⟩ = some (.int .i64 P) := Blk.cell st_55.out 0
  have z_63 : (w_48).cell? ⟨w_10.heap.size, 1, none⟩ = some (.slice At nt ct) := Blk.cell st_55.out 1
  go_wp2
  go_ret2
  exact ⟨none, 0, 0, rfl, OwnI.nil_ _ _, bel_49.out⟩

set_option maxRecDepth 100000 in
set_option maxHeartbeats 8000000 in
theorem rC_ok (p : Nat) (f t m i : Int) (a : Nat) (A : Option Addr) (n k : Nat) (l : List Bnd) (w : World) (hr : RdB w A n k l) (hn : n ≤ maxLen) (hn4 : n ≤ 402) (hp : p ≤ 60) (ha : a < p) (lw : List Bnd) (E1 : Hid (withC (p : Int) l ⟨f, t, m, i⟩ = 0)) (E2 : Hid (sp 0 (p : Int) = (p : Int))) (E3 : Hid (sl 0 (l ++ [⟨f, t, m, i⟩]) = lw)) (X Y : Int) (T U : Bool) (E4 : Hid (tup (greatT (p : Int) l (a : Int) (a : Int)) = .tuple #[.int .i64 X, .bool T, .int .i64 0])) (E5 : Hid (tup (greatT (p : Int) lw (a : Int) (a : Int)) = .tuple #[.int .i64 Y, .bool U, .int .i64 0]))
    (hk1 : chk p l = 0) (hs1 : (settle l p zeros).isSome = true) (hk2 : chk p lw = 0) (hs2 : (settle lw p zeros).isSome = true) (hl5 : lw.length ≤ 402) :
    Calls Try.prog 51 #[.agg #[.int .i64 (p : Int), .slice A n k], .agg #[.int .i64 f, .int .i64 t, .int .i64 m, .int .i64 i], .int .i64 (a : Int)] w (RetL (chgR l lw p a p, 0) w) := by
  go_enter Try.func51, Try.ntmps51
  have bel_1 := Lib.hid (show Below w.heap.size w w from Below.refl _ w)
  have rd_2 := Lib.hid (hr)
  clear hr
  have bel_3 := Lib.hid (Below.alloc bel_1.out (bel_1.out.size) (.cells #[.int .i64 (p : Int), .slice A n k] 24))
  clear bel_1
  have rd_4 := Lib.hid (RdB.alloc rd_2.out (.cells #[.int .i64 (p : Int), .slice A n k] 24))
  clear rd_2
  have s_5 := Lib.hid (Blk.new w 24 #[.int .i64 (p : Int), .slice A n k])
  have bel_6 := Lib.hid (Below.alloc bel_3.out (bel_3.out.size) (.cells #[.int .i64 f, .int .i64 t, .int .i64 m, .int .i64 i] 54))
  clear bel_3
  have rd_7 := Lib.hid (RdB.alloc rd_4.out (.cells #[.int .i64 f, .int .i64 t, .int .i64 m, .int .i64 i] 54))
  clear rd_4
  have s_8 := Lib.hid (Blk.alloc s_5.out (.cells #[.int .i64 f, .int .i64 t, .int .i64 m, .int .i64 i] 54))
  clear s_5
  have nb_ := Blk.new (w.alloc (.cells #[.int .i64 (p : Int), .slice A n k] 24)) 54 #[.int .i64 f, .int .i64 t, .int .i64 m, .int .i64 i]
  simp only [World.size_alloc] at nb_
  have x_9 := Lib.hid nb_; clear nb_
  have hc := Calls.mono (rWith_any (p : Int) f t m i A n k l _ rd_7.out hn) (fun e w' h => retT_of h)
  rw [E1.out] at hc
  rw [E2.out] at hc
  rw [E3.out] at hc
  have HC := Lib.hid hc; clear hc
  go_wp2_with fail
  refine HC.out.mono ?_
  rintro e w_10 ⟨At, nt, ct, rfl, ho, hb⟩
  clear HC
  have ow_11 := Lib.hid (owns_base ho (bel_6.out.size))
  have hmt := ownB_max ho
  have bel_12 := Lib.hid (Below.trans bel_6.out (Below.mono hb (bel_6.out.size)))
  clear bel_6
  have rd_13 := Lib.hid (RdB.below rd_7.out hb)
  clear rd_7
  have s_14 := Lib.hid (Blk.keep s_8.out hb)
  clear s_8
  have x_15 := Lib.hid (Blk.keep x_9.out hb)
  clear x_9
  have t_16 := Lib.hid ((OwnB.rd ho).1)
  clear ho hb
  have bel_17 := Lib.hid (Below.alloc bel_12.out (bel_12.out.size) (.cells #[.int .i64 (p : Int), .slice At nt ct] 24))
  clear bel_12
  have rd_18 := Lib.hid (RdB.alloc rd_13.out (.cells #[.int .i64 (p : Int), .slice At nt ct] 24))
  clear rd_13
  have s_19 := Lib.hid (Blk.alloc s_14.out (.cells #[.int .i64 (p : Int), .slice At nt ct] 24))
  clear s_14
  have x_20 := Lib.hid (Blk.alloc x_15.out (.cells #[.int .i64 (p : Int), .slice At nt ct] 24))
  clear x_15
  have ownt_21 := Lib.hid (World.ownsRow.alloc ow_11.out (.cells #[.int .i64 (p : Int), .slice At nt ct] 24))
  clear ow_11
  have t_22 := Lib.hid (RdB.alloc t_16.out (.cells #[.int .i64 (p : Int), .slice At nt ct] 24))
  clear t_16
  have st_23 := Lib.hid (Blk.new w_10 24 #[.int .i64 (p : Int), .slice At nt ct])
  have z_24 : ((w_10.alloc (.cells #[.int .i64 (p : Int), .slice At nt ct] 24))).cell? ⟨w.heap.size, 0, none⟩ = some (.int .i64 (p : Int)) := Blk.cell s_19.out 0
  have z_25 : ((w_10.alloc (.cells #[.int .i64 (p : Int), .slice At nt ct] 24))).cell? ⟨w.heap.size, 1, none⟩ = some (.slice A n k) := Blk.cell s_19.out 1
  have z_26 : ((w_10.alloc (.cells #[.int .i64 (p : Int), .slice At nt ct] 24))).cell? ⟨w.heap.size + 1, 0, none⟩ = some (.int .i64 f) := Blk.cell x_20.out 0
  have z_27 : ((w_10.alloc (.cells #[.int .i64 (p : Int), .slice At nt ct] 24))).cell? ⟨w.heap.size + 1, 1, none⟩ = some (.int .i64 t) := Blk.cell x_20.out 1
  have z_28 : ((w_10.alloc (.cells #[.int .i64 (p : Int), .slice At nt ct] 24))).cell? ⟨w.heap.size + 1, 2, none⟩ = some (.int .i64 m) := Blk.cell x_20.out 2
  have z_29 : ((w_10.alloc (.cells #[.int .i64 (p : Int), .slice At nt ct] 24))).cell? ⟨w.heap.size + 1, 3, none⟩ = some (.int .i64 i) := Blk.cell x_20.out 3
  have z_30 : ((w_10.alloc (.cells #[.int .i64 (p : Int), .slice At nt ct] 24))).cell? ⟨w_10.heap.size, 0, none⟩ = some (.int .i64 (p : Int)) := Blk.cell st_23.out 0
  have z_31 : ((w_10.alloc (.cells #[.int .i64 (p : Int), .slice At nt ct] 24))).cell? ⟨w_10.heap.size, 1, none⟩ = some (.slice At nt ct) := Blk.cell st_23.out 1
  have hc := rGreatest_any (p : Int) (a : Int) (a : Int) A n k l _ rd_18.out hn
  rw [E4.out] at hc
  try dsimp only at hc
  have HC := Lib.hid hc; clear hc
  go_wp2_with fail
  refine HC.out.mono ?_
  rintro e w_32 ⟨rfl, hb⟩
  clear HC
  clear z_24 z_25 z_26 z_27 z_28 z_29 z_30 z_31
  have bel_33 := Lib.hid (Below.trans bel_17.out (Below.mono hb (bel_17.out.size)))
  clear bel_17
  have rd_34 := Lib.hid (RdB.below rd_18.out hb)
  clear rd_18
  have s_35 := Lib.hid (Blk.keep s_19.out hb)
  clear s_19
  have x_36 := Lib.hid (Blk.keep x_20.out hb)
  clear x_20
  have ownt_37 := Lib.hid (owns_below ownt_21.out hb)
  clear ownt_21
  have t_38 := Lib.hid (RdB.below t_22.out hb)
  clear t_22
  have st_39 := Lib.hid (Blk.keep st_23.out hb)
  clear st_23
  clear hb
  have z_40 : (w_32).cell? ⟨w.heap.size, 0, none⟩ = some (.int .i64 (p : Int)) := Blk.cell s_35.out 0
  have z_41 : (w_32).cell? ⟨w.heap.size, 1, none⟩ = some (.slice A n k) := Blk.cell s_35.out 1
  have z_42 : (w_32).cell? ⟨w.heap.size + 1, 0, none⟩ = some (.int .i64 f) := Blk.cell x_36.out 0
  have z_43 : (w_32).cell? ⟨w.heap.size + 1, 1, none⟩ = some (.int .i64 t) := Blk.cell x_36.out 1
  have z_44 : (w_32).cell? ⟨w.heap.size + 1, 2, none⟩ = some (.int .i64 m) := Blk.cell x_36.out 2
  have z_45 : (w_32).cell? ⟨w.heap.size + 1, 3, none⟩ = some (.int .i64 i) := Blk.cell x_36.out 3
  have z_46 : (w_32).cell? ⟨w_10.heap.size, 0, none⟩ = some (.int .i64 (p : Int)) := Blk.cell st_39.out 0
  have z_47 : (w_32).cell? ⟨w_10.heap.size, 1, none⟩ = some (.slice At nt ct) := Blk.cell st_39.out 1
  have hc := rGreatest_any (p : Int) (a : Int) (a : Int) At nt ct lw _ t_38.out hmt
  rw [E5.out] at hc
  try dsimp only at hc
  have HC := Lib.hid hc; clear hc
  go_wp2_with fail
  refine HC.out.mono ?_
  rintro e w_48 ⟨rfl, hb⟩
  clear HC
  clear z_40 z_41 z_42 z_43 z_44 z_45 z_46 z_47
  have bel_49 := Lib.hid (Below.trans bel_33.out (Below.mono hb (bel_33.out.size)))
  clear bel_33
  have rd_50 := Lib.hid (RdB.below rd_34.out hb)
  clear rd_34
  have s_51 := Lib.hid (Blk.keep s_35.out hb)
  clear s_35
  have x_52 := Lib.hid (Blk.keep x_36.out hb)
  clear x_36
  have ownt_53 := Lib.hid (owns_below ownt_37.out hb)
  clear ownt_37
  have t_54 := Lib.hid (RdB.below t_38.out hb)
  clear t_38
  have st_55 := Lib.hid (Blk.keep st_39.out hb)
  clear st_39
  clear hb
  have z_56 : (w_48).cell? ⟨w.heap.size, 0, none⟩ = some (.int .i64 (p : Int)) := Blk.cell s_51.out 0
  have z_57 : (w_48).cell? ⟨w.heap.size, 1, none⟩ = some (.slice A n k) := Blk.cell s_51.out 1
  have z_58 : (w_48).cell? ⟨w.heap.size + 1, 0, none⟩ = some (.int .i64 f) := Blk.cell x_52.out 0
  have z_59 : (w_48).cell? ⟨w.heap.size + 1, 1, none⟩ = some (.int .i64 t) := Blk.cell x_52.out 1
  have z_60 : (w_48).cell? ⟨w.heap.size + 1, 2, none⟩ = some (.int .i64 m) := Blk.cell x_52.out 2
  have z_61 : (w_48).cell? ⟨w.heap.size + 1, 3, none⟩ = some (.int .i64 i) := Blk.cell x_52.out 3
  have z_62 : (w_48).cell? ⟨w_10.heap.size, 0, none⟩ = some (.int .i64 (p : Int)) := Blk.cell st_55.out 0
  have z_63 : (w_48).cell? ⟨w_10.heap.size, 1, none⟩ = some (.slice At nt ct) := Blk.cell st_55.out 1
  clear z_56 z_57 z_58 z_59 z_60 z_61 z_62 z_63
  have hls := Blk.lt s_51.out; have hlt_ := Blk.lt st_55.out
  obtain ⟨i0, hi0, hz0, hz1, hz2⟩ := info_parts infoI
  have HI := Lib.hid hi0; have HZ0 := Lib.hid hz0; have HZ1 := Lib.hid hz1; have HZ2 := Lib.hid hz2; clear hi0 hz0 hz1 hz2
  go_wp2
  go_loopw [17, 16] (fun i v wr => ∃ q : Nat, q ≤ p ∧ i = .int .i64 q ∧ wr.ownsRow w_48.heap.size 3 1 v (chgR l lw p a q).length ((chgR l lw p a q).map (Value.int .i64)) ∧ Below w_48.heap.size w_48 wr) (fun i _ _ => p - (intOf i).toNat)
  case atStart => exact ⟨0, Nat.zero_le _, rfl, World.ownsRow_nil _ _ _ _, Below.refl _ _⟩
  case round =>
    obtain ⟨q, hq, rfl, hown, hbe⟩ := hrel
    have OW := Lib.hid hown; have HBE := Lib.hid hbe; clear hown hbe
    have hlq := chgR_length l lw p a q
    have SB0 := Lib.hid (Blk.keep s_51.out HBE.out); have TB0 := Lib.hid (Blk.keep st_55.out HBE.out)
    by_cases hlt : q < p
    · have hlt' : (q : Int) < (p : Int) := by omega
      have R0 := Lib.hid (RdB.below rd_50.out HBE.out); have R1 := Lib.hid (RdB.below t_54.out HBE.out)
      have hn5 : nt ≤ 402 := by rw [← R1.out.len]; exact hl5
      obtain ⟨X0, hX0⟩ : ∃ X, fin (dist l p a q) = X := ⟨_, rfl⟩
      obtain ⟨T0, hT0⟩ : ∃ T, isF (dist l p a q) = T := ⟨_, rfl⟩
      have HX0 := Lib.hid hX0; have HT0 := Lib.hid hT0; clear hX0 hT0
      obtain ⟨X1, hX1⟩ : ∃ X, fin (dist lw p a q) = X := ⟨_, rfl⟩
      obtain ⟨T1, hT1⟩ : ∃ T, isF (dist lw p a q) = T := ⟨_, rfl⟩
      have HX1 := Lib.hid hX1; have HT1 := Lib.hid hT1; clear hX1 hT1
      obtain ⟨X2, hX2⟩ : ∃ X, fin (dist l p q a) = X := ⟨_, rfl⟩
      obtain ⟨T2, hT2⟩ : ∃ T, isF (dist l p q a) = T := ⟨_, rfl⟩
      have HX2 := Lib.hid hX2; have HT2 := Lib.hid hT2; clear hX2 hT2
      obtain ⟨X3, hX3⟩ : ∃ X, fin (dist lw p q a) = X := ⟨_, rfl⟩
      obtain ⟨T3, hT3⟩ : ∃ T, isF (dist lw p q a) = T := ⟨_, rfl⟩
      have HX3 := Lib.hid hX3; have HT3 := Lib.hid hT3; clear hX3 hT3
      have z_501 : (wr).cell? ⟨w.heap.size, 0, none⟩ = some (.int .i64 (p : Int)) := Blk.cell SB0.out 0
      have z_502 : (wr).cell? ⟨w.heap.size, 1, none⟩ = some (.slice A n k) := Blk.cell SB0.out 1
      have z_503 : (wr).cell? ⟨w_10.heap.size, 0, none⟩ = some (.int .i64 (p : Int)) := Blk.cell TB0.out 0
      have z_504 : (wr).cell? ⟨w_10.heap.size, 1, none⟩ = some (.slice At nt ct) := Blk.cell TB0.out 1
      have hc := rgreat_any p a q A n k l _ R0.out hn4 hk1 hs1 ha hlt
      rw [HX0.out] at hc
      rw [HT0.out] at hc
      try dsimp only at hc
      have HC := Lib.hid hc; clear hc
      go_wp2_with fail
      refine HC.out.mono ?_
      rintro e w_505 ⟨rfl, hb⟩
      clear HC
      clear z_501 z_502 z_503 z_504
      have own_506 := Lib.hid (owns_below OW.out hb)
      clear OW
      have be_507 := Lib.hid (Below.trans HBE.out (Below.mono hb (HBE.out.size)))
      clear HBE
      have s_508 := Lib.hid (Blk.keep SB0.out hb)
      clear SB0
      have st_509 := Lib.hid (Blk.keep TB0.out hb)
      clear TB0
      have rd_510 := Lib.hid (RdB.below R0.out hb)
      clear R0
      have t_511 := Lib.hid (RdB.below R1.out hb)
      clear R1
      clear hb
      have z_512 : (w_505).cell? ⟨w.heap.size, 0, none⟩ = some (.int .i64 (p : Int)) := Blk.cell s_508.out 0
      have z_513 : (w_505).cell? ⟨w.heap.size, 1, none⟩ = some (.slice A n k) := Blk.cell s_508.out 1
      have z_514 : (w_505).cell? ⟨w_10.heap.size, 0, none⟩ = some (.int .i64 (p : Int)) := Blk.cell st_509.out 0
      have z_515 : (w_505).cell? ⟨w_10.heap.size, 1, none⟩ = some (.slice At nt ct) := Blk.cell st_509.out 1
      have hc := rgreat_any p a q At nt ct lw _ t_511.out hn5 hk2 hs2 ha hlt
      rw [HX1.out] at hc
      rw [HT1.out] at hc
      try dsimp only at hc
      have HC := Lib.hid hc; clear hc
      go_wp2_with fail
      refine HC.out.mono ?_
      rintro e w_516 ⟨rfl, hb⟩
      clear HC
      clear z_512 z_513 z_514 z_515
      have own_517 := Lib.hid (owns_below own_506.out hb)
      clear own_506
      have be_518 := Lib.hid (Below.trans be_507.out (Below.mono hb (be_507.out.size)))
      clear be_507
      have s_519 := Lib.hid (Blk.keep s_508.out hb)
      clear s_508
      have st_520 := Lib.hid (Blk.keep st_509.out hb)
      clear st_509
      have rd_521 := Lib.hid (RdB.below rd_510.out hb)
      clear rd_510
      have t_522 := Lib.hid (RdB.below t_511.out hb)
      clear t_511
      clear hb
      have z_523 : (w_516).cell? ⟨w.heap.size, 0, none⟩ = some (.int .i64 (p : Int)) := Blk.cell s_519.out 0
      have z_524 : (w_516).cell? ⟨w.heap.size, 1, none⟩ = some (.slice A n k) := Blk.cell s_519.out 1
      have z_525 : (w_516).cell? ⟨w_10.heap.size, 0, none⟩ = some (.int .i64 (p : Int)) := Blk.cell st_520.out 0
      have z_526 : (w_516).cell? ⟨w_10.heap.size, 1, none⟩ = some (.slice At nt ct) := Blk.cell st_520.out 1
      have hc := rgreat_any p q a A n k l _ rd_521.out hn4 hk1 hs1 hlt ha
      rw [HX2.out] at hc
      rw [HT2.out] at hc
      try dsimp only at hc
      have HC := Lib.hid hc; clear hc
      go_wp2_with fail
      refine HC.out.mono ?_
      rintro e w_527 ⟨rfl, hb⟩
      clear HC
      clear z_523 z_524 z_525 z_526
      have own_528 := Lib.hid (owns_below own_517.out hb)
      clear own_517
      have be_529 := Lib.hid (Below.trans be_518.out (Below.mono hb (be_518.out.size)))
      clear be_518
      have s_530 := Lib.hid (Blk.keep s_519.out hb)
      clear s_519
      have st_531 := Lib.hid (Blk.keep st_520.out hb)
      clear st_520
      have rd_532 := Lib.hid (RdB.below rd_521.out hb)
      clear rd_521
      have t_533 := Lib.hid (RdB.below t_522.out hb)
      clear t_522
      clear hb
      have z_534 : (w_527).cell? ⟨w.heap.size, 0, none⟩ = some (.int .i64 (p : Int)) := Blk.cell s_530.out 0
      have z_535 : (w_527).cell? ⟨w.heap.size, 1, none⟩ = some (.slice A n k) := Blk.cell s_530.out 1
      have z_536 : (w_527).cell? ⟨w_10.heap.size, 0, none⟩ = some (.int .i64 (p : Int)) := Blk.cell st_531.out 0
      have z_537 : (w_527).cell? ⟨w_10.heap.size, 1, none⟩ = some (.slice At nt ct) := Blk.cell st_531.out 1
      have hc := rgreat_any p q a At nt ct lw _ t_533.out hn5 hk2 hs2 hlt ha
      rw [HX3.out] at hc
      rw [HT3.out] at hc
      try dsimp only at hc
      have HC := Lib.hid hc; clear hc
      go_wp2_with fail
      refine HC.out.mono ?_
      rintro e w_538 ⟨rfl, hb⟩
      clear HC
      clear z_534 z_535 z_536 z_537
      have own_539 := Lib.hid (owns_below own_528.out hb)
      clear own_528
      have be_540 := Lib.hid (Below.trans be_529.out (Below.mono hb (be_529.out.size)))
      clear be_529
      have s_541 := Lib.hid (Blk.keep s_530.out hb)
      clear s_530
      have st_542 := Lib.hid (Blk.keep st_531.out hb)
      clear st_531
      have rd_543 := Lib.hid (RdB.below rd_532.out hb)
      clear rd_532
      have t_544 := Lib.hid (RdB.below t_533.out hb)
      clear t_533
      clear hb
      have z_545 : (w_538).cell? ⟨w.heap.size, 0, none⟩ = some (.int .i64 (p : Int)) := Blk.cell s_541.out 0
      have z_546 : (w_538).cell? ⟨w.heap.size, 1, none⟩ = some (.slice A n k) := Blk.cell s_541.out 1
      have z_547 : (w_538).cell? ⟨w_10.heap.size, 0, none⟩ = some (.int .i64 (p : Int)) := Blk.cell st_542.out 0
      have z_548 : (w_538).cell? ⟨w_10.heap.size, 1, none⟩ = some (.slice At nt ct) := Blk.cell st_542.out 1
      clear z_545 z_546 z_547 z_548
      have hsu := chgR_succ l lw p a q
      by_cases hch : chgD l lw p a q
      · rw [if_pos hch] at hsu
        have HSU := Lib.hid hsu; have HCH := Lib.hid hch; clear hsu hch
        by_cases hne : X0 = X1
        · subst hne
          cases T0
          · cases T1
            · by_cases hne : X2 = X3
              · subst hne
                cases T2
                · cases T3
                  · exact absurd (HCH.out) (by unfold chgD; have e1 := fin_inj (HX0.out.trans HX1.out.symm) (HT0.out.trans HT1.out.symm); have e2 := fin_inj (HX2.out.trans HX3.out.symm) (HT2.out.trans HT3.out.symm); simp [e1, e2])
                  · have OA := Lib.hid (World.ownsRow.alloc own_539.out (.cells #[.int .i64 (q : Int)] 3))
                    have N1 := Lib.hid (Blk.new w_538 3 #[.int .i64 (q : Int)])
                    have hbb := Below.alloc be_540.out (be_540.out.size) (.cells #[.int .i64 (q : Int)] 3)
                    have HBB := Lib.hid hbb; clear hbb
                    have hsz_ : w_48.heap.size ≤ (w_538.alloc (.cells #[.int .i64 (q : Int)] 3)).heap.size := HBB.out.size
                    have HSZ_ := Lib.hid hsz_; clear hsz_
                    go_wp2_with (at_builtin; refine wpList_append_own _ rfl (.tmp 109) (.tmp 111) 33 rfl w_48.heap.size 3 i0 _ 1 8 Try.underlying33 HI.out HZ0.out HZ1.out HZ2.out rfl (by omega) u16 _ _ rfl OA.out ⟨w_538.heap.size, 0, none⟩ 1 1 [.int .i64 (q : Int)] rfl rfl (fun j u hu => by rw [Addr.add_lit, Nat.zero_add, N1.out.cell]; simpa using hu) (by simp [Value.oneCell']) (by unfold maxLen; omega) (by omega) HSZ_.out ?_; intro v' w4 hown4 hg4 _; have HO4 := Lib.hid hown4; have HG4 := Lib.hid (show World.grownBy _ w4 u16.ownBlock from hg4); clear hown4 hg4)
                    go_roundw
                    case rel => exact ⟨q + 1, by omega, by go_num, (by rw [HSU.out, List.length_append, List.map_append]; exact HO4.out), HBB.out.grown HG4.out HBB.out.size (fun y e => by have := (OA.out.lt y e).1; omega)⟩
                    case measure => simp [intOf]; omega
                · cases T3
                  · have OA := Lib.hid (World.ownsRow.alloc own_539.out (.cells #[.int .i64 (q : Int)] 3))
                    have N1 := Lib.hid (Blk.new w_538 3 #[.int .i64 (q : Int)])
                    have hbb := Below.alloc be_540.out (be_540.out.size) (.cells #[.int .i64 (q : Int)] 3)
                    have HBB := Lib.hid hbb; clear hbb
                    have hsz_ : w_48.heap.size ≤ (w_538.alloc (.cells #[.int .i64 (q : Int)] 3)).heap.size := HBB.out.size
                    have HSZ_ := Lib.hid hsz_; clear hsz_
                    go_wp2_with (at_builtin; refine wpList_append_own _ rfl (.tmp 109) (.tmp 111) 33 rfl w_48.heap.size 3 i0 _ 1 8 Try.underlying33 HI.out HZ0.out HZ1.out HZ2.out rfl (by omega) u16 _ _ rfl OA.out ⟨w_538.heap.size, 0, none⟩ 1 1 [.int .i64 (q : Int)] rfl rfl (fun j u hu => by rw [Addr.add_lit, Nat.zero_add, N1.out.cell]; simpa using hu) (by simp [Value.oneCell']) (by unfold maxLen; omega) (by omega) HSZ_.out ?_; intro v' w4 hown4 hg4 _; have HO4 := Lib.hid hown4; have HG4 := Lib.hid (show World.grownBy _ w4 u16.ownBlock from hg4); clear hown4 hg4)
                    go_roundw
                    case rel => exact ⟨q + 1, by omega, by go_num, (by rw [HSU.out, List.length_append, List.map_append]; exact HO4.out), HBB.out.grown HG4.out HBB.out.size (fun y e => by have := (OA.out.lt y e).1; omega)⟩
                    case measure => simp [intOf]; omega
                  · exact absurd (HCH.out) (by unfold chgD; have e1 := fin_inj (HX0.out.trans HX1.out.symm) (HT0.out.trans HT1.out.symm); have e2 := fin_inj (HX2.out.trans HX3.out.symm) (HT2.out.trans HT3.out.symm); simp [e1, e2])
              · have n1 : decide (X2 ≠ X3) = true := decide_eq_true hne
                have n2 : (X2 != X3) = true := bne_iff_ne.2 hne
                have n3 : (X2 == X3) = false := beq_eq_false_iff_ne.2 hne
                have n4 : decide (X2 = X3) = false := decide_eq_false hne
                have OA := Lib.hid (World.ownsRow.alloc own_539.out (.cells #[.int .i64 (q : Int)] 3))
                have N1 := Lib.hid (Blk.new w_538 3 #[.int .i64 (q : Int)])
                have hbb := Below.alloc be_540.out (be_540.out.size) (.cells #[.int .i64 (q : Int)] 3)
                have HBB := Lib.hid hbb; clear hbb
                have hsz_ : w_48.heap.size ≤ (w_538.alloc (.cells #[.int .i64 (q : Int)] 3)).heap.size := HBB.out.size
                have HSZ_ := Lib.hid hsz_; clear hsz_
                go_wp2_with (at_builtin; refine wpList_append_own _ rfl (.tmp 109) (.tmp 111) 33 rfl w_48.heap.size 3 i0 _ 1 8 Try.underlying33 HI.out HZ0.out HZ1.out HZ2.out rfl (by omega) u16 _ _ rfl OA.out ⟨w_538.heap.size, 0, none⟩ 1 1 [.int .i64 (q : Int)] rfl rfl (fun j u hu => by rw [Addr.add_lit, Nat.zero_add, N1.out.cell]; simpa using hu) (by simp [Value.oneCell']) (by unfold maxLen; omega) (by omega) HSZ_.out ?_; intro v' w4 hown4 hg4 _; have HO4 := Lib.hid hown4; have HG4 := Lib.hid (show World.grownBy _ w4 u16.ownBlock from hg4); clear hown4 hg4)
                go_roundw
                case rel => exact ⟨q + 1, by omega, by go_num, (by rw [HSU.out, List.length_append, List.map_append]; exact HO4.out), HBB.out.grown HG4.out HBB.out.size (fun y e => by have := (OA.out.lt y e).1; omega)⟩
                case measure => simp [intOf]; omega
            · have OA := Lib.hid (World.ownsRow.alloc own_539.out (.cells #[.int .i64 (q : Int)] 3))
              have N1 := Lib.hid (Blk.new w_538 3 #[.int .i64 (q : Int)])
              have hbb := Below.alloc be_540.out (be_540.out.size) (.cells #[.int .i64 (q : Int)] 3)
              have HBB := Lib.hid hbb; clear hbb
              have hsz_ : w_48.heap.size ≤ (w_538.alloc (.cells #[.int .i64 (q : Int)] 3)).heap.size := HBB.out.size
              have HSZ_ := Lib.hid hsz_; clear hsz_
              go_wp2_with (at_builtin; refine wpList_append_own _ rfl (.tmp 109) (.tmp 111) 33 rfl w_48.heap.size 3 i0 _ 1 8 Try.underlying33 HI.out HZ0.out HZ1.out HZ2.out rfl (by omega) u16 _ _ rfl OA.out ⟨w_538.heap.size, 0, none⟩ 1 1 [.int .i64 (q : Int)] rfl rfl (fun j u hu => by rw [Addr.add_lit, Nat.zero_add, N1.out.cell]; simpa using hu) (by simp [Value.oneCell']) (by unfold maxLen; omega) (by omega) HSZ_.out ?_; intro v' w4 hown4 hg4 _; have HO4 := Lib.hid hown4; have HG4 := Lib.hid (show World.grownBy _ w4 u16.ownBlock from hg4); clear hown4 hg4)
              go_roundw
              case rel => exact ⟨q + 1, by omega, by go_num, (by rw [HSU.out, List.length_append, List.map_append]; exact HO4.out), HBB.out.grown HG4.out HBB.out.size (fun y e => by have := (OA.out.lt y e).1; omega)⟩
              case measure => simp [intOf]; omega
          · cases T1
            · have OA := Lib.hid (World.ownsRow.alloc own_539.out (.cells #[.int .i64 (q : Int)] 3))
              have N1 := Lib.hid (Blk.new w_538 3 #[.int .i64 (q : Int)])
              have hbb := Below.alloc be_540.out (be_540.out.size) (.cells #[.int .i64 (q : Int)] 3)
              have HBB := Lib.hid hbb; clear hbb
              have hsz_ : w_48.heap.size ≤ (w_538.alloc (.cells #[.int .i64 (q : Int)] 3)).heap.size := HBB.out.size
              have HSZ_ := Lib.hid hsz_; clear hsz_
              go_wp2_with (at_builtin; refine wpList_append_own _ rfl (.tmp 109) (.tmp 111) 33 rfl w_48.heap.size 3 i0 _ 1 8 Try.underlying33 HI.out HZ0.out HZ1.out HZ2.out rfl (by omega) u16 _ _ rfl OA.out ⟨w_538.heap.size, 0, none⟩ 1 1 [.int .i64 (q : Int)] rfl rfl (fun j u hu => by rw [Addr.add_lit, Nat.zero_add, N1.out.cell]; simpa using hu) (by simp [Value.oneCell']) (by unfold maxLen; omega) (by omega) HSZ_.out ?_; intro v' w4 hown4 hg4 _; have HO4 := Lib.hid hown4; have HG4 := Lib.hid (show World.grownBy _ w4 u16.ownBlock from hg4); clear hown4 hg4)
              go_roundw
              case rel => exact ⟨q + 1, by omega, by go_num, (by rw [HSU.out, List.length_append, List.map_append]; exact HO4.out), HBB.out.grown HG4.out HBB.out.size (fun y e => by have := (OA.out.lt y e).1; omega)⟩
              case measure => simp [intOf]; omega
            · by_cases hne : X2 = X3
              · subst hne
                cases T2
                · cases T3
                  · exact absurd (HCH.out) (by unfold chgD; have e1 := fin_inj (HX0.out.trans HX1.out.symm) (HT0.out.trans HT1.out.symm); have e2 := fin_inj (HX2.out.trans HX3.out.symm) (HT2.out.trans HT3.out.symm); simp [e1, e2])
                  · have OA := Lib.hid (World.ownsRow.alloc own_539.out (.cells #[.int .i64 (q : Int)] 3))
                    have N1 := Lib.hid (Blk.new w_538 3 #[.int .i64 (q : Int)])
                    have hbb := Below.alloc be_540.out (be_540.out.size) (.cells #[.int .i64 (q : Int)] 3)
                    have HBB := Lib.hid hbb; clear hbb
                    have hsz_ : w_48.heap.size ≤ (w_538.alloc (.cells #[.int .i64 (q : Int)] 3)).heap.size := HBB.out.size
                    have HSZ_ := Lib.hid hsz_; clear hsz_
                    go_wp2_with (at_builtin; refine wpList_append_own _ rfl (.tmp 109) (.tmp 111) 33 rfl w_48.heap.size 3 i0 _ 1 8 Try.underlying33 HI.out HZ0.out HZ1.out HZ2.out rfl (by omega) u16 _ _ rfl OA.out ⟨w_538.heap.size, 0, none⟩ 1 1 [.int .i64 (q : Int)] rfl rfl (fun j u hu => by rw [Addr.add_lit, Nat.zero_add, N1.out.cell]; simpa using hu) (by simp [Value.oneCell']) (by unfold maxLen; omega) (by omega) HSZ_.out ?_; intro v' w4 hown4 hg4 _; have HO4 := Lib.hid hown4; have HG4 := Lib.hid (show World.grownBy _ w4 u16.ownBlock from hg4); clear hown4 hg4)
                    go_roundw
                    case rel => exact ⟨q + 1, by omega, by go_num, (by rw [HSU.out, List.length_append, List.map_append]; exact HO4.out), HBB.out.grown HG4.out HBB.out.size (fun y e => by have := (OA.out.lt y e).1; omega)⟩
                    case measure => simp [intOf]; omega
                · cases T3
                  · have OA := Lib.hid (World.ownsRow.alloc own_539.out (.cells #[.int .i64 (q : Int)] 3))
                    have N1 := Lib.hid (Blk.new w_538 3 #[.int .i64 (q : Int)])
                    have hbb := Below.alloc be_540.out (be_540.out.size) (.cells #[.int .i64 (q : Int)] 3)
                    have HBB := Lib.hid hbb; clear hbb
                    have hsz_ : w_48.heap.size ≤ (w_538.alloc (.cells #[.int .i64 (q : Int)] 3)).heap.size := HBB.out.size
                    have HSZ_ := Lib.hid hsz_; clear hsz_
                    go_wp2_with (at_builtin; refine wpList_append_own _ rfl (.tmp 109) (.tmp 111) 33 rfl w_48.heap.size 3 i0 _ 1 8 Try.underlying33 HI.out HZ0.out HZ1.out HZ2.out rfl (by omega) u16 _ _ rfl OA.out ⟨w_538.heap.size, 0, none⟩ 1 1 [.int .i64 (q : Int)] rfl rfl (fun j u hu => by rw [Addr.add_lit, Nat.zero_add, N1.out.cell]; simpa using hu) (by simp [Value.oneCell']) (by unfold maxLen; omega) (by omega) HSZ_.out ?_; intro v' w4 hown4 hg4 _; have HO4 := Lib.hid hown4; have HG4 := Lib.hid (show World.grownBy _ w4 u16.ownBlock from hg4); clear hown4 hg4)
                    go_roundw
                    case rel => exact ⟨q + 1, by omega, by go_num, (by rw [HSU.out, List.length_append, List.map_append]; exact HO4.out), HBB.out.grown HG4.out HBB.out.size (fun y e => by have := (OA.out.lt y e).1; omega)⟩
                    case measure => simp [intOf]; omega
                  · exact absurd (HCH.out) (by unfold chgD; have e1 := fin_inj (HX0.out.trans HX1.out.symm) (HT0.out.trans HT1.out.symm); have e2 := fin_inj (HX2.out.trans HX3.out.symm) (HT2.out.trans HT3.out.symm); simp [e1, e2])
              · have n1 : decide (X2 ≠ X3) = true := decide_eq_true hne
                have n2 : (X2 != X3) = true := bne_iff_ne.2 hne
                have n3 : (X2 == X3) = false := beq_eq_false_iff_ne.2 hne
                have n4 : decide (X2 = X3) = false := decide_eq_false hne
                have OA := Lib.hid (World.ownsRow.alloc own_539.out (.cells #[.int .i64 (q : Int)] 3))
                have N1 := Lib.hid (Blk.new w_538 3 #[.int .i64 (q : Int)])
                have hbb := Below.alloc be_540.out (be_540.out.size) (.cells #[.int .i64 (q : Int)] 3)
                have HBB := Lib.hid hbb; clear hbb
                have hsz_ : w_48.heap.size ≤ (w_538.alloc (.cells #[.int .i64 (q : Int)] 3)).heap.size := HBB.out.size
                have HSZ_ := Lib.hid hsz_; clear hsz_
                go_wp2_with (at_builtin; refine wpList_append_own _ rfl (.tmp 109) (.tmp 111) 33 rfl w_48.heap.size 3 i0 _ 1 8 Try.underlying33 HI.out HZ0.out HZ1.out HZ2.out rfl (by omega) u16 _ _ rfl OA.out ⟨w_538.heap.size, 0, none⟩ 1 1 [.int .i64 (q : Int)] rfl rfl (fun j u hu => by rw [Addr.add_lit, Nat.zero_add, N1.out.cell]; simpa using hu) (by simp [Value.oneCell']) (by unfold maxLen; omega) (by omega) HSZ_.out ?_; intro v' w4 hown4 hg4 _; have HO4 := Lib.hid hown4; have HG4 := Lib.hid (show World.grownBy _ w4 u16.ownBlock from hg4); clear hown4 hg4)
                go_roundw
                case rel => exact ⟨q + 1, by omega, by go_num, (by rw [HSU.out, List.length_append, List.map_append]; exact HO4.out), HBB.out.grown HG4.out HBB.out.size (fun y e => by have := (OA.out.lt y e).1; omega)⟩
                case measure => simp [intOf]; omega
        · have n1 : decide (X0 ≠ X1) = true := decide_eq_true hne
          have n2 : (X0 != X1) = true := bne_iff_ne.2 hne
          have n3 : (X0 == X1) = false := beq_eq_false_iff_ne.2 hne
          have n4 : decide (X0 = X1) = false := decide_eq_false hne
          have OA := Lib.hid (World.ownsRow.alloc own_539.out (.cells #[.int .i64 (q : Int)] 3))
          have N1 := Lib.hid (Blk.new w_538 3 #[.int .i64 (q : Int)])
          have hbb := Below.alloc be_540.out (be_540.out.size) (.cells #[.int .i64 (q : Int)] 3)
          have HBB := Lib.hid hbb; clear hbb
          have hsz_ : w_48.heap.size ≤ (w_538.alloc (.cells #[.int .i64 (q : Int)] 3)).heap.size := HBB.out.size
          have HSZ_ := Lib.hid hsz_; clear hsz_
          go_wp2_with (at_builtin; refine wpList_append_own _ rfl (.tmp 109) (.tmp 111) 33 rfl w_48.heap.size 3 i0 _ 1 8 Try.underlying33 HI.out HZ0.out HZ1.out HZ2.out rfl (by omega) u16 _ _ rfl OA.out ⟨w_538.heap.size, 0, none⟩ 1 1 [.int .i64 (q : Int)] rfl rfl (fun j u hu => by rw [Addr.add_lit, Nat.zero_add, N1.out.cell]; simpa using hu) (by simp [Value.oneCell']) (by unfold maxLen; omega) (by omega) HSZ_.out ?_; intro v' w4 hown4 hg4 _; have HO4 := Lib.hid hown4; have HG4 := Lib.hid (show World.grownBy _ w4 u16.ownBlock from hg4); clear hown4 hg4)
          go_roundw
          case rel => exact ⟨q + 1, by omega, by go_num, (by rw [HSU.out, List.length_append, List.map_append]; exact HO4.out), HBB.out.grown HG4.out HBB.out.size (fun y e => by have := (OA.out.lt y e).1; omega)⟩
          case measure => simp [intOf]; omega
      · rw [if_neg hch] at hsu
        have HSU := Lib.hid hsu; clear hsu
        obtain ⟨e1, e2⟩ : dist l p a q = dist lw p a q ∧ dist l p q a = dist lw p q a := by unfold chgD at hch; omega
        obtain rfl : X1 = X0 := HX1.out.symm.trans ((congrArg fin e1).symm.trans HX0.out)
        obtain rfl : T1 = T0 := HT1.out.symm.trans ((congrArg isF e1).symm.trans HT0.out)
        obtain rfl : X3 = X2 := HX3.out.symm.trans ((congrArg fin e2).symm.trans HX2.out)
        obtain rfl : T3 = T2 := HT3.out.symm.trans ((congrArg isF e2).symm.trans HT2.out)
        clear e1 e2 hch
        go_wp2
        go_roundw
        case rel => exact ⟨q + 1, by omega, by go_num, by rw [HSU.out]; exact own_539.out, be_540.out⟩
        case measure => simp [intOf]; omega
    · obtain rfl : q = p := by omega
      have y0 : wr.cell? ⟨w.heap.size, 0, none⟩ = some (.int .i64 (q : Int)) := Blk.cell SB0.out 0
      go_wp2
      obtain ⟨A9, c9, hv9, -⟩ := own_form OW.out
      subst hv9
      go_ret2
      exact ⟨A9, _, c9, rfl, owns_base OW.out (bel_49.out.size), bel_49.out.trans (HBE.out.mono bel_49.out.size)⟩
theorem at_flat0 {x y : List Int} (hx : x.length = 60) (hy : y.length = 60) {q : Nat} (hq : q < 60) : at_ (flat (pair x y)) q = at_ x q := by
  have := flat_get (pair_sixty hx hy) (k := 0) (r := x) rfl hq
  rw [Nat.zero_mul, Nat.zero_add] at this
  unfold at_
  rw [List.getD_eq_getElem?_getD, this, List.getD_eq_getElem?_getD]
theorem at_flat1 {x y : List Int} (hx : x.length = 60) (hy : y.length = 60) {q : Nat} (hq : q < 60) : at_ (flat (pair x y)) (60 + q) = at_ y q := by
  have := flat_get (pair_sixty hx hy) (k := 1) (r := y) rfl hq
  rw [Nat.one_mul] at this
  unfold at_
  rw [List.getD_eq_getElem?_getD, this, List.getD_eq_getElem?_getD]
theorem chgL_chgR {p : Int} {l l2 : List Bnd} {a : Nat} (h1 : chk p l = 0) (h2 : chk p l2 = 0) (s1 : (settle l p.toNat zeros).isSome = true) (s2 : (settle l2 p.toNat zeros).isSome = true) (ha : a < 60) {k : Nat} (hk : k ≤ 60) :
    chgL (endsL l p.toNat a) (endsL l2 p.toNat a) k = chgR l l2 p.toNat a k := by
  unfold chgL chgR
  congr 1
  apply List.filter_congr
  intro q hq
  have hq : q < 60 := by have := List.mem_range.1 hq; omega
  have L := fun (l : List Bnd) => setL_length (l := l) (p := p.toNat) (startL_length a)
  unfold chgP endsL
  apply decide_eq_decide.2
  rw [at_flat0 (L _) (L _) hq, at_flat0 (L _) (L _) hq, at_flat1 (L _) (L _) hq, at_flat1 (L _) (L _) hq]
  have e1 := dist_rev h1 s1 ha hq
  have e2 := dist_rev h2 s2 ha hq
  unfold chgD
  rw [← e1, ← e2]
  exact Iff.rfl

theorem mem_snoc {l : List Bnd} {x c : Bnd} (h : c ∈ l) : c ∈ l ++ [x] := List.mem_append_left _ h
theorem changed_codes {P a : Int} {l : List Bnd} {x : Bnd} (hw : withC P l x = 0) : (scode P l [a, a] ≠ 0 → scode P (l ++ [x]) [a] = scode P l [a, a]) ∧ scode P (l ++ [x]) [a, a] = scode P (l ++ [x]) [a] := by
  obtain ⟨hk1, hk2⟩ := withC_ok hw
  have hg1 : gcode P l [a, a] = if isPt P a then 0 else 1 := by unfold gcode; rw [if_pos hk1]; simp
  have hg2 : gcode P (l ++ [x]) [a] = if isPt P a then 0 else 1 := by unfold gcode; rw [if_pos hk2]; simp
  have hg3 : gcode P (l ++ [x]) [a, a] = if isPt P a then 0 else 1 := by unfold gcode; rw [if_pos hk2]; simp
  unfold scode
  rw [hg1, hg2, hg3]
  refine ⟨fun h => ?_, rfl⟩
  by_cases hp : isPt P a = true
  · simp only [hp, if_true] at h ⊢
    by_cases hs : (settle l P.toNat zeros).isSome = true
    · simp [hs] at h
    · have : ¬ (settle (l ++ [x]) P.toNat zeros).isSome = true := fun h2 => hs (sub_solved hk1 hk2 (fun c hc => mem_snoc hc) h2)
      simp [hs, this]
  · simp [hp]

set_option maxHeartbeats 2000000 in
theorem rChanged_any (P f t m i a : Int) (A : Option Addr) (n k : Nat) (l : List Bnd) (w : World) (hr : RdB w A n k l) (hn : n ≤ maxLen) : Calls Try.prog 51 #[.agg #[.int .i64 P, .slice A n k], .agg #[.int .i64 f, .int .i64 t, .int .i64 m, .int .i64 i], .int .i64 a] w (RetL (changedV P l ⟨f, t, m, i⟩ a) w) := by
  unfold changedV
  by_cases hw : withC P l ⟨f, t, m, i⟩ = 0
  · rw [if_pos hw]
    obtain ⟨c1, c2⟩ := changed_codes (a := a) hw
    obtain ⟨hk1, hk2⟩ := withC_ok hw
    by_cases h1 : scode P l [a, a] = 0
    · by_cases h2 : scode P (l ++ [⟨f, t, m, i⟩]) [a, a] = 0
      · rw [if_pos (c2.symm.trans h2)]
        obtain ⟨-, hpt, hs1⟩ := scode_ok h1
        obtain ⟨-, -, hs2⟩ := scode_ok h2
        simp only [List.all_cons, List.all_nil, Bool.and_true, Bool.and_eq_true, isPt, decide_eq_true_eq] at hpt
        obtain ⟨hp1, hp2, hlen, -⟩ := chk_ok hk1
        obtain ⟨-, -, hlen2, -⟩ := chk_ok hk2
        obtain ⟨p, rfl⟩ := Int.eq_ofNat_of_zero_le (show 0 ≤ P by omega)
        obtain ⟨a, rfl⟩ := Int.eq_ofNat_of_zero_le hpt.1.1
        have he := chgL_chgR (a := a) hk1 hk2 hs1 hs2 (by omega) (k := p) (by omega)
        rw [Int.toNat_natCast] at he hs1 hs2
        rw [Int.toNat_natCast, Int.toNat_natCast, he]
        have E4 : tup (greatT (p : Int) l (a : Int) (a : Int)) = .tuple #[.int .i64 (fin (dist l p a a)), .bool (isF (dist l p a a)), .int .i64 0] := by unfold tup greatT; simp only [if_pos h1, Int.toNat_natCast]
        have E5 : tup (greatT (p : Int) (l ++ [⟨f, t, m, i⟩]) (a : Int) (a : Int)) = .tuple #[.int .i64 (fin (dist (l ++ [⟨f, t, m, i⟩]) p a a)), .bool (isF (dist (l ++ [⟨f, t, m, i⟩]) p a a)), .int .i64 0] := by unfold tup greatT; simp only [if_pos h2, Int.toNat_natCast]
        have hsp : sp 0 (p : Int) = p := rfl
        have hsl : sl 0 (l ++ [⟨f, t, m, i⟩]) = l ++ [⟨f, t, m, i⟩] := rfl
        have hn4 : n ≤ 402 := by have := hr.len; omega
        have hl5 : (l ++ [(⟨f, t, m, i⟩ : Bnd)]).length ≤ 402 := by omega
        exact rC_ok p f t m i a A n k l w hr hn hn4 (by omega) (by omega) _ (Lib.hid hw) (Lib.hid hsp) (Lib.hid hsl) _ _ _ _ (Lib.hid E4) (Lib.hid E5) hk1 hs1 hk2 hs2 hl5
      · rw [if_neg (fun h => h2 (c2.trans h)), ← c2]
        exact rC_e3 P f t m i a A n k l w hr hn (l ++ [⟨f, t, m, i⟩]) (Lib.hid hw) (Lib.hid rfl) (Lib.hid rfl) (scode P (l ++ [⟨f, t, m, i⟩]) [a, a]) _ _ (by simpa using h2) (Lib.hid (show tup (greatT P l a a) = .tuple #[.int .i64 (fin (dist l P.toNat a.toNat a.toNat)), .bool (isF (dist l P.toNat a.toNat a.toNat)), .int .i64 0] from by unfold tup greatT; simp only [if_pos h1])) (Lib.hid (show tup (greatT P (l ++ [⟨f, t, m, i⟩]) a a) = .tuple #[.int .i64 0, .bool false, .int .i64 (scode P (l ++ [⟨f, t, m, i⟩]) [a, a])] from by unfold tup greatT; simp only [if_neg h2]))
    · have e := c1 h1
      rw [if_neg (by rw [e]; exact h1), e]
      exact rC_e2 P f t m i a A n k l w hr hn _ (Lib.hid hw) (Lib.hid rfl) (Lib.hid rfl) (scode P l [a, a]) (by simpa using h1) (Lib.hid (show tup (greatT P l a a) = .tuple #[.int .i64 0, .bool false, .int .i64 (scode P l [a, a])] from by unfold tup greatT; simp only [if_neg h1]))
  · rw [if_neg hw]
    exact rC_e1 P f t m i a A n k l w hr hn _ _ _ (Lib.hid rfl) (Lib.hid rfl) (Lib.hid rfl) (by simpa using hw)
end Go.Proofs.Ythlnialipjihdaa
