/- For every two systems, three points and number GaugeBeside returns true: differences within systems that are beside each other are as they were, there are none across, and a tied difference is fixed. No condition. -/
import Derived.Test.YthlnialipjihdaaRows
import Derived.Test.YthlnialipjihdaaRetT
import Derived.Test.YthlnialipjihdaaBesM
import Derived.Test.YthlnialipjihdaaTie
import Derived.Test.YthlnialipjihdaaTri
import Derived.Test.YthlnialipjihdaaEndT
import Derived.Test.YthlnialipjihdaaShz
import Derived.Deep.CutRange
set_option linter.unusedSimpArgs false
set_option linter.unusedVariables false
namespace Go.Proofs.Ythlnialipjihdaa
open Go.ChangeShapes Go.WideShapes Go.ChangeAt Go.RowKit

set_option maxRecDepth 100000 in
set_option maxHeartbeats 8000000 in
theorem be_w1 (P Q a b c M : Int) (A : Option Addr) (n k : Nat) (l : List Bnd) (w : World) (hr : RdB w A n k l) (hn : n ≤ maxLen) (B : Option Addr) (m d : Nat) (x : List Bnd) (hx : RdB w B m d x) (hm : m ≤ maxLen) (hw : ¬ n ≤ 403) :
    Calls Try.prog 15 #[.agg #[.int .i64 P, .slice A n k], .agg #[.int .i64 Q, .slice B m d], .int .i64 a, .int .i64 b, .int .i64 c, .int .i64 M] w fun e w' => e = .returned (.bool true) ∧ Below w.heap.size w w' := by
  go_enter Try.func15, Try.ntmps15
  have bel_1 := Lib.hid (show Below w.heap.size w w from Below.refl _ w)
  have r_2 := Lib.hid (hr)
  clear hr
  have t_3 := Lib.hid (hx)
  clear hx
  have bel_4 := Lib.hid (Below.alloc bel_1.out (bel_1.out.size) (.cells #[.int .i64 P, .slice A n k] 24))
  clear bel_1
  have r_5 := Lib.hid (RdB.alloc r_2.out (.cells #[.int .i64 P, .slice A n k] 24))
  clear r_2
  have t_6 := Lib.hid (RdB.alloc t_3.out (.cells #[.int .i64 P, .slice A n k] 24))
  clear t_3
  have sr_7 := Lib.hid (Blk.new w 24 #[.int .i64 P, .slice A n k])
  have bel_8 := Lib.hid (Below.alloc bel_4.out (bel_4.out.size) (.cells #[.int .i64 Q, .slice B m d] 24))
  clear bel_4
  have r_9 := Lib.hid (RdB.alloc r_5.out (.cells #[.int .i64 Q, .slice B m d] 24))
  clear r_5
  have t_10 := Lib.hid (RdB.alloc t_6.out (.cells #[.int .i64 Q, .slice B m d] 24))
  clear t_6
  have sr_11 := Lib.hid (Blk.alloc sr_7.out (.cells #[.int .i64 Q, .slice B m d] 24))
  clear sr_7
  have nb_ := Blk.new (w.alloc (.cells #[.int .i64 P, .slice A n k] 24)) 24 #[.int .i64 Q, .slice B m d]
  simp only [World.size_alloc] at nb_
  have st_12 := Lib.hid nb_; clear nb_
  have hc := (show Calls Try.prog 18 #[.agg #[.int .i64 P, .slice A n k]] (((w.alloc (.cells #[.int .i64 P, .slice A n k] 24)).alloc (.cells #[.int .i64 Q, .slice B m d] 24))) fun e w' => e = .returned (.bool false) ∧ Below (((w.alloc (.cells #[.int .i64 P, .slice A n k] 24)).alloc (.cells #[.int .i64 Q, .slice B m d] 24))).heap.size (((w.alloc (.cells #[.int .i64 P, .slice A n k] 24)).alloc (.cells #[.int .i64 Q, .slice B m d] 24))) w' from by have h := wide_any P A n k (((w.alloc (.cells #[.int .i64 P, .slice A n k] 24)).alloc (.cells #[.int .i64 Q, .slice B m d] 24))); rw [show decide (n ≤ 403) = false from by simpa using hw] at h; exact h)
  have HC := Lib.hid hc; clear hc
  go_wp2_with fail
  refine HC.out.mono ?_
  rintro e w_13 ⟨rfl, hb⟩
  clear HC
  have bel_14 := Lib.hid (Below.trans bel_8.out (Below.mono hb (bel_8.out.size)))
  clear bel_8
  have r_15 := Lib.hid (RdB.below r_9.out hb)
  clear r_9
  have t_16 := Lib.hid (RdB.below t_10.out hb)
  clear t_10
  have sr_17 := Lib.hid (Blk.keep sr_11.out hb)
  clear sr_11
  have st_18 := Lib.hid (Blk.keep st_12.out hb)
  clear st_12
  clear hb
  have z_19 : (w_13).cell? ⟨w.heap.size, 0, none⟩ = some (.int .i64 P) := Blk.cell sr_17.out 0
  have z_20 : (w_13).cell? ⟨w.heap.size, 1, none⟩ = some (.slice A n k) := Blk.cell sr_17.out 1
  have z_21 : (w_13).cell? ⟨w.heap.size + 1, 0, none⟩ = some (.int .i64 Q) := Blk.cell st_18.out 0
  have z_22 : (w_13).cell? ⟨w.heap.size + 1, 1, none⟩ = some (.slice B m d) := Blk.cell st_18.out 1
  go_wp2_with fail
  refine (alive_ok _).mono ?_
  rintro e w_23 ⟨rfl, hb⟩
  clear z_19 z_20 z_21 z_22
  have bel_24 := Lib.hid (Below.trans bel_14.out (Below.mono hb (bel_14.out.size)))
  clear bel_14
  have r_25 := Lib.hid (RdB.below r_15.out hb)
  clear r_15
  have t_26 := Lib.hid (RdB.below t_16.out hb)
  clear t_16
  have sr_27 := Lib.hid (Blk.keep sr_17.out hb)
  clear sr_17
  have st_28 := Lib.hid (Blk.keep st_18.out hb)
  clear st_18
  clear hb
  go_wp2
  go_ret
  exact ⟨rfl, bel_24.out⟩

set_option maxRecDepth 100000 in
set_option maxHeartbeats 8000000 in
theorem be_w2 (P Q a b c M : Int) (A : Option Addr) (n k : Nat) (l : List Bnd) (w : World) (hr : RdB w A n k l) (hn : n ≤ maxLen) (B : Option Addr) (m d : Nat) (x : List Bnd) (hx : RdB w B m d x) (hm : m ≤ maxLen) (hw : n ≤ 403) (hv : ¬ m ≤ 403) :
    Calls Try.prog 15 #[.agg #[.int .i64 P, .slice A n k], .agg #[.int .i64 Q, .slice B m d], .int .i64 a, .int .i64 b, .int .i64 c, .int .i64 M] w fun e w' => e = .returned (.bool true) ∧ Below w.heap.size w w' := by
  go_enter Try.func15, Try.ntmps15
  have bel_1 := Lib.hid (show Below w.heap.size w w from Below.refl _ w)
  have r_2 := Lib.hid (hr)
  clear hr
  have t_3 := Lib.hid (hx)
  clear hx
  have bel_4 := Lib.hid (Below.alloc bel_1.out (bel_1.out.size) (.cells #[.int .i64 P, .slice A n k] 24))
  clear bel_1
  have r_5 := Lib.hid (RdB.alloc r_2.out (.cells #[.int .i64 P, .slice A n k] 24))
  clear r_2
  have t_6 := Lib.hid (RdB.alloc t_3.out (.cells #[.int .i64 P, .slice A n k] 24))
  clear t_3
  have sr_7 := Lib.hid (Blk.new w 24 #[.int .i64 P, .slice A n k])
  have bel_8 := Lib.hid (Below.alloc bel_4.out (bel_4.out.size) (.cells #[.int .i64 Q, .slice B m d] 24))
  clear bel_4
  have r_9 := Lib.hid (RdB.alloc r_5.out (.cells #[.int .i64 Q, .slice B m d] 24))
  clear r_5
  have t_10 := Lib.hid (RdB.alloc t_6.out (.cells #[.int .i64 Q, .slice B m d] 24))
  clear t_6
  have sr_11 := Lib.hid (Blk.alloc sr_7.out (.cells #[.int .i64 Q, .slice B m d] 24))
  clear sr_7
  have nb_ := Blk.new (w.alloc (.cells #[.int .i64 P, .slice A n k] 24)) 24 #[.int .i64 Q, .slice B m d]
  simp only [World.size_alloc] at nb_
  have st_12 := Lib.hid nb_; clear nb_
  have hc := (show Calls Try.prog 18 #[.agg #[.int .i64 P, .slice A n k]] (((w.alloc (.cells #[.int .i64 P, .slice A n k] 24)).alloc (.cells #[.int .i64 Q, .slice B m d] 24))) fun e w' => e = .returned (.bool true) ∧ Below (((w.alloc (.cells #[.int .i64 P, .slice A n k] 24)).alloc (.cells #[.int .i64 Q, .slice B m d] 24))).heap.size (((w.alloc (.cells #[.int .i64 P, .slice A n k] 24)).alloc (.cells #[.int .i64 Q, .slice B m d] 24))) w' from by have h := wide_any P A n k (((w.alloc (.cells #[.int .i64 P, .slice A n k] 24)).alloc (.cells #[.int .i64 Q, .slice B m d] 24))); rw [show decide (n ≤ 403) = true from by simpa using hw] at h; exact h)
  have HC := Lib.hid hc; clear hc
  go_wp2_with fail
  refine HC.out.mono ?_
  rintro e w_13 ⟨rfl, hb⟩
  clear HC
  have bel_14 := Lib.hid (Below.trans bel_8.out (Below.mono hb (bel_8.out.size)))
  clear bel_8
  have r_15 := Lib.hid (RdB.below r_9.out hb)
  clear r_9
  have t_16 := Lib.hid (RdB.below t_10.out hb)
  clear t_10
  have sr_17 := Lib.hid (Blk.keep sr_11.out hb)
  clear sr_11
  have st_18 := Lib.hid (Blk.keep st_12.out hb)
  clear st_12
  clear hb
  have z_19 : (w_13).cell? ⟨w.heap.size, 0, none⟩ = some (.int .i64 P) := Blk.cell sr_17.out 0
  have z_20 : (w_13).cell? ⟨w.heap.size, 1, none⟩ = some (.slice A n k) := Blk.cell sr_17.out 1
  have z_21 : (w_13).cell? ⟨w.heap.size + 1, 0, none⟩ = some (.int .i64 Q) := Blk.cell st_18.out 0
  have z_22 : (w_13).cell? ⟨w.heap.size + 1, 1, none⟩ = some (.slice B m d) := Blk.cell st_18.out 1
  have hc := (show Calls Try.prog 18 #[.agg #[.int .i64 Q, .slice B m d]] (w_13) fun e w' => e = .returned (.bool false) ∧ Below (w_13).heap.size (w_13) w' from by have h := wide_any Q B m d (w_13); rw [show decide (m ≤ 403) = false from by simpa using hv] at h; exact h)
  have HC := Lib.hid hc; clear hc
  go_wp2_with fail
  refine HC.out.mono ?_
  rintro e w_23 ⟨rfl, hb⟩
  clear HC
  clear z_19 z_20 z_21 z_22
  have bel_24 := Lib.hid (Below.trans bel_14.out (Below.mono hb (bel_14.out.size)))
  clear bel_14
  have r_25 := Lib.hid (RdB.below r_15.out hb)
  clear r_15
  have t_26 := Lib.hid (RdB.below t_16.out hb)
  clear t_16
  have sr_27 := Lib.hid (Blk.keep sr_17.out hb)
  clear sr_17
  have st_28 := Lib.hid (Blk.keep st_18.out hb)
  clear st_18
  clear hb
  have z_29 : (w_23).cell? ⟨w.heap.size, 0, none⟩ = some (.int .i64 P) := Blk.cell sr_27.out 0
  have z_30 : (w_23).cell? ⟨w.heap.size, 1, none⟩ = some (.slice A n k) := Blk.cell sr_27.out 1
  have z_31 : (w_23).cell? ⟨w.heap.size + 1, 0, none⟩ = some (.int .i64 Q) := Blk.cell st_28.out 0
  have z_32 : (w_23).cell? ⟨w.heap.size + 1, 1, none⟩ = some (.slice B m d) := Blk.cell st_28.out 1
  go_wp2_with fail
  refine (alive_ok _).mono ?_
  rintro e w_33 ⟨rfl, hb⟩
  clear z_29 z_30 z_31 z_32
  have bel_34 := Lib.hid (Below.trans bel_24.out (Below.mono hb (bel_24.out.size)))
  clear bel_24
  have r_35 := Lib.hid (RdB.below r_25.out hb)
  clear r_25
  have t_36 := Lib.hid (RdB.below t_26.out hb)
  clear t_26
  have sr_37 := Lib.hid (Blk.keep sr_27.out hb)
  clear sr_27
  have st_38 := Lib.hid (Blk.keep st_28.out hb)
  clear st_28
  clear hb
  go_wp2
  go_ret
  exact ⟨rfl, bel_34.out⟩

set_option maxRecDepth 100000 in
set_option maxHeartbeats 8000000 in
theorem be_main (P Q a b c M : Int) (A : Option Addr) (n k : Nat) (l : List Bnd) (w : World) (hr : RdB w A n k l) (hn : n ≤ maxLen) (B : Option Addr) (m d : Nat) (x : List Bnd) (hx : RdB w B m d x) (hm : m ≤ maxLen) (hw : n ≤ 403) (hv : m ≤ 403) (q1 q2 eg pu eh ph X1 X2 : Int) (T1 T2 : Bool) (lu lh : List Bnd)
    (E1 : Hid (∀ x t q, endV P l a b true = .tuple #[.int .i64 x, .bool t, .int .i64 q] → x = X1 ∧ t = T1 ∧ q = q1)) (E2 : Hid (∀ y t q, endV Q x c 0 true = .tuple #[.int .i64 y, .bool t, .int .i64 q] → y = X2 ∧ t = T2 ∧ q = q2))
    (G1 : Hid (besC P l Q x = eg)) (G2 : Hid (sp eg (P + Q) = pu)) (G3 : Hid (sl eg (l ++ x.map (shB P)) = lu))
    (H : Hid ((decide (q1 = 0) && decide (q2 = 0) && decide (eg = 0)) = true → (0 ≤ P ∧ P ≤ 60 ∧ 0 ≤ c ∧ c ≤ 60) ∧ (∀ x t q, endV pu lu a b true = .tuple #[.int .i64 x, .bool t, .int .i64 q] → x = X1 ∧ t = T1 ∧ q = 0) ∧ (∀ x t q, endV pu lu (P + c) P true = .tuple #[.int .i64 x, .bool t, .int .i64 q] → x = X2 ∧ t = T2 ∧ q = 0) ∧ (∀ x t q, endV pu lu a (P + c) true = .tuple #[.int .i64 x, .bool t, .int .i64 q] → t = false ∧ q = 0)))
    (K1 : Hid (tieC P l a b M = eh)) (K2 : Hid (sp eh P = ph)) (K3 : Hid (sl eh (l ++ tieB a b M) = lh))
    (J : Hid (eh ≠ 0 ∨ (eh = 0 ∧ ∃ Z, solveV ph lh = (Z, true, 0) ∧ fixedV ph lh a b = (M, true, 0)) ∨ (eh = 0 ∧ ∃ z, solveV ph lh = ([], false, 0) ∧ fixedV ph lh a b = (z, false, 10)))) :
    Calls Try.prog 15 #[.agg #[.int .i64 P, .slice A n k], .agg #[.int .i64 Q, .slice B m d], .int .i64 a, .int .i64 b, .int .i64 c, .int .i64 M] w fun e w' => e = .returned (.bool true) ∧ Below w.heap.size w w' := by
  go_enter Try.func15, Try.ntmps15
  have bel_1 := Lib.hid (show Below w.heap.size w w from Below.refl _ w)
  have r_2 := Lib.hid (hr)
  clear hr
  have t_3 := Lib.hid (hx)
  clear hx
  have bel_4 := Lib.hid (Below.alloc bel_1.out (bel_1.out.size) (.cells #[.int .i64 P, .slice A n k] 24))
  clear bel_1
  have r_5 := Lib.hid (RdB.alloc r_2.out (.cells #[.int .i64 P, .slice A n k] 24))
  clear r_2
  have t_6 := Lib.hid (RdB.alloc t_3.out (.cells #[.int .i64 P, .slice A n k] 24))
  clear t_3
  have sr_7 := Lib.hid (Blk.new w 24 #[.int .i64 P, .slice A n k])
  have bel_8 := Lib.hid (Below.alloc bel_4.out (bel_4.out.size) (.cells #[.int .i64 Q, .slice B m d] 24))
  clear bel_4
  have r_9 := Lib.hid (RdB.alloc r_5.out (.cells #[.int .i64 Q, .slice B m d] 24))
  clear r_5
  have t_10 := Lib.hid (RdB.alloc t_6.out (.cells #[.int .i64 Q, .slice B m d] 24))
  clear t_6
  have sr_11 := Lib.hid (Blk.alloc sr_7.out (.cells #[.int .i64 Q, .slice B m d] 24))
  clear sr_7
  have nb_ := Blk.new (w.alloc (.cells #[.int .i64 P, .slice A n k] 24)) 24 #[.int .i64 Q, .slice B m d]
  simp only [World.size_alloc] at nb_
  have st_12 := Lib.hid nb_; clear nb_
  have hc := (show Calls Try.prog 18 #[.agg #[.int .i64 P, .slice A n k]] (((w.alloc (.cells #[.int .i64 P, .slice A n k] 24)).alloc (.cells #[.int .i64 Q, .slice B m d] 24))) fun e w' => e = .returned (.bool true) ∧ Below (((w.alloc (.cells #[.int .i64 P, .slice A n k] 24)).alloc (.cells #[.int .i64 Q, .slice B m d] 24))).heap.size (((w.alloc (.cells #[.int .i64 P, .slice A n k] 24)).alloc (.cells #[.int .i64 Q, .slice B m d] 24))) w' from by have h := wide_any P A n k (((w.alloc (.cells #[.int .i64 P, .slice A n k] 24)).alloc (.cells #[.int .i64 Q, .slice B m d] 24))); rw [show decide (n ≤ 403) = true from by simpa using hw] at h; exact h)
  have HC := Lib.hid hc; clear hc
  go_wp2_with fail
  refine HC.out.mono ?_
  rintro e w_13 ⟨rfl, hb⟩
  clear HC
  have bel_14 := Lib.hid (Below.trans bel_8.out (Below.mono hb (bel_8.out.size)))
  clear bel_8
  have r_15 := Lib.hid (RdB.below r_9.out hb)
  clear r_9
  have t_16 := Lib.hid (RdB.below t_10.out hb)
  clear t_10
  have sr_17 := Lib.hid (Blk.keep sr_11.out hb)
  clear sr_11
  have st_18 := Lib.hid (Blk.keep st_12.out hb)
  clear st_12
  clear hb
  have z_19 : (w_13).cell? ⟨w.heap.size, 0, none⟩ = some (.int .i64 P) := Blk.cell sr_17.out 0
  have z_20 : (w_13).cell? ⟨w.heap.size, 1, none⟩ = some (.slice A n k) := Blk.cell sr_17.out 1
  have z_21 : (w_13).cell? ⟨w.heap.size + 1, 0, none⟩ = some (.int .i64 Q) := Blk.cell st_18.out 0
  have z_22 : (w_13).cell? ⟨w.heap.size + 1, 1, none⟩ = some (.slice B m d) := Blk.cell st_18.out 1
  have hc := (show Calls Try.prog 18 #[.agg #[.int .i64 Q, .slice B m d]] (w_13) fun e w' => e = .returned (.bool true) ∧ Below (w_13).heap.size (w_13) w' from by have h := wide_any Q B m d (w_13); rw [show decide (m ≤ 403) = true from by simpa using hv] at h; exact h)
  have HC := Lib.hid hc; clear hc
  go_wp2_with fail
  refine HC.out.mono ?_
  rintro e w_23 ⟨rfl, hb⟩
  clear HC
  clear z_19 z_20 z_21 z_22
  have bel_24 := Lib.hid (Below.trans bel_14.out (Below.mono hb (bel_14.out.size)))
  clear bel_14
  have r_25 := Lib.hid (RdB.below r_15.out hb)
  clear r_15
  have t_26 := Lib.hid (RdB.below t_16.out hb)
  clear t_16
  have sr_27 := Lib.hid (Blk.keep sr_17.out hb)
  clear sr_17
  have st_28 := Lib.hid (Blk.keep st_18.out hb)
  clear st_18
  clear hb
  have z_29 : (w_23).cell? ⟨w.heap.size, 0, none⟩ = some (.int .i64 P) := Blk.cell sr_27.out 0
  have z_30 : (w_23).cell? ⟨w.heap.size, 1, none⟩ = some (.slice A n k) := Blk.cell sr_27.out 1
  have z_31 : (w_23).cell? ⟨w.heap.size + 1, 0, none⟩ = some (.int .i64 Q) := Blk.cell st_28.out 0
  have z_32 : (w_23).cell? ⟨w.heap.size + 1, 1, none⟩ = some (.slice B m d) := Blk.cell st_28.out 1
  go_wp2_with fail
  refine (Greatest_any P a b A n k l _ r_25.out hn).mono ?_
  rintro e w_33 ⟨x_, t_, q_, rfl, hv_, hb⟩
  clear z_29 z_30 z_31 z_32
  have bel_34 := Lib.hid (Below.trans bel_24.out (Below.mono hb (bel_24.out.size)))
  clear bel_24
  have r_35 := Lib.hid (RdB.below r_25.out hb)
  clear r_25
  have t_36 := Lib.hid (RdB.below t_26.out hb)
  clear t_26
  have sr_37 := Lib.hid (Blk.keep sr_27.out hb)
  clear sr_27
  have st_38 := Lib.hid (Blk.keep st_28.out hb)
  clear st_28
  clear hb
  obtain ⟨e0_, e1_, e2_⟩ := E1.out _ _ _ hv_; clear hv_
  replace e0_ := e0_.symm; subst e0_
  replace e1_ := e1_.symm; subst e1_
  replace e2_ := e2_.symm; subst e2_
  have z_39 : (w_33).cell? ⟨w.heap.size, 0, none⟩ = some (.int .i64 P) := Blk.cell sr_37.out 0
  have z_40 : (w_33).cell? ⟨w.heap.size, 1, none⟩ = some (.slice A n k) := Blk.cell sr_37.out 1
  have z_41 : (w_33).cell? ⟨w.heap.size + 1, 0, none⟩ = some (.int .i64 Q) := Blk.cell st_38.out 0
  have z_42 : (w_33).cell? ⟨w.heap.size + 1, 1, none⟩ = some (.slice B m d) := Blk.cell st_38.out 1
  go_wp2_with fail
  refine (Greatest_any Q c 0 B m d x _ t_36.out hm).mono ?_
  rintro e w_43 ⟨x_, t_, q_, rfl, hv_, hb⟩
  clear z_39 z_40 z_41 z_42
  have bel_44 := Lib.hid (Below.trans bel_34.out (Below.mono hb (bel_34.out.size)))
  clear bel_34
  have r_45 := Lib.hid (RdB.below r_35.out hb)
  clear r_35
  have t_46 := Lib.hid (RdB.below t_36.out hb)
  clear t_36
  have sr_47 := Lib.hid (Blk.keep sr_37.out hb)
  clear sr_37
  have st_48 := Lib.hid (Blk.keep st_38.out hb)
  clear st_38
  clear hb
  obtain ⟨e0_, e1_, e2_⟩ := E2.out _ _ _ hv_; clear hv_
  replace e0_ := e0_.symm; subst e0_
  replace e1_ := e1_.symm; subst e1_
  replace e2_ := e2_.symm; subst e2_
  have z_49 : (w_43).cell? ⟨w.heap.size, 0, none⟩ = some (.int .i64 P) := Blk.cell sr_47.out 0
  have z_50 : (w_43).cell? ⟨w.heap.size, 1, none⟩ = some (.slice A n k) := Blk.cell sr_47.out 1
  have z_51 : (w_43).cell? ⟨w.heap.size + 1, 0, none⟩ = some (.int .i64 Q) := Blk.cell st_48.out 0
  have z_52 : (w_43).cell? ⟨w.heap.size + 1, 1, none⟩ = some (.slice B m d) := Blk.cell st_48.out 1
  have hc := Calls.mono (Beside_any P Q A B n k m d l x _ r_45.out hn t_46.out hm) (fun e w' h => retT_of h)
  rw [G1.out] at hc
  rw [G2.out] at hc
  rw [G3.out] at hc
  have HC := Lib.hid hc; clear hc
  go_wp2_with fail
  refine HC.out.mono ?_
  rintro e w_53 ⟨Au, nu, cu, rfl, ho, hb⟩
  clear HC
  clear z_49 z_50 z_51 z_52
  have ow_54 := Lib.hid (owns_base ho (bel_44.out.size))
  have hmu := ownB_max ho
  have bel_55 := Lib.hid (Below.trans bel_44.out (Below.mono hb (bel_44.out.size)))
  clear bel_44
  have r_56 := Lib.hid (RdB.below r_45.out hb)
  clear r_45
  have t_57 := Lib.hid (RdB.below t_46.out hb)
  clear t_46
  have sr_58 := Lib.hid (Blk.keep sr_47.out hb)
  clear sr_47
  have st_59 := Lib.hid (Blk.keep st_48.out hb)
  clear st_48
  have u_60 := Lib.hid ((OwnB.rd ho).1)
  clear ho hb
  have bel_61 := Lib.hid (Below.alloc bel_55.out (bel_55.out.size) (.cells #[.int .i64 pu, .slice Au nu cu] 24))
  clear bel_55
  have r_62 := Lib.hid (RdB.alloc r_56.out (.cells #[.int .i64 pu, .slice Au nu cu] 24))
  clear r_56
  have t_63 := Lib.hid (RdB.alloc t_57.out (.cells #[.int .i64 pu, .slice Au nu cu] 24))
  clear t_57
  have sr_64 := Lib.hid (Blk.alloc sr_58.out (.cells #[.int .i64 pu, .slice Au nu cu] 24))
  clear sr_58
  have st_65 := Lib.hid (Blk.alloc st_59.out (.cells #[.int .i64 pu, .slice Au nu cu] 24))
  clear st_59
  have ownu_66 := Lib.hid (World.ownsRow.alloc ow_54.out (.cells #[.int .i64 pu, .slice Au nu cu] 24))
  clear ow_54
  have u_67 := Lib.hid (RdB.alloc u_60.out (.cells #[.int .i64 pu, .slice Au nu cu] 24))
  clear u_60
  have su_68 := Lib.hid (Blk.new w_53 24 #[.int .i64 pu, .slice Au nu cu])
  have z_69 : ((w_53.alloc (.cells #[.int .i64 pu, .slice Au nu cu] 24))).cell? ⟨w.heap.size, 0, none⟩ = some (.int .i64 P) := Blk.cell sr_64.out 0
  have z_70 : ((w_53.alloc (.cells #[.int .i64 pu, .slice Au nu cu] 24))).cell? ⟨w.heap.size, 1, none⟩ = some (.slice A n k) := Blk.cell sr_64.out 1
  have z_71 : ((w_53.alloc (.cells #[.int .i64 pu, .slice Au nu cu] 24))).cell? ⟨w.heap.size + 1, 0, none⟩ = some (.int .i64 Q) := Blk.cell st_65.out 0
  have z_72 : ((w_53.alloc (.cells #[.int .i64 pu, .slice Au nu cu] 24))).cell? ⟨w.heap.size + 1, 1, none⟩ = some (.slice B m d) := Blk.cell st_65.out 1
  have z_73 : ((w_53.alloc (.cells #[.int .i64 pu, .slice Au nu cu] 24))).cell? ⟨w_53.heap.size, 0, none⟩ = some (.int .i64 pu) := Blk.cell su_68.out 0
  have z_74 : ((w_53.alloc (.cells #[.int .i64 pu, .slice Au nu cu] 24))).cell? ⟨w_53.heap.size, 1, none⟩ = some (.slice Au nu cu) := Blk.cell su_68.out 1
  go_upto_region 6 with fail
  clear z_69 z_70 z_71 z_72 z_73 z_74
  go_cut [77] from 68 to 77 (fun s77 wx => s77 = .bool (decide (q1 = 0) && decide (q2 = 0) && decide (eg = 0)) ∧ wx = (w_53.alloc (.cells #[.int .i64 pu, .slice Au nu cu] 24)))
  case first =>
    by_cases h1 : q1 = 0
    · subst h1
      by_cases h2 : q2 = 0
      · subst h2
        by_cases h3 : eg = 0
        · subst h3
          go_wp2
          go_meet
          exact ⟨rfl, rfl⟩
        · have h3' : (eg == 0) = false := beq_eq_false_iff_ne.2 h3
          go_wp2
          go_meet
          exact ⟨by simp [h3], rfl⟩
      · have h2' : (q2 == 0) = false := beq_eq_false_iff_ne.2 h2
        go_wp2
        go_meet
        exact ⟨by simp [h2], rfl⟩
    · have h1' : (q1 == 0) = false := beq_eq_false_iff_ne.2 h1
      go_wp2
      go_meet
      exact ⟨by simp [h1], rfl⟩
  case rest =>
    obtain ⟨rfl, rfl⟩ := hcut
    have hcb := H.out
    generalize (decide (q1 = 0) && decide (q2 = 0) && decide (eg = 0)) = cb at *
    go_upto_if 77 with fail
    go_cut [] from 13 to 141 (fun wx => RdB wx A n k l ∧ Blk wx w.heap.size 24 #[.int .i64 P, .slice A n k] ∧ Below w.heap.size w wx)
    case first =>
      cases cb
      · go_wp2
        go_meet
        exact ⟨r_62.out, sr_64.out, bel_61.out⟩
      · obtain ⟨⟨b1, b2, b3, b4⟩, e3, e4, e5⟩ := hcb rfl
        have E3 := Lib.hid e3; have E4 := Lib.hid e4; have E5 := Lib.hid e5; clear e3 e4 e5 hcb
        have z_2001 : ((w_53.alloc (.cells #[.int .i64 pu, .slice Au nu cu] 24))).cell? ⟨w.heap.size, 0, none⟩ = some (.int .i64 P) := Blk.cell sr_64.out 0
        have z_2002 : ((w_53.alloc (.cells #[.int .i64 pu, .slice Au nu cu] 24))).cell? ⟨w.heap.size, 1, none⟩ = some (.slice A n k) := Blk.cell sr_64.out 1
        have z_2003 : ((w_53.alloc (.cells #[.int .i64 pu, .slice Au nu cu] 24))).cell? ⟨w.heap.size + 1, 0, none⟩ = some (.int .i64 Q) := Blk.cell st_65.out 0
        have z_2004 : ((w_53.alloc (.cells #[.int .i64 pu, .slice Au nu cu] 24))).cell? ⟨w.heap.size + 1, 1, none⟩ = some (.slice B m d) := Blk.cell st_65.out 1
        have z_2005 : ((w_53.alloc (.cells #[.int .i64 pu, .slice Au nu cu] 24))).cell? ⟨w_53.heap.size, 0, none⟩ = some (.int .i64 pu) := Blk.cell su_68.out 0
        have z_2006 : ((w_53.alloc (.cells #[.int .i64 pu, .slice Au nu cu] 24))).cell? ⟨w_53.heap.size, 1, none⟩ = some (.slice Au nu cu) := Blk.cell su_68.out 1
        go_wp2_with fail
        refine (Greatest_any pu a b Au nu cu lu _ u_67.out hmu).mono ?_
        rintro e w_2007 ⟨x_, t_, q_, rfl, hv_, hb⟩
        clear z_2001 z_2002 z_2003 z_2004 z_2005 z_2006
        have bel_2008 := Lib.hid (Below.trans bel_61.out (Below.mono hb (bel_61.out.size)))
        clear bel_61
        have r_2009 := Lib.hid (RdB.below r_62.out hb)
        clear r_62
        have t_2010 := Lib.hid (RdB.below t_63.out hb)
        clear t_63
        have sr_2011 := Lib.hid (Blk.keep sr_64.out hb)
        clear sr_64
        have st_2012 := Lib.hid (Blk.keep st_65.out hb)
        clear st_65
        have ownu_2013 := Lib.hid (owns_below ownu_66.out hb)
        clear ownu_66
        have u_2014 := Lib.hid (RdB.below u_67.out hb)
        clear u_67
        have su_2015 := Lib.hid (Blk.keep su_68.out hb)
        clear su_68
        clear hb
        obtain ⟨e0_, e1_, e2_⟩ := E3.out _ _ _ hv_; clear hv_
        replace e0_ := e0_.symm; subst e0_
        replace e1_ := e1_.symm; subst e1_
        replace e2_ := e2_.symm; subst e2_
        have z_2016 : (w_2007).cell? ⟨w.heap.size, 0, none⟩ = some (.int .i64 P) := Blk.cell sr_2011.out 0
        have z_2017 : (w_2007).cell? ⟨w.heap.size, 1, none⟩ = some (.slice A n k) := Blk.cell sr_2011.out 1
        have z_2018 : (w_2007).cell? ⟨w.heap.size + 1, 0, none⟩ = some (.int .i64 Q) := Blk.cell st_2012.out 0
        have z_2019 : (w_2007).cell? ⟨w.heap.size + 1, 1, none⟩ = some (.slice B m d) := Blk.cell st_2012.out 1
        have z_2020 : (w_2007).cell? ⟨w_53.heap.size, 0, none⟩ = some (.int .i64 pu) := Blk.cell su_2015.out 0
        have z_2021 : (w_2007).cell? ⟨w_53.heap.size, 1, none⟩ = some (.slice Au nu cu) := Blk.cell su_2015.out 1
        go_wp2_with fail
        refine (Greatest_any pu (P + c) P Au nu cu lu _ u_2014.out hmu).mono ?_
        rintro e w_2022 ⟨x_, t_, q_, rfl, hv_, hb⟩
        clear z_2016 z_2017 z_2018 z_2019 z_2020 z_2021
        have bel_2023 := Lib.hid (Below.trans bel_2008.out (Below.mono hb (bel_2008.out.size)))
        clear bel_2008
        have r_2024 := Lib.hid (RdB.below r_2009.out hb)
        clear r_2009
        have t_2025 := Lib.hid (RdB.below t_2010.out hb)
        clear t_2010
        have sr_2026 := Lib.hid (Blk.keep sr_2011.out hb)
        clear sr_2011
        have st_2027 := Lib.hid (Blk.keep st_2012.out hb)
        clear st_2012
        have ownu_2028 := Lib.hid (owns_below ownu_2013.out hb)
        clear ownu_2013
        have u_2029 := Lib.hid (RdB.below u_2014.out hb)
        clear u_2014
        have su_2030 := Lib.hid (Blk.keep su_2015.out hb)
        clear su_2015
        clear hb
        obtain ⟨e0_, e1_, e2_⟩ := E4.out _ _ _ hv_; clear hv_
        replace e0_ := e0_.symm; subst e0_
        replace e1_ := e1_.symm; subst e1_
        replace e2_ := e2_.symm; subst e2_
        have z_2031 : (w_2022).cell? ⟨w.heap.size, 0, none⟩ = some (.int .i64 P) := Blk.cell sr_2026.out 0
        have z_2032 : (w_2022).cell? ⟨w.heap.size, 1, none⟩ = some (.slice A n k) := Blk.cell sr_2026.out 1
        have z_2033 : (w_2022).cell? ⟨w.heap.size + 1, 0, none⟩ = some (.int .i64 Q) := Blk.cell st_2027.out 0
        have z_2034 : (w_2022).cell? ⟨w.heap.size + 1, 1, none⟩ = some (.slice B m d) := Blk.cell st_2027.out 1
        have z_2035 : (w_2022).cell? ⟨w_53.heap.size, 0, none⟩ = some (.int .i64 pu) := Blk.cell su_2030.out 0
        have z_2036 : (w_2022).cell? ⟨w_53.heap.size, 1, none⟩ = some (.slice Au nu cu) := Blk.cell su_2030.out 1
        go_wp2_with fail
        refine (Greatest_any pu a (P + c) Au nu cu lu _ u_2029.out hmu).mono ?_
        rintro e w_2037 ⟨x_, t_, q_, rfl, hv_, hb⟩
        clear z_2031 z_2032 z_2033 z_2034 z_2035 z_2036
        have bel_2038 := Lib.hid (Below.trans bel_2023.out (Below.mono hb (bel_2023.out.size)))
        clear bel_2023
        have r_2039 := Lib.hid (RdB.below r_2024.out hb)
        clear r_2024
        have t_2040 := Lib.hid (RdB.below t_2025.out hb)
        clear t_2025
        have sr_2041 := Lib.hid (Blk.keep sr_2026.out hb)
        clear sr_2026
        have st_2042 := Lib.hid (Blk.keep st_2027.out hb)
        clear st_2027
        have ownu_2043 := Lib.hid (owns_below ownu_2028.out hb)
        clear ownu_2028
        have u_2044 := Lib.hid (RdB.below u_2029.out hb)
        clear u_2029
        have su_2045 := Lib.hid (Blk.keep su_2030.out hb)
        clear su_2030
        clear hb
        obtain ⟨e0_, e1_⟩ := E5.out _ _ _ hv_; clear hv_
        replace e0_ := e0_.symm; subst e0_
        replace e1_ := e1_.symm; subst e1_
        have z_2046 : (w_2037).cell? ⟨w.heap.size, 0, none⟩ = some (.int .i64 P) := Blk.cell sr_2041.out 0
        have z_2047 : (w_2037).cell? ⟨w.heap.size, 1, none⟩ = some (.slice A n k) := Blk.cell sr_2041.out 1
        have z_2048 : (w_2037).cell? ⟨w.heap.size + 1, 0, none⟩ = some (.int .i64 Q) := Blk.cell st_2042.out 0
        have z_2049 : (w_2037).cell? ⟨w.heap.size + 1, 1, none⟩ = some (.slice B m d) := Blk.cell st_2042.out 1
        have z_2050 : (w_2037).cell? ⟨w_53.heap.size, 0, none⟩ = some (.int .i64 pu) := Blk.cell su_2045.out 0
        have z_2051 : (w_2037).cell? ⟨w_53.heap.size, 1, none⟩ = some (.slice Au nu cu) := Blk.cell su_2045.out 1
        go_wp2
        clear z_2046 z_2047 z_2048 z_2049 z_2050 z_2051
        go_meet
        exact ⟨r_2039.out, sr_2041.out, bel_2038.out⟩
    case rest =>
      obtain ⟨c1, c2, c3⟩ := hcut
      have RR := Lib.hid c1; have RS := Lib.hid c2; have RB := Lib.hid c3; clear c1 c2 c3 hcb
      have z_3001 : (wc).cell? ⟨w.heap.size, 0, none⟩ = some (.int .i64 P) := Blk.cell RS.out 0
      have z_3002 : (wc).cell? ⟨w.heap.size, 1, none⟩ = some (.slice A n k) := Blk.cell RS.out 1
      have hc := Calls.mono (Tie_any P a b M A n k l _ RR.out hn) (fun e w' h => retT_of h)
      rw [K1.out] at hc
      rw [K2.out] at hc
      rw [K3.out] at hc
      have HC := Lib.hid hc; clear hc
      go_wp2_with fail
      refine HC.out.mono ?_
      rintro e w_3003 ⟨Av, nv, cv, rfl, ho, hb⟩
      clear HC
      clear z_3001 z_3002
      have ow_3004 := Lib.hid (owns_base ho (RB.out.size))
      have hmv := ownB_max ho
      have bel_3005 := Lib.hid (Below.trans RB.out (Below.mono hb (RB.out.size)))
      clear RB
      have r_3006 := Lib.hid (RdB.below RR.out hb)
      clear RR
      have sr_3007 := Lib.hid (Blk.keep RS.out hb)
      clear RS
      have v_3008 := Lib.hid ((OwnB.rd ho).1)
      clear ho hb
      have bel_3009 := Lib.hid (Below.alloc bel_3005.out (bel_3005.out.size) (.cells #[.int .i64 ph, .slice Av nv cv] 24))
      clear bel_3005
      have r_3010 := Lib.hid (RdB.alloc r_3006.out (.cells #[.int .i64 ph, .slice Av nv cv] 24))
      clear r_3006
      have sr_3011 := Lib.hid (Blk.alloc sr_3007.out (.cells #[.int .i64 ph, .slice Av nv cv] 24))
      clear sr_3007
      have ownv_3012 := Lib.hid (World.ownsRow.alloc ow_3004.out (.cells #[.int .i64 ph, .slice Av nv cv] 24))
      clear ow_3004
      have v_3013 := Lib.hid (RdB.alloc v_3008.out (.cells #[.int .i64 ph, .slice Av nv cv] 24))
      clear v_3008
      have sv_3014 := Lib.hid (Blk.new w_3003 24 #[.int .i64 ph, .slice Av nv cv])
      have z_3015 : ((w_3003.alloc (.cells #[.int .i64 ph, .slice Av nv cv] 24))).cell? ⟨w.heap.size, 0, none⟩ = some (.int .i64 P) := Blk.cell sr_3011.out 0
      have z_3016 : ((w_3003.alloc (.cells #[.int .i64 ph, .slice Av nv cv] 24))).cell? ⟨w.heap.size, 1, none⟩ = some (.slice A n k) := Blk.cell sr_3011.out 1
      have z_3017 : ((w_3003.alloc (.cells #[.int .i64 ph, .slice Av nv cv] 24))).cell? ⟨w_3003.heap.size, 0, none⟩ = some (.int .i64 ph) := Blk.cell sv_3014.out 0
      have z_3018 : ((w_3003.alloc (.cells #[.int .i64 ph, .slice Av nv cv] 24))).cell? ⟨w_3003.heap.size, 1, none⟩ = some (.slice Av nv cv) := Blk.cell sv_3014.out 1
      rcases J.out with hj | ⟨hj, Z, hz1, hz2⟩ | ⟨hj, z0, hz1, hz2⟩
      · have hj' : (eh != 0) = true := bne_iff_ne.2 hj
        have hj2 : decide (eh ≠ 0) = true := decide_eq_true hj
        go_wp2_with fail
        refine (alive_ok _).mono ?_
        rintro e w_4001 ⟨rfl, hb⟩
        clear z_3015 z_3016 z_3017 z_3018
        have bel_4002 := Lib.hid (Below.trans bel_3009.out (Below.mono hb (bel_3009.out.size)))
        clear bel_3009
        have r_4003 := Lib.hid (RdB.below r_3010.out hb)
        clear r_3010
        have sr_4004 := Lib.hid (Blk.keep sr_3011.out hb)
        clear sr_3011
        have ownv_4005 := Lib.hid (owns_below ownv_3012.out hb)
        clear ownv_3012
        have v_4006 := Lib.hid (RdB.below v_3013.out hb)
        clear v_3013
        have sv_4007 := Lib.hid (Blk.keep sv_3014.out hb)
        clear sv_3014
        clear hb
        go_wp2
        go_ret
        exact ⟨rfl, bel_4002.out⟩
      · subst hj
        have HZ1 := Lib.hid hz1; have HZ2 := Lib.hid hz2; clear hz1 hz2
        have hc := Fixed_any ph a b Av nv cv lh _ v_3013.out hmv
        rw [HZ2.out] at hc
        try dsimp only at hc
        have HC := Lib.hid hc; clear hc
        go_wp2_with fail
        refine HC.out.mono ?_
        rintro e w_4001 ⟨rfl, hb⟩
        clear HC
        clear z_3015 z_3016 z_3017 z_3018
        have bel_4002 := Lib.hid (Below.trans bel_3009.out (Below.mono hb (bel_3009.out.size)))
        clear bel_3009
        have r_4003 := Lib.hid (RdB.below r_3010.out hb)
        clear r_3010
        have sr_4004 := Lib.hid (Blk.keep sr_3011.out hb)
        clear sr_3011
        have ownv_4005 := Lib.hid (owns_below ownv_3012.out hb)
        clear ownv_3012
        have v_4006 := Lib.hid (RdB.below v_3013.out hb)
        clear v_3013
        have sv_4007 := Lib.hid (Blk.keep sv_3014.out hb)
        clear sv_3014
        clear hb
        have z_4008 : (w_4001).cell? ⟨w.heap.size, 0, none⟩ = some (.int .i64 P) := Blk.cell sr_4004.out 0
        have z_4009 : (w_4001).cell? ⟨w.heap.size, 1, none⟩ = some (.slice A n k) := Blk.cell sr_4004.out 1
        have z_4010 : (w_4001).cell? ⟨w_3003.heap.size, 0, none⟩ = some (.int .i64 ph) := Blk.cell sv_4007.out 0
        have z_4011 : (w_4001).cell? ⟨w_3003.heap.size, 1, none⟩ = some (.slice Av nv cv) := Blk.cell sv_4007.out 1
        have hc := Solve_any ph Av nv cv lh _ v_4006.out hmv
        rw [HZ1.out] at hc
        unfold RetI at hc; dsimp only at hc
        have HC := Lib.hid hc; clear hc
        go_wp2_with fail
        refine HC.out.mono ?_
        rintro e w_4012 ⟨Ay, ny, cy, rfl, ho, hb⟩
        clear HC
        clear z_4008 z_4009 z_4010 z_4011
        have ow_4013 := Lib.hid (owns_base ho (bel_4002.out.size))
        have bel_4014 := Lib.hid (Below.trans bel_4002.out (Below.mono hb (bel_4002.out.size)))
        clear bel_4002
        have r_4015 := Lib.hid (RdB.below r_4003.out hb)
        clear r_4003
        have sr_4016 := Lib.hid (Blk.keep sr_4004.out hb)
        clear sr_4004
        have ownv_4017 := Lib.hid (owns_below ownv_4005.out hb)
        clear ownv_4005
        have v_4018 := Lib.hid (RdB.below v_4006.out hb)
        clear v_4006
        have sv_4019 := Lib.hid (Blk.keep sv_4007.out hb)
        clear sv_4007
        have y_4020 := Lib.hid ((OwnI.rd ho).1)
        obtain rfl : ny = Z.length := y_4020.out.len.symm
        clear ho hb
        have z_4021 : (w_4012).cell? ⟨w.heap.size, 0, none⟩ = some (.int .i64 P) := Blk.cell sr_4016.out 0
        have z_4022 : (w_4012).cell? ⟨w.heap.size, 1, none⟩ = some (.slice A n k) := Blk.cell sr_4016.out 1
        have z_4023 : (w_4012).cell? ⟨w_3003.heap.size, 0, none⟩ = some (.int .i64 ph) := Blk.cell sv_4019.out 0
        have z_4024 : (w_4012).cell? ⟨w_3003.heap.size, 1, none⟩ = some (.slice Av nv cv) := Blk.cell sv_4019.out 1
        go_wp2_with fail
        refine (alive_ok _).mono ?_
        rintro e w_4025 ⟨rfl, hb⟩
        clear z_4021 z_4022 z_4023 z_4024
        have bel_4026 := Lib.hid (Below.trans bel_4014.out (Below.mono hb (bel_4014.out.size)))
        clear bel_4014
        have r_4027 := Lib.hid (RdB.below r_4015.out hb)
        clear r_4015
        have sr_4028 := Lib.hid (Blk.keep sr_4016.out hb)
        clear sr_4016
        have ownv_4029 := Lib.hid (owns_below ownv_4017.out hb)
        clear ownv_4017
        have v_4030 := Lib.hid (RdB.below v_4018.out hb)
        clear v_4018
        have sv_4031 := Lib.hid (Blk.keep sv_4019.out hb)
        clear sv_4019
        have owny_4032 := Lib.hid (owns_below ow_4013.out hb)
        clear ow_4013
        have y_4033 := Lib.hid (RdI.below y_4020.out hb)
        clear y_4020
        clear hb
        go_wp2
        go_ret
        exact ⟨rfl, bel_4026.out⟩
      · subst hj
        have HZ1 := Lib.hid hz1; have HZ2 := Lib.hid hz2; clear hz1 hz2
        have hc := Fixed_any ph a b Av nv cv lh _ v_3013.out hmv
        rw [HZ2.out] at hc
        try dsimp only at hc
        have HC := Lib.hid hc; clear hc
        go_wp2_with fail
        refine HC.out.mono ?_
        rintro e w_4001 ⟨rfl, hb⟩
        clear HC
        clear z_3015 z_3016 z_3017 z_3018
        have bel_4002 := Lib.hid (Below.trans bel_3009.out (Below.mono hb (bel_3009.out.size)))
        clear bel_3009
        have r_4003 := Lib.hid (RdB.below r_3010.out hb)
        clear r_3010
        have sr_4004 := Lib.hid (Blk.keep sr_3011.out hb)
        clear sr_3011
        have ownv_4005 := Lib.hid (owns_below ownv_3012.out hb)
        clear ownv_3012
        have v_4006 := Lib.hid (RdB.below v_3013.out hb)
        clear v_3013
        have sv_4007 := Lib.hid (Blk.keep sv_3014.out hb)
        clear sv_3014
        clear hb
        have z_4008 : (w_4001).cell? ⟨w.heap.size, 0, none⟩ = some (.int .i64 P) := Blk.cell sr_4004.out 0
        have z_4009 : (w_4001).cell? ⟨w.heap.size, 1, none⟩ = some (.slice A n k) := Blk.cell sr_4004.out 1
        have z_4010 : (w_4001).cell? ⟨w_3003.heap.size, 0, none⟩ = some (.int .i64 ph) := Blk.cell sv_4007.out 0
        have z_4011 : (w_4001).cell? ⟨w_3003.heap.size, 1, none⟩ = some (.slice Av nv cv) := Blk.cell sv_4007.out 1
        have hc := Solve_any ph Av nv cv lh _ v_4006.out hmv
        rw [HZ1.out] at hc
        unfold RetI at hc; dsimp only at hc
        have HC := Lib.hid hc; clear hc
        go_wp2_with fail
        refine HC.out.mono ?_
        rintro e w_4012 ⟨Ay, ny, cy, rfl, ho, hb⟩
        clear HC
        clear z_4008 z_4009 z_4010 z_4011
        have ow_4013 := Lib.hid (owns_base ho (bel_4002.out.size))
        have bel_4014 := Lib.hid (Below.trans bel_4002.out (Below.mono hb (bel_4002.out.size)))
        clear bel_4002
        have r_4015 := Lib.hid (RdB.below r_4003.out hb)
        clear r_4003
        have sr_4016 := Lib.hid (Blk.keep sr_4004.out hb)
        clear sr_4004
        have ownv_4017 := Lib.hid (owns_below ownv_4005.out hb)
        clear ownv_4005
        have v_4018 := Lib.hid (RdB.below v_4006.out hb)
        clear v_4006
        have sv_4019 := Lib.hid (Blk.keep sv_4007.out hb)
        clear sv_4007
        have y_4020 := Lib.hid ((OwnI.rd ho).1)
        obtain rfl : ny = 0 := y_4020.out.len.symm
        clear ho hb
        have z_4021 : (w_4012).cell? ⟨w.heap.size, 0, none⟩ = some (.int .i64 P) := Blk.cell sr_4016.out 0
        have z_4022 : (w_4012).cell? ⟨w.heap.size, 1, none⟩ = some (.slice A n k) := Blk.cell sr_4016.out 1
        have z_4023 : (w_4012).cell? ⟨w_3003.heap.size, 0, none⟩ = some (.int .i64 ph) := Blk.cell sv_4019.out 0
        have z_4024 : (w_4012).cell? ⟨w_3003.heap.size, 1, none⟩ = some (.slice Av nv cv) := Blk.cell sv_4019.out 1
        go_wp2_with fail
        refine (alive_ok _).mono ?_
        rintro e w_4025 ⟨rfl, hb⟩
        clear z_4021 z_4022 z_4023 z_4024
        have bel_4026 := Lib.hid (Below.trans bel_4014.out (Below.mono hb (bel_4014.out.size)))
        clear bel_4014
        have r_4027 := Lib.hid (RdB.below r_4015.out hb)
        clear r_4015
        have sr_4028 := Lib.hid (Blk.keep sr_4016.out hb)
        clear sr_4016
        have ownv_4029 := Lib.hid (owns_below ownv_4017.out hb)
        clear ownv_4017
        have v_4030 := Lib.hid (RdB.below v_4018.out hb)
        clear v_4018
        have sv_4031 := Lib.hid (Blk.keep sv_4019.out hb)
        clear sv_4019
        have owny_4032 := Lib.hid (owns_below ow_4013.out hb)
        clear ow_4013
        have y_4033 := Lib.hid (RdI.below y_4020.out hb)
        clear y_4020
        clear hb
        go_wp2
        go_ret
        exact ⟨rfl, bel_4026.out⟩

theorem greatT_zero {P : Int} {l : List Bnd} {a b : Int} (h : (greatT P l a b).2.2 = 0) : scode P l [a, b] = 0 := by
  unfold greatT at h
  by_cases hs : scode P l [a, b] = 0
  · exact hs
  · rw [if_neg hs] at h; exact absurd h hs
theorem greatT_eq {P : Int} {l : List Bnd} {a b : Nat} (h : scode P l [(a : Int), (b : Int)] = 0) : greatT P l a b = (fin (dist l P.toNat a b), isF (dist l P.toNat a b), 0) := by
  unfold greatT
  rw [if_pos h, Int.toNat_natCast, Int.toNat_natCast]

theorem be_first {P Q a b c : Int} {l x : List Bnd} (h1 : (greatT P l a b).2.2 = 0) (h2 : (greatT Q x c 0).2.2 = 0) (h3 : besC P l Q x = 0) :
    (0 ≤ P ∧ P ≤ 60 ∧ 0 ≤ c ∧ c ≤ 60) ∧ greatT (P + Q) (l ++ x.map (shB P)) a b = greatT P l a b ∧ greatT (P + Q) (l ++ x.map (shB P)) (P + c) P = greatT Q x c 0 ∧ greatT (P + Q) (l ++ x.map (shB P)) a (P + c) = (0, false, 0) := by
  have s1 := greatT_zero h1
  have s2 := greatT_zero h2
  obtain ⟨k1, pt1, g1⟩ := scode_ok s1
  obtain ⟨k2, pt2, g2⟩ := scode_ok s2
  simp only [List.all_cons, List.all_nil, Bool.and_true, Bool.and_eq_true, isPt, decide_eq_true_eq] at pt1 pt2
  have k3 : chk (P + Q) (l ++ x.map (shB P)) = 0 := by unfold besC at h3; rw [if_pos k1, if_pos k2] at h3; exact h3
  obtain ⟨p1, p2, -, -⟩ := chk_ok k1
  obtain ⟨r1, r2, -, -⟩ := chk_ok k2
  obtain ⟨-, pq, -, -⟩ := chk_ok k3
  obtain ⟨P, rfl⟩ := Int.eq_ofNat_of_zero_le (show 0 ≤ P by omega)
  obtain ⟨Q, rfl⟩ := Int.eq_ofNat_of_zero_le (show 0 ≤ Q by omega)
  obtain ⟨a, rfl⟩ := Int.eq_ofNat_of_zero_le pt1.1.1
  obtain ⟨b, rfl⟩ := Int.eq_ofNat_of_zero_le pt1.2.1
  obtain ⟨c, rfl⟩ := Int.eq_ofNat_of_zero_le pt2.1.1
  rw [Int.toNat_natCast] at g1 g2
  have hs := beside_solved k1 k2 k3 g1 g2
  have hpq : ((P : Int) + Q).toNat = P + Q := by omega
  obtain ⟨d1, d2, d3⟩ := beside_dist k1 k2 k3 g1 g2 (a := a) (b := b) (c := c) (d := 0) (by omega) (by omega) (by omega) (by omega)
  have cd := fun (u v : Nat) (hu : u < P + Q) (hv : v < P + Q) => code_pts (ps := [(u : Int), (v : Int)]) k3 (by simp [isPt]; omega) (by rw [hpq]; exact hs)
  have e1 := greatT_eq (cd a b (by omega) (by omega))
  have e2 := greatT_eq (cd (P + c) P (by omega) (by omega))
  have e3 := greatT_eq (cd a (P + c) (by omega) (by omega))
  rw [hpq] at e1 e2 e3
  rw [Nat.add_zero] at d2
  have hPc : ((P + c : Nat) : Int) = (P : Int) + c := by omega
  rw [hPc] at e2 e3
  refine ⟨⟨by omega, by omega, by omega, by omega⟩, ?_, ?_, ?_⟩
  · rw [e1, d1, greatT_eq s1, Int.toNat_natCast]
  · have e4 := greatT_eq (P := (Q : Int)) (l := x) (a := c) (b := 0) s2
    rw [e2, d2]
    exact (show (fin (dist x Q c 0), isF (dist x Q c 0), (0 : Int)) = greatT (Q : Int) x (c : Int) 0 from by rw [show ((0 : Nat) : Int) = 0 from rfl, Int.toNat_natCast] at e4; exact e4.symm)
  · rw [e3, d3]; simp [fin, isF]

theorem be_second (P a b M : Int) (l : List Bnd) : tieC P l a b M ≠ 0 ∨ (tieC P l a b M = 0 ∧ ∃ Z, solveV (sp (tieC P l a b M) P) (sl (tieC P l a b M) (l ++ tieB a b M)) = (Z, true, 0) ∧ fixedV (sp (tieC P l a b M) P) (sl (tieC P l a b M) (l ++ tieB a b M)) a b = (M, true, 0)) ∨
    (tieC P l a b M = 0 ∧ ∃ z, solveV (sp (tieC P l a b M) P) (sl (tieC P l a b M) (l ++ tieB a b M)) = ([], false, 0) ∧ fixedV (sp (tieC P l a b M) P) (sl (tieC P l a b M) (l ++ tieB a b M)) a b = (z, false, 10)) := by
  by_cases h : tieC P l a b M = 0
  · right
    rw [h]
    have hsp : sp 0 P = P := rfl
    have hsl : sl 0 (l ++ tieB a b M) = l ++ tieB a b M := rfl
    rw [hsp, hsl]
    unfold tieC at h
    by_cases hg : gcode P l [a, b] = 0
    · obtain ⟨hk0, ⟨a0, a1⟩, b0, b1⟩ := gcode_pts hg
      rw [if_pos hg] at h
      have hk : chk P (l ++ tieB a b M) = 0 := by
        split at h
        · cases h
        · exact h
      obtain ⟨hp1, hp2, -, -⟩ := chk_ok hk
      have hg2 : gcode P (l ++ tieB a b M) [] = 0 := by unfold gcode; rw [if_pos hk]; rfl
      have hg3 : gcode P (l ++ tieB a b M) [a, b] = 0 := by unfold gcode; rw [if_pos hk, if_pos (by simp [isPt]; omega)]
      obtain ⟨a, rfl⟩ := Int.eq_ofNat_of_zero_le a0
      obtain ⟨b, rfl⟩ := Int.eq_ofNat_of_zero_le b0
      cases hz : settle (l ++ tieB a b M) P.toNat zeros with
      | some z =>
        left
        obtain ⟨t1, t2⟩ := tied_fixed hk (by rw [hz]; rfl) (a := a) (b := b) (by omega) (by omega)
        refine ⟨rfl, z.take P.toNat, ?_, ?_⟩
        · unfold solveV; rw [if_pos hg2, hz]
        · unfold fixedV
          rw [if_pos (by unfold scode; rw [if_pos hg3, hz]; rfl), Int.toNat_natCast, Int.toNat_natCast, if_pos (by omega), t1]
      | none =>
        right
        have hs : scode P (l ++ tieB a b M) [(a : Int), (b : Int)] = 10 := by unfold scode; rw [if_pos hg3, hz]; rfl
        refine ⟨rfl, 0, ?_, ?_⟩
        · unfold solveV; rw [if_pos hg2, hz]
        · unfold fixedV
          rw [if_neg (by rw [hs]; decide), hs]
    · rw [if_neg hg] at h; exact absurd h hg
  · exact .inl h

theorem be_walk (w : World) (P : Int) (A : Option Addr) (n k : Nat) (l : List Bnd) (_ : (Lit.int .i64 P).wf = true) (hr : RdB w A n k l) (hn : n ≤ maxLen) (Q : Int) (B : Option Addr) (m d : Nat) (x : List Bnd) (_ : (Lit.int .i64 Q).wf = true) (hx : RdB w B m d x) (hm : m ≤ maxLen)
    (a : Int) (_ : (Lit.int .i64 a).wf = true) (b : Int) (_ : (Lit.int .i64 b).wf = true) (c : Int) (_ : (Lit.int .i64 c).wf = true) (M : Int) (_ : (Lit.int .i64 M).wf = true) :
    Calls Try.prog 15 #[.agg #[.int .i64 P, .slice A n k], .agg #[.int .i64 Q, .slice B m d], .int .i64 a, .int .i64 b, .int .i64 c, .int .i64 M] w fun e w' => e = .returned (.bool true) ∧ Below w.heap.size w w' := by
  by_cases hw : n ≤ 403
  · by_cases hv : m ≤ 403
    · have gi := fun (P a b : Int) (l : List Bnd) (X q : Int) (T : Bool) (e : greatT P l a b = (X, T, q)) (x : Int) (t : Bool) (q' : Int) (h : endV P l a b true = .tuple #[.int .i64 x, .bool t, .int .i64 q']) => show x = X ∧ t = T ∧ q' = q from by
        have := tup_inj (endV_great P l a b ▸ h)
        rw [e] at this
        exact this
      refine be_main P Q a b c M A n k l w hr hn B m d x hx hm hw hv (greatT P l a b).2.2 (greatT Q x c 0).2.2 _ _ _ _ (greatT P l a b).1 (greatT Q x c 0).1 (greatT P l a b).2.1 (greatT Q x c 0).2.1 _ _
        (Lib.hid (gi _ _ _ _ _ _ _ rfl)) (Lib.hid (gi _ _ _ _ _ _ _ rfl)) (Lib.hid rfl) (Lib.hid rfl) (Lib.hid rfl) (Lib.hid fun hc => ?_) (Lib.hid rfl) (Lib.hid rfl) (Lib.hid rfl) (Lib.hid (be_second P a b M l))
      simp only [Bool.and_eq_true, decide_eq_true_eq] at hc
      obtain ⟨⟨h1, h2⟩, h3⟩ := hc
      obtain ⟨f1, f2, f3, f4⟩ := be_first h1 h2 h3
      rw [h3]
      have hsp : sp 0 (P + Q) = P + Q := rfl
      have hsl : sl 0 (l ++ x.map (shB P)) = l ++ x.map (shB P) := rfl
      rw [hsp, hsl]
      refine ⟨f1, gi _ _ _ _ _ _ _ (f2.trans (Prod.ext rfl (Prod.ext rfl h1))), gi _ _ _ _ _ _ _ (f3.trans (Prod.ext rfl (Prod.ext rfl h2))), fun x t q h => ?_⟩
      exact (gi _ _ _ _ _ _ _ f4 x t q h).2
    · exact be_w2 P Q a b c M A n k l w hr hn B m d x hx hm hw hv
  · exact be_w1 P Q a b c M A n k l w hr hn B m d x hx hm hw

set_option maxRecDepth 100000 in
theorem gaugeBeside_lifted (os : Os) (started : os.Started) (H : Type) (enc : TypeId × Value → H) :
    ReturnsInHanded {} Try.checked os 15 .any (Rows.gaugeBesideSpec.pre6 enc Try.prog Try.f15 Rows.gaugeBesideRow.domain false) (Rows.gaugeBesideSpec.post enc Try.prog Try.f15 false true false false) := by
  refine returnsInHanded_of_change (C := Try.checked) Law.own started (by kernel_rfl) Try.func15
    (ChangeSpec.witness6 (enc := enc) (C := Try.checked) false ⟨#[], #[.agg #[.int .i64 0, .slice none 0 0], .agg #[.int .i64 0, .slice none 0 0], .int .i64 0, .int .i64 0, .int .i64 0, .int .i64 0], []⟩ 8 (by kernel_rfl) (by kernel_rfl) (by kernel_rfl) (by kernel_rfl)) ?_
  intro W base args ds gs before hval0 hW hcnd _
  have hval : ∀ (j : Nat) t v, Try.f15.params[j]? = some t → args[j]? = some v → Value.okWide Try.prog W .any base t v := hval0
  have hW' := hW
  obtain ⟨p, q, hA0, hV, rfl, hfz, hnd⟩ := hW
  have hA : DataW.TrodAll enc Try.prog W 0 (fun _ => true) true Try.f15.params.toList args.toList ds p := hA0
  rw [Try.params15] at hA hval
  obtain ⟨v0, vs0, d0, ds0, p0, q0, hargs, rfl, rfl, h0, r0⟩ := trodAll_cons hA
  obtain ⟨v1, vs1, d1, ds1, p1, q1, rfl, rfl, rfl, h1, r1⟩ := trodAll_cons r0
  obtain ⟨v2, vs2, d2, ds2, p2, q2, rfl, rfl, rfl, h2, r2⟩ := trodAll_cons r1
  obtain ⟨v3, vs3, d3, ds3, p3, q3, rfl, rfl, rfl, h3, r3⟩ := trodAll_cons r2
  obtain ⟨v4, vs4, d4, ds4, p4, q4, rfl, rfl, rfl, h4, r4⟩ := trodAll_cons r3
  obtain ⟨v5, vs5, d5, ds5, p5, q5, rfl, rfl, rfl, h5, r5⟩ := trodAll_cons r4
  obtain ⟨rfl, rfl, rfl⟩ := trodAll_nil r5
  obtain rfl : args = #[v0, v1, v2, v3, v4, v5] := by cases args; simp_all
  obtain ⟨rfl, rfl⟩ := trodVars_none hV
  have k0 := h0
  have lt0 : ∀ x ∈ p0, x.block < W.heap.size := by obtain ⟨m, hm⟩ := k0; exact DataW.trod_lt m _ _ _ hm
  obtain ⟨P0, A0, n0, c0, l0, rfl, w0, rd0, mx0⟩ := open_sys (hval 0 24 v0 rfl rfl) h0
  have k1 := h1
  have lt1 : ∀ x ∈ p1, x.block < W.heap.size := by obtain ⟨m, hm⟩ := k1; exact DataW.trod_lt m _ _ _ hm
  obtain ⟨P1, A1, n1, c1, l1, rfl, w1, rd1, mx1⟩ := open_sys (hval 1 24 v1 rfl rfl) h1
  obtain ⟨a2, rfl, rfl, rfl, w2⟩ := open_int Try.underlying3 (hval 2 3 v2 rfl rfl) h2
  obtain ⟨a3, rfl, rfl, rfl, w3⟩ := open_int Try.underlying3 (hval 3 3 v3 rfl rfl) h3
  obtain ⟨a4, rfl, rfl, rfl, w4⟩ := open_int Try.underlying3 (hval 4 3 v4 rfl rfl) h4
  obtain ⟨a5, rfl, rfl, rfl, w5⟩ := open_int Try.underlying3 (hval 5 3 v5 rfl rfl) h5
  clear hA0 hval0
  refine (be_walk W P0 A0 n0 c0 l0 w0 rd0 mx0 P1 A1 n1 c1 l1 w1 rd1 mx1 a2 w2 a3 w3 a4 w4 a5 w5).mono fun e W' ⟨he, bel⟩ => ?_
  subst he
  exact ⟨_, rfl, _, _, _, [], _, [], hW', trodAll_mk1 (shut_bool Try.underlying4 _), (trodAll_cons_mk (Below.trod Law.laidOut (by kernel_rfl) (of_decide_eq_true (by kernel_rfl)) k0 bel lt0) (trodAll_cons_mk (Below.trod Law.laidOut (by kernel_rfl) (of_decide_eq_true (by kernel_rfl)) k1 bel lt1) (trodAll_cons_mk (shut_int Try.underlying3 w2) (trodAll_cons_mk (shut_int Try.underlying3 w3) (trodAll_cons_mk (shut_int Try.underlying3 w4) (trodAll_cons_mk (shut_int Try.underlying3 w5) trodAll_mk0)))))), rfl, bel.frame _, fun h => by cases h⟩

theorem gaugeBeside_over : Rows.gaugeBesideRow.holds Try.pinned (OpenSpec.ofChange Rows.gaugeBesideSpec) :=
  OpenClaim.holds_of_wide 15 Try.f15 rfl rfl rfl rfl rfl rfl rfl ⟨rfl, rfl, rfl, rfl, rfl⟩ rfl rfl rfl rfl rfl (by kernel_rfl) Try.func15 (by kernel_rfl)
    (of_decide_eq_true (by kernel_rfl)) (by unfold Func.isWrapper; first | (rw [if_pos (by decide +kernel)]; kernel_rfl) | (rw [if_neg (by decide +kernel)]; exact ⟨rfl, rfl⟩))
    (fun os started H enc _ => gaugeBeside_lifted os started H enc)

theorem gaugeBeside_proved : Rows.GaugeBesideSaid := gaugeBeside_over
end Go.Proofs.Ythlnialipjihdaa
