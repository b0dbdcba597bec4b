/- For every two systems, two points and number GaugeTies returns true: Beside and Tie return what the reference returns. No condition. -/
import Derived.Test.YthlnialipjihdaaRows
import Derived.Test.YthlnialipjihdaaRetT
import Derived.Test.YthlnialipjihdaaRBeside
import Derived.Test.YthlnialipjihdaaRTie
import Derived.Test.YthlnialipjihdaaTie
import Derived.Test.YthlnialipjihdaaShz
set_option linter.unusedSimpArgs false
set_option linter.unusedVariables false
namespace Go.Proofs.Ythlnialipjihdaa
open Go.ChangeShapes Go.WideShapes Go.ChangeAt Go.RowKit

set_option maxRecDepth 100000 in
set_option maxHeartbeats 4000000 in
theorem ti_w1 (P Q a b M : Int) (A : Option Addr) (n k : Nat) (l : List Bnd) (w : World) (hr : RdB w A n k l) (hn : n ≤ maxLen) (B : Option Addr) (m d : Nat) (x : List Bnd) (hx : RdB w B m d x) (hm : m ≤ maxLen) (hw : ¬ n ≤ 403) :
    Calls Try.prog 3 #[.agg #[.int .i64 P, .slice A n k], .agg #[.int .i64 Q, .slice B m d], .int .i64 a, .int .i64 b, .int .i64 M] w fun e w' => e = .returned (.bool true) ∧ Below w.heap.size w w' := by
  go_enter Try.func3, Try.ntmps3
  have bel_1 := Lib.hid (show Below w.heap.size w w from Below.refl _ w)
  have r_2 := Lib.hid (hr)
  clear hr
  have t_3 := Lib.hid (hx)
  clear hx
  have bel_4 := Lib.hid (Below.alloc bel_1.out (bel_1.out.size) (.cells #[.int .i64 P, .slice A n k] 24))
  clear bel_1
  have r_5 := Lib.hid (RdB.alloc r_2.out (.cells #[.int .i64 P, .slice A n k] 24))
  clear r_2
  have t_6 := Lib.hid (RdB.alloc t_3.out (.cells #[.int .i64 P, .slice A n k] 24))
  clear t_3
  have sr_7 := Lib.hid (Blk.new w 24 #[.int .i64 P, .slice A n k])
  have bel_8 := Lib.hid (Below.alloc bel_4.out (bel_4.out.size) (.cells #[.int .i64 Q, .slice B m d] 24))
  clear bel_4
  have r_9 := Lib.hid (RdB.alloc r_5.out (.cells #[.int .i64 Q, .slice B m d] 24))
  clear r_5
  have t_10 := Lib.hid (RdB.alloc t_6.out (.cells #[.int .i64 Q, .slice B m d] 24))
  clear t_6
  have sr_11 := Lib.hid (Blk.alloc sr_7.out (.cells #[.int .i64 Q, .slice B m d] 24))
  clear sr_7
  have nb_ := Blk.new (w.alloc (.cells #[.int .i64 P, .slice A n k] 24)) 24 #[.int .i64 Q, .slice B m d]
  simp only [World.size_alloc] at nb_
  have st_12 := Lib.hid nb_; clear nb_
  have hc := (show Calls Try.prog 18 #[.agg #[.int .i64 P, .slice A n k]] (((w.alloc (.cells #[.int .i64 P, .slice A n k] 24)).alloc (.cells #[.int .i64 Q, .slice B m d] 24))) fun e w' => e = .returned (.bool false) ∧ Below (((w.alloc (.cells #[.int .i64 P, .slice A n k] 24)).alloc (.cells #[.int .i64 Q, .slice B m d] 24))).heap.size (((w.alloc (.cells #[.int .i64 P, .slice A n k] 24)).alloc (.cells #[.int .i64 Q, .slice B m d] 24))) w' from by have h := wide_any P A n k (((w.alloc (.cells #[.int .i64 P, .slice A n k] 24)).alloc (.cells #[.int .i64 Q, .slice B m d] 24))); rw [show decide (n ≤ 403) = false from by simpa using hw] at h; exact h)
  have HC := Lib.hid hc; clear hc
  go_wp2_with fail
  refine HC.out.mono ?_
  rintro e w_13 ⟨rfl, hb⟩
  clear HC
  have bel_14 := Lib.hid (Below.trans bel_8.out (Below.mono hb (bel_8.out.size)))
  clear bel_8
  have r_15 := Lib.hid (RdB.below r_9.out hb)
  clear r_9
  have t_16 := Lib.hid (RdB.below t_10.out hb)
  clear t_10
  have sr_17 := Lib.hid (Blk.keep sr_11.out hb)
  clear sr_11
  have st_18 := Lib.hid (Blk.keep st_12.out hb)
  clear st_12
  clear hb
  have z_19 : (w_13).cell? ⟨w.heap.size, 0, none⟩ = some (.int .i64 P) := Blk.cell sr_17.out 0
  have z_20 : (w_13).cell? ⟨w.heap.size, 1, none⟩ = some (.slice A n k) := Blk.cell sr_17.out 1
  have z_21 : (w_13).cell? ⟨w.heap.size + 1, 0, none⟩ = some (.int .i64 Q) := Blk.cell st_18.out 0
  have z_22 : (w_13).cell? ⟨w.heap.size + 1, 1, none⟩ = some (.slice B m d) := Blk.cell st_18.out 1
  go_wp2_with fail
  refine (alive_ok _).mono ?_
  rintro e w_23 ⟨rfl, hb⟩
  clear z_19 z_20 z_21 z_22
  have bel_24 := Lib.hid (Below.trans bel_14.out (Below.mono hb (bel_14.out.size)))
  clear bel_14
  have r_25 := Lib.hid (RdB.below r_15.out hb)
  clear r_15
  have t_26 := Lib.hid (RdB.below t_16.out hb)
  clear t_16
  have sr_27 := Lib.hid (Blk.keep sr_17.out hb)
  clear sr_17
  have st_28 := Lib.hid (Blk.keep st_18.out hb)
  clear st_18
  clear hb
  go_wp2
  go_ret
  exact ⟨rfl, bel_24.out⟩

set_option maxRecDepth 100000 in
set_option maxHeartbeats 4000000 in
theorem ti_w2 (P Q a b M : Int) (A : Option Addr) (n k : Nat) (l : List Bnd) (w : World) (hr : RdB w A n k l) (hn : n ≤ maxLen) (B : Option Addr) (m d : Nat) (x : List Bnd) (hx : RdB w B m d x) (hm : m ≤ maxLen) (hw : n ≤ 403) (hv : ¬ m ≤ 403) :
    Calls Try.prog 3 #[.agg #[.int .i64 P, .slice A n k], .agg #[.int .i64 Q, .slice B m d], .int .i64 a, .int .i64 b, .int .i64 M] w fun e w' => e = .returned (.bool true) ∧ Below w.heap.size w w' := by
  go_enter Try.func3, Try.ntmps3
  have bel_1 := Lib.hid (show Below w.heap.size w w from Below.refl _ w)
  have r_2 := Lib.hid (hr)
  clear hr
  have t_3 := Lib.hid (hx)
  clear hx
  have bel_4 := Lib.hid (Below.alloc bel_1.out (bel_1.out.size) (.cells #[.int .i64 P, .slice A n k] 24))
  clear bel_1
  have r_5 := Lib.hid (RdB.alloc r_2.out (.cells #[.int .i64 P, .slice A n k] 24))
  clear r_2
  have t_6 := Lib.hid (RdB.alloc t_3.out (.cells #[.int .i64 P, .slice A n k] 24))
  clear t_3
  have sr_7 := Lib.hid (Blk.new w 24 #[.int .i64 P, .slice A n k])
  have bel_8 := Lib.hid (Below.alloc bel_4.out (bel_4.out.size) (.cells #[.int .i64 Q, .slice B m d] 24))
  clear bel_4
  have r_9 := Lib.hid (RdB.alloc r_5.out (.cells #[.int .i64 Q, .slice B m d] 24))
  clear r_5
  have t_10 := Lib.hid (RdB.alloc t_6.out (.cells #[.int .i64 Q, .slice B m d] 24))
  clear t_6
  have sr_11 := Lib.hid (Blk.alloc sr_7.out (.cells #[.int .i64 Q, .slice B m d] 24))
  clear sr_7
  have nb_ := Blk.new (w.alloc (.cells #[.int .i64 P, .slice A n k] 24)) 24 #[.int .i64 Q, .slice B m d]
  simp only [World.size_alloc] at nb_
  have st_12 := Lib.hid nb_; clear nb_
  have hc := (show Calls Try.prog 18 #[.agg #[.int .i64 P, .slice A n k]] (((w.alloc (.cells #[.int .i64 P, .slice A n k] 24)).alloc (.cells #[.int .i64 Q, .slice B m d] 24))) fun e w' => e = .returned (.bool true) ∧ Below (((w.alloc (.cells #[.int .i64 P, .slice A n k] 24)).alloc (.cells #[.int .i64 Q, .slice B m d] 24))).heap.size (((w.alloc (.cells #[.int .i64 P, .slice A n k] 24)).alloc (.cells #[.int .i64 Q, .slice B m d] 24))) w' from by have h := wide_any P A n k (((w.alloc (.cells #[.int .i64 P, .slice A n k] 24)).alloc (.cells #[.int .i64 Q, .slice B m d] 24))); rw [show decide (n ≤ 403) = true from by simpa using hw] at h; exact h)
  have HC := Lib.hid hc; clear hc
  go_wp2_with fail
  refine HC.out.mono ?_
  rintro e w_13 ⟨rfl, hb⟩
  clear HC
  have bel_14 := Lib.hid (Below.trans bel_8.out (Below.mono hb (bel_8.out.size)))
  clear bel_8
  have r_15 := Lib.hid (RdB.below r_9.out hb)
  clear r_9
  have t_16 := Lib.hid (RdB.below t_10.out hb)
  clear t_10
  have sr_17 := Lib.hid (Blk.keep sr_11.out hb)
  clear sr_11
  have st_18 := Lib.hid (Blk.keep st_12.out hb)
  clear st_12
  clear hb
  have z_19 : (w_13).cell? ⟨w.heap.size, 0, none⟩ = some (.int .i64 P) := Blk.cell sr_17.out 0
  have z_20 : (w_13).cell? ⟨w.heap.size, 1, none⟩ = some (.slice A n k) := Blk.cell sr_17.out 1
  have z_21 : (w_13).cell? ⟨w.heap.size + 1, 0, none⟩ = some (.int .i64 Q) := Blk.cell st_18.out 0
  have z_22 : (w_13).cell? ⟨w.heap.size + 1, 1, none⟩ = some (.slice B m d) := Blk.cell st_18.out 1
  have hc := (show Calls Try.prog 18 #[.agg #[.int .i64 Q, .slice B m d]] (w_13) fun e w' => e = .returned (.bool false) ∧ Below (w_13).heap.size (w_13) w' from by have h := wide_any Q B m d (w_13); rw [show decide (m ≤ 403) = false from by simpa using hv] at h; exact h)
  have HC := Lib.hid hc; clear hc
  go_wp2_with fail
  refine HC.out.mono ?_
  rintro e w_23 ⟨rfl, hb⟩
  clear HC
  clear z_19 z_20 z_21 z_22
  have bel_24 := Lib.hid (Below.trans bel_14.out (Below.mono hb (bel_14.out.size)))
  clear bel_14
  have r_25 := Lib.hid (RdB.below r_15.out hb)
  clear r_15
  have t_26 := Lib.hid (RdB.below t_16.out hb)
  clear t_16
  have sr_27 := Lib.hid (Blk.keep sr_17.out hb)
  clear sr_17
  have st_28 := Lib.hid (Blk.keep st_18.out hb)
  clear st_18
  clear hb
  have z_29 : (w_23).cell? ⟨w.heap.size, 0, none⟩ = some (.int .i64 P) := Blk.cell sr_27.out 0
  have z_30 : (w_23).cell? ⟨w.heap.size, 1, none⟩ = some (.slice A n k) := Blk.cell sr_27.out 1
  have z_31 : (w_23).cell? ⟨w.heap.size + 1, 0, none⟩ = some (.int .i64 Q) := Blk.cell st_28.out 0
  have z_32 : (w_23).cell? ⟨w.heap.size + 1, 1, none⟩ = some (.slice B m d) := Blk.cell st_28.out 1
  go_wp2_with fail
  refine (alive_ok _).mono ?_
  rintro e w_33 ⟨rfl, hb⟩
  clear z_29 z_30 z_31 z_32
  have bel_34 := Lib.hid (Below.trans bel_24.out (Below.mono hb (bel_24.out.size)))
  clear bel_24
  have r_35 := Lib.hid (RdB.below r_25.out hb)
  clear r_25
  have t_36 := Lib.hid (RdB.below t_26.out hb)
  clear t_26
  have sr_37 := Lib.hid (Blk.keep sr_27.out hb)
  clear sr_27
  have st_38 := Lib.hid (Blk.keep st_28.out hb)
  clear st_28
  clear hb
  go_wp2
  go_ret
  exact ⟨rfl, bel_34.out⟩

set_option maxRecDepth 100000 in
set_option maxHeartbeats 4000000 in
theorem ti_ok (P Q a b M : Int) (A : Option Addr) (n k : Nat) (l : List Bnd) (w : World) (hr : RdB w A n k l) (hn : n ≤ maxLen) (B : Option Addr) (m d : Nat) (x : List Bnd) (hx : RdB w B m d x) (hm : m ≤ maxLen) (hw : n ≤ 403) (hv : m ≤ 403) (e1 e2 p1 p2 : Int) (l1 l2 : List Bnd) (E1 : Hid (besC P l Q x = e1)) (E2 : Hid (sp e1 (P + Q) = p1)) (E3 : Hid (sl e1 (l ++ x.map (shB P)) = l1))
    (F1 : Hid (tieC P l a b M = e2)) (F2 : Hid (sp e2 P = p2)) (F3 : Hid (sl e2 (l ++ tieB a b M) = l2)) :
    Calls Try.prog 3 #[.agg #[.int .i64 P, .slice A n k], .agg #[.int .i64 Q, .slice B m d], .int .i64 a, .int .i64 b, .int .i64 M] w fun e w' => e = .returned (.bool true) ∧ Below w.heap.size w w' := by
  go_enter Try.func3, Try.ntmps3
  have bel_1 := Lib.hid (show Below w.heap.size w w from Below.refl _ w)
  have r_2 := Lib.hid (hr)
  clear hr
  have t_3 := Lib.hid (hx)
  clear hx
  have bel_4 := Lib.hid (Below.alloc bel_1.out (bel_1.out.size) (.cells #[.int .i64 P, .slice A n k] 24))
  clear bel_1
  have r_5 := Lib.hid (RdB.alloc r_2.out (.cells #[.int .i64 P, .slice A n k] 24))
  clear r_2
  have t_6 := Lib.hid (RdB.alloc t_3.out (.cells #[.int .i64 P, .slice A n k] 24))
  clear t_3
  have sr_7 := Lib.hid (Blk.new w 24 #[.int .i64 P, .slice A n k])
  have bel_8 := Lib.hid (Below.alloc bel_4.out (bel_4.out.size) (.cells #[.int .i64 Q, .slice B m d] 24))
  clear bel_4
  have r_9 := Lib.hid (RdB.alloc r_5.out (.cells #[.int .i64 Q, .slice B m d] 24))
  clear r_5
  have t_10 := Lib.hid (RdB.alloc t_6.out (.cells #[.int .i64 Q, .slice B m d] 24))
  clear t_6
  have sr_11 := Lib.hid (Blk.alloc sr_7.out (.cells #[.int .i64 Q, .slice B m d] 24))
  clear sr_7
  have nb_ := Blk.new (w.alloc (.cells #[.int .i64 P, .slice A n k] 24)) 24 #[.int .i64 Q, .slice B m d]
  simp only [World.size_alloc] at nb_
  have st_12 := Lib.hid nb_; clear nb_
  have hc := (show Calls Try.prog 18 #[.agg #[.int .i64 P, .slice A n k]] (((w.alloc (.cells #[.int .i64 P, .slice A n k] 24)).alloc (.cells #[.int .i64 Q, .slice B m d] 24))) fun e w' => e = .returned (.bool true) ∧ Below (((w.alloc (.cells #[.int .i64 P, .slice A n k] 24)).alloc (.cells #[.int .i64 Q, .slice B m d] 24))).heap.size (((w.alloc (.cells #[.int .i64 P, .slice A n k] 24)).alloc (.cells #[.int .i64 Q, .slice B m d] 24))) w' from by have h := wide_any P A n k (((w.alloc (.cells #[.int .i64 P, .slice A n k] 24)).alloc (.cells #[.int .i64 Q, .slice B m d] 24))); rw [show decide (n ≤ 403) = true from by simpa using hw] at h; exact h)
  have HC := Lib.hid hc; clear hc
  go_wp2_with fail
  refine HC.out.mono ?_
  rintro e w_13 ⟨rfl, hb⟩
  clear HC
  have bel_14 := Lib.hid (Below.trans bel_8.out (Below.mono hb (bel_8.out.size)))
  clear bel_8
  have r_15 := Lib.hid (RdB.below r_9.out hb)
  clear r_9
  have t_16 := Lib.hid (RdB.below t_10.out hb)
  clear t_10
  have sr_17 := Lib.hid (Blk.keep sr_11.out hb)
  clear sr_11
  have st_18 := Lib.hid (Blk.keep st_12.out hb)
  clear st_12
  clear hb
  have z_19 : (w_13).cell? ⟨w.heap.size, 0, none⟩ = some (.int .i64 P) := Blk.cell sr_17.out 0
  have z_20 : (w_13).cell? ⟨w.heap.size, 1, none⟩ = some (.slice A n k) := Blk.cell sr_17.out 1
  have z_21 : (w_13).cell? ⟨w.heap.size + 1, 0, none⟩ = some (.int .i64 Q) := Blk.cell st_18.out 0
  have z_22 : (w_13).cell? ⟨w.heap.size + 1, 1, none⟩ = some (.slice B m d) := Blk.cell st_18.out 1
  have hc := (show Calls Try.prog 18 #[.agg #[.int .i64 Q, .slice B m d]] (w_13) fun e w' => e = .returned (.bool true) ∧ Below (w_13).heap.size (w_13) w' from by have h := wide_any Q B m d (w_13); rw [show decide (m ≤ 403) = true from by simpa using hv] at h; exact h)
  have HC := Lib.hid hc; clear hc
  go_wp2_with fail
  refine HC.out.mono ?_
  rintro e w_23 ⟨rfl, hb⟩
  clear HC
  clear z_19 z_20 z_21 z_22
  have bel_24 := Lib.hid (Below.trans bel_14.out (Below.mono hb (bel_14.out.size)))
  clear bel_14
  have r_25 := Lib.hid (RdB.below r_15.out hb)
  clear r_15
  have t_26 := Lib.hid (RdB.below t_16.out hb)
  clear t_16
  have sr_27 := Lib.hid (Blk.keep sr_17.out hb)
  clear sr_17
  have st_28 := Lib.hid (Blk.keep st_18.out hb)
  clear st_18
  clear hb
  have z_29 : (w_23).cell? ⟨w.heap.size, 0, none⟩ = some (.int .i64 P) := Blk.cell sr_27.out 0
  have z_30 : (w_23).cell? ⟨w.heap.size, 1, none⟩ = some (.slice A n k) := Blk.cell sr_27.out 1
  have z_31 : (w_23).cell? ⟨w.heap.size + 1, 0, none⟩ = some (.int .i64 Q) := Blk.cell st_28.out 0
  have z_32 : (w_23).cell? ⟨w.heap.size + 1, 1, none⟩ = some (.slice B m d) := Blk.cell st_28.out 1
  have hc := Calls.mono (Beside_any P Q A B n k m d l x _ r_25.out hn t_26.out hm) (fun e w' h => retT_of h)
  rw [E1.out] at hc
  rw [E2.out] at hc
  rw [E3.out] at hc
  have HC := Lib.hid hc; clear hc
  go_wp2_with fail
  refine HC.out.mono ?_
  rintro e w_33 ⟨Au, nu, cu, rfl, ho, hb⟩
  clear HC
  clear z_29 z_30 z_31 z_32
  have ow_34 := Lib.hid (owns_base ho (bel_24.out.size))
  have hmu := ownB_max ho
  have bel_35 := Lib.hid (Below.trans bel_24.out (Below.mono hb (bel_24.out.size)))
  clear bel_24
  have r_36 := Lib.hid (RdB.below r_25.out hb)
  clear r_25
  have t_37 := Lib.hid (RdB.below t_26.out hb)
  clear t_26
  have sr_38 := Lib.hid (Blk.keep sr_27.out hb)
  clear sr_27
  have st_39 := Lib.hid (Blk.keep st_28.out hb)
  clear st_28
  have u_40 := Lib.hid ((OwnB.rd ho).1)
  clear ho hb
  have bel_41 := Lib.hid (Below.alloc bel_35.out (bel_35.out.size) (.cells #[.int .i64 p1, .slice Au nu cu] 24))
  clear bel_35
  have r_42 := Lib.hid (RdB.alloc r_36.out (.cells #[.int .i64 p1, .slice Au nu cu] 24))
  clear r_36
  have t_43 := Lib.hid (RdB.alloc t_37.out (.cells #[.int .i64 p1, .slice Au nu cu] 24))
  clear t_37
  have sr_44 := Lib.hid (Blk.alloc sr_38.out (.cells #[.int .i64 p1, .slice Au nu cu] 24))
  clear sr_38
  have st_45 := Lib.hid (Blk.alloc st_39.out (.cells #[.int .i64 p1, .slice Au nu cu] 24))
  clear st_39
  have ownu_46 := Lib.hid (World.ownsRow.alloc ow_34.out (.cells #[.int .i64 p1, .slice Au nu cu] 24))
  clear ow_34
  have u_47 := Lib.hid (RdB.alloc u_40.out (.cells #[.int .i64 p1, .slice Au nu cu] 24))
  clear u_40
  have su_48 := Lib.hid (Blk.new w_33 24 #[.int .i64 p1, .slice Au nu cu])
  have z_49 : ((w_33.alloc (.cells #[.int .i64 p1, .slice Au nu cu] 24))).cell? ⟨w.heap.size, 0, none⟩ = some (.int .i64 P) := Blk.cell sr_44.out 0
  have z_50 : ((w_33.alloc (.cells #[.int .i64 p1, .slice Au nu cu] 24))).cell? ⟨w.heap.size, 1, none⟩ = some (.slice A n k) := Blk.cell sr_44.out 1
  have z_51 : ((w_33.alloc (.cells #[.int .i64 p1, .slice Au nu cu] 24))).cell? ⟨w.heap.size + 1, 0, none⟩ = some (.int .i64 Q) := Blk.cell st_45.out 0
  have z_52 : ((w_33.alloc (.cells #[.int .i64 p1, .slice Au nu cu] 24))).cell? ⟨w.heap.size + 1, 1, none⟩ = some (.slice B m d) := Blk.cell st_45.out 1
  have z_53 : ((w_33.alloc (.cells #[.int .i64 p1, .slice Au nu cu] 24))).cell? ⟨w_33.heap.size, 0, none⟩ = some (.int .i64 p1) := Blk.cell su_48.out 0
  have z_54 : ((w_33.alloc (.cells #[.int .i64 p1, .slice Au nu cu] 24))).cell? ⟨w_33.heap.size, 1, none⟩ = some (.slice Au nu cu) := Blk.cell su_48.out 1
  have hc := Calls.mono (rBeside_any P Q A B n k m d l x _ r_42.out hn t_43.out hm) (fun e w' h => retT_of h)
  rw [E1.out] at hc
  rw [E2.out] at hc
  rw [E3.out] at hc
  have HC := Lib.hid hc; clear hc
  go_wp2_with fail
  refine HC.out.mono ?_
  rintro e w_55 ⟨Av, nv, cv, rfl, ho, hb⟩
  clear HC
  clear z_49 z_50 z_51 z_52 z_53 z_54
  have ow_56 := Lib.hid (owns_base ho (bel_41.out.size))
  have hmv := ownB_max ho
  have bel_57 := Lib.hid (Below.trans bel_41.out (Below.mono hb (bel_41.out.size)))
  clear bel_41
  have r_58 := Lib.hid (RdB.below r_42.out hb)
  clear r_42
  have t_59 := Lib.hid (RdB.below t_43.out hb)
  clear t_43
  have sr_60 := Lib.hid (Blk.keep sr_44.out hb)
  clear sr_44
  have st_61 := Lib.hid (Blk.keep st_45.out hb)
  clear st_45
  have ownu_62 := Lib.hid (owns_below ownu_46.out hb)
  clear ownu_46
  have u_63 := Lib.hid (RdB.below u_47.out hb)
  clear u_47
  have su_64 := Lib.hid (Blk.keep su_48.out hb)
  clear su_48
  have v_65 := Lib.hid ((OwnB.rd ho).1)
  clear ho hb
  have bel_66 := Lib.hid (Below.alloc bel_57.out (bel_57.out.size) (.cells #[.int .i64 p1, .slice Av nv cv] 24))
  clear bel_57
  have r_67 := Lib.hid (RdB.alloc r_58.out (.cells #[.int .i64 p1, .slice Av nv cv] 24))
  clear r_58
  have t_68 := Lib.hid (RdB.alloc t_59.out (.cells #[.int .i64 p1, .slice Av nv cv] 24))
  clear t_59
  have sr_69 := Lib.hid (Blk.alloc sr_60.out (.cells #[.int .i64 p1, .slice Av nv cv] 24))
  clear sr_60
  have st_70 := Lib.hid (Blk.alloc st_61.out (.cells #[.int .i64 p1, .slice Av nv cv] 24))
  clear st_61
  have ownu_71 := Lib.hid (World.ownsRow.alloc ownu_62.out (.cells #[.int .i64 p1, .slice Av nv cv] 24))
  clear ownu_62
  have u_72 := Lib.hid (RdB.alloc u_63.out (.cells #[.int .i64 p1, .slice Av nv cv] 24))
  clear u_63
  have su_73 := Lib.hid (Blk.alloc su_64.out (.cells #[.int .i64 p1, .slice Av nv cv] 24))
  clear su_64
  have ownv_74 := Lib.hid (World.ownsRow.alloc ow_56.out (.cells #[.int .i64 p1, .slice Av nv cv] 24))
  clear ow_56
  have v_75 := Lib.hid (RdB.alloc v_65.out (.cells #[.int .i64 p1, .slice Av nv cv] 24))
  clear v_65
  have sv_76 := Lib.hid (Blk.new w_55 24 #[.int .i64 p1, .slice Av nv cv])
  have z_77 : ((w_55.alloc (.cells #[.int .i64 p1, .slice Av nv cv] 24))).cell? ⟨w.heap.size, 0, none⟩ = some (.int .i64 P) := Blk.cell sr_69.out 0
  have z_78 : ((w_55.alloc (.cells #[.int .i64 p1, .slice Av nv cv] 24))).cell? ⟨w.heap.size, 1, none⟩ = some (.slice A n k) := Blk.cell sr_69.out 1
  have z_79 : ((w_55.alloc (.cells #[.int .i64 p1, .slice Av nv cv] 24))).cell? ⟨w.heap.size + 1, 0, none⟩ = some (.int .i64 Q) := Blk.cell st_70.out 0
  have z_80 : ((w_55.alloc (.cells #[.int .i64 p1, .slice Av nv cv] 24))).cell? ⟨w.heap.size + 1, 1, none⟩ = some (.slice B m d) := Blk.cell st_70.out 1
  have z_81 : ((w_55.alloc (.cells #[.int .i64 p1, .slice Av nv cv] 24))).cell? ⟨w_33.heap.size, 0, none⟩ = some (.int .i64 p1) := Blk.cell su_73.out 0
  have z_82 : ((w_55.alloc (.cells #[.int .i64 p1, .slice Av nv cv] 24))).cell? ⟨w_33.heap.size, 1, none⟩ = some (.slice Au nu cu) := Blk.cell su_73.out 1
  have z_83 : ((w_55.alloc (.cells #[.int .i64 p1, .slice Av nv cv] 24))).cell? ⟨w_55.heap.size, 0, none⟩ = some (.int .i64 p1) := Blk.cell sv_76.out 0
  have z_84 : ((w_55.alloc (.cells #[.int .i64 p1, .slice Av nv cv] 24))).cell? ⟨w_55.heap.size, 1, none⟩ = some (.slice Av nv cv) := Blk.cell sv_76.out 1
  have hc := Calls.mono (Tie_any P a b M A n k l _ r_67.out hn) (fun e w' h => retT_of h)
  rw [F1.out] at hc
  rw [F2.out] at hc
  rw [F3.out] at hc
  have HC := Lib.hid hc; clear hc
  go_wp2_with fail
  refine HC.out.mono ?_
  rintro e w_85 ⟨Ay, ny, cy, rfl, ho, hb⟩
  clear HC
  clear z_77 z_78 z_79 z_80 z_81 z_82 z_83 z_84
  have ow_86 := Lib.hid (owns_base ho (bel_66.out.size))
  have hmy := ownB_max ho
  have bel_87 := Lib.hid (Below.trans bel_66.out (Below.mono hb (bel_66.out.size)))
  clear bel_66
  have r_88 := Lib.hid (RdB.below r_67.out hb)
  clear r_67
  have t_89 := Lib.hid (RdB.below t_68.out hb)
  clear t_68
  have sr_90 := Lib.hid (Blk.keep sr_69.out hb)
  clear sr_69
  have st_91 := Lib.hid (Blk.keep st_70.out hb)
  clear st_70
  have ownu_92 := Lib.hid (owns_below ownu_71.out hb)
  clear ownu_71
  have u_93 := Lib.hid (RdB.below u_72.out hb)
  clear u_72
  have su_94 := Lib.hid (Blk.keep su_73.out hb)
  clear su_73
  have ownv_95 := Lib.hid (owns_below ownv_74.out hb)
  clear ownv_74
  have v_96 := Lib.hid (RdB.below v_75.out hb)
  clear v_75
  have sv_97 := Lib.hid (Blk.keep sv_76.out hb)
  clear sv_76
  have y_98 := Lib.hid ((OwnB.rd ho).1)
  clear ho hb
  have bel_99 := Lib.hid (Below.alloc bel_87.out (bel_87.out.size) (.cells #[.int .i64 p2, .slice Ay ny cy] 24))
  clear bel_87
  have r_100 := Lib.hid (RdB.alloc r_88.out (.cells #[.int .i64 p2, .slice Ay ny cy] 24))
  clear r_88
  have t_101 := Lib.hid (RdB.alloc t_89.out (.cells #[.int .i64 p2, .slice Ay ny cy] 24))
  clear t_89
  have sr_102 := Lib.hid (Blk.alloc sr_90.out (.cells #[.int .i64 p2, .slice Ay ny cy] 24))
  clear sr_90
  have st_103 := Lib.hid (Blk.alloc st_91.out (.cells #[.int .i64 p2, .slice Ay ny cy] 24))
  clear st_91
  have ownu_104 := Lib.hid (World.ownsRow.alloc ownu_92.out (.cells #[.int .i64 p2, .slice Ay ny cy] 24))
  clear ownu_92
  have u_105 := Lib.hid (RdB.alloc u_93.out (.cells #[.int .i64 p2, .slice Ay ny cy] 24))
  clear u_93
  have su_106 := Lib.hid (Blk.alloc su_94.out (.cells #[.int .i64 p2, .slice Ay ny cy] 24))
  clear su_94
  have ownv_107 := Lib.hid (World.ownsRow.alloc ownv_95.out (.cells #[.int .i64 p2, .slice Ay ny cy] 24))
  clear ownv_95
  have v_108 := Lib.hid (RdB.alloc v_96.out (.cells #[.int .i64 p2, .slice Ay ny cy] 24))
  clear v_96
  have sv_109 := Lib.hid (Blk.alloc sv_97.out (.cells #[.int .i64 p2, .slice Ay ny cy] 24))
  clear sv_97
  have owny_110 := Lib.hid (World.ownsRow.alloc ow_86.out (.cells #[.int .i64 p2, .slice Ay ny cy] 24))
  clear ow_86
  have y_111 := Lib.hid (RdB.alloc y_98.out (.cells #[.int .i64 p2, .slice Ay ny cy] 24))
  clear y_98
  have sy_112 := Lib.hid (Blk.new w_85 24 #[.int .i64 p2, .slice Ay ny cy])
  have z_113 : ((w_85.alloc (.cells #[.int .i64 p2, .slice Ay ny cy] 24))).cell? ⟨w.heap.size, 0, none⟩ = some (.int .i64 P) := Blk.cell sr_102.out 0
  have z_114 : ((w_85.alloc (.cells #[.int .i64 p2, .slice Ay ny cy] 24))).cell? ⟨w.heap.size, 1, none⟩ = some (.slice A n k) := Blk.cell sr_102.out 1
  have z_115 : ((w_85.alloc (.cells #[.int .i64 p2, .slice Ay ny cy] 24))).cell? ⟨w.heap.size + 1, 0, none⟩ = some (.int .i64 Q) := Blk.cell st_103.out 0
  have z_116 : ((w_85.alloc (.cells #[.int .i64 p2, .slice Ay ny cy] 24))).cell? ⟨w.heap.size + 1, 1, none⟩ = some (.slice B m d) := Blk.cell st_103.out 1
  have z_117 : ((w_85.alloc (.cells #[.int .i64 p2, .slice Ay ny cy] 24))).cell? ⟨w_33.heap.size, 0, none⟩ = some (.int .i64 p1) := Blk.cell su_106.out 0
  have z_118 : ((w_85.alloc (.cells #[.int .i64 p2, .slice Ay ny cy] 24))).cell? ⟨w_33.heap.size, 1, none⟩ = some (.slice Au nu cu) := Blk.cell su_106.out 1
  have z_119 : ((w_85.alloc (.cells #[.int .i64 p2, .slice Ay ny cy] 24))).cell? ⟨w_55.heap.size, 0, none⟩ = some (.int .i64 p1) := Blk.cell sv_109.out 0
  have z_120 : ((w_85.alloc (.cells #[.int .i64 p2, .slice Ay ny cy] 24))).cell? ⟨w_55.heap.size, 1, none⟩ = some (.slice Av nv cv) := Blk.cell sv_109.out 1
  have z_121 : ((w_85.alloc (.cells #[.int .i64 p2, .slice Ay ny cy] 24))).cell? ⟨w_85.heap.size, 0, none⟩ = some (.int .i64 p2) := Blk.cell sy_112.out 0
  have z_122 : ((w_85.alloc (.cells #[.int .i64 p2, .slice Ay ny cy] 24))).cell? ⟨w_85.heap.size, 1, none⟩ = some (.slice Ay ny cy) := Blk.cell sy_112.out 1
  have hc := Calls.mono (rTie_any P a b M A n k l _ r_100.out hn) (fun e w' h => retT_of h)
  rw [F1.out] at hc
  rw [F2.out] at hc
  rw [F3.out] at hc
  have HC := Lib.hid hc; clear hc
  go_wp2_with fail
  refine HC.out.mono ?_
  rintro e w_123 ⟨Az, nz, cz, rfl, ho, hb⟩
  clear HC
  clear z_113 z_114 z_115 z_116 z_117 z_118 z_119 z_120 z_121 z_122
  have ow_124 := Lib.hid (owns_base ho (bel_99.out.size))
  have hmz := ownB_max ho
  have bel_125 := Lib.hid (Below.trans bel_99.out (Below.mono hb (bel_99.out.size)))
  clear bel_99
  have r_126 := Lib.hid (RdB.below r_100.out hb)
  clear r_100
  have t_127 := Lib.hid (RdB.below t_101.out hb)
  clear t_101
  have sr_128 := Lib.hid (Blk.keep sr_102.out hb)
  clear sr_102
  have st_129 := Lib.hid (Blk.keep st_103.out hb)
  clear st_103
  have ownu_130 := Lib.hid (owns_below ownu_104.out hb)
  clear ownu_104
  have u_131 := Lib.hid (RdB.below u_105.out hb)
  clear u_105
  have su_132 := Lib.hid (Blk.keep su_106.out hb)
  clear su_106
  have ownv_133 := Lib.hid (owns_below ownv_107.out hb)
  clear ownv_107
  have v_134 := Lib.hid (RdB.below v_108.out hb)
  clear v_108
  have sv_135 := Lib.hid (Blk.keep sv_109.out hb)
  clear sv_109
  have owny_136 := Lib.hid (owns_below owny_110.out hb)
  clear owny_110
  have y_137 := Lib.hid (RdB.below y_111.out hb)
  clear y_111
  have sy_138 := Lib.hid (Blk.keep sy_112.out hb)
  clear sy_112
  have z_139 := Lib.hid ((OwnB.rd ho).1)
  clear ho hb
  have bel_140 := Lib.hid (Below.alloc bel_125.out (bel_125.out.size) (.cells #[.int .i64 p2, .slice Az nz cz] 24))
  clear bel_125
  have r_141 := Lib.hid (RdB.alloc r_126.out (.cells #[.int .i64 p2, .slice Az nz cz] 24))
  clear r_126
  have t_142 := Lib.hid (RdB.alloc t_127.out (.cells #[.int .i64 p2, .slice Az nz cz] 24))
  clear t_127
  have sr_143 := Lib.hid (Blk.alloc sr_128.out (.cells #[.int .i64 p2, .slice Az nz cz] 24))
  clear sr_128
  have st_144 := Lib.hid (Blk.alloc st_129.out (.cells #[.int .i64 p2, .slice Az nz cz] 24))
  clear st_129
  have ownu_145 := Lib.hid (World.ownsRow.alloc ownu_130.out (.cells #[.int .i64 p2, .slice Az nz cz] 24))
  clear ownu_130
  have u_146 := Lib.hid (RdB.alloc u_131.out (.cells #[.int .i64 p2, .slice Az nz cz] 24))
  clear u_131
  have su_147 := Lib.hid (Blk.alloc su_132.out (.cells #[.int .i64 p2, .slice Az nz cz] 24))
  clear su_132
  have ownv_148 := Lib.hid (World.ownsRow.alloc ownv_133.out (.cells #[.int .i64 p2, .slice Az nz cz] 24))
  clear ownv_133
  have v_149 := Lib.hid (RdB.alloc v_134.out (.cells #[.int .i64 p2, .slice Az nz cz] 24))
  clear v_134
  have sv_150 := Lib.hid (Blk.alloc sv_135.out (.cells #[.int .i64 p2, .slice Az nz cz] 24))
  clear sv_135
  have owny_151 := Lib.hid (World.ownsRow.alloc owny_136.out (.cells #[.int .i64 p2, .slice Az nz cz] 24))
  clear owny_136
  have y_152 := Lib.hid (RdB.alloc y_137.out (.cells #[.int .i64 p2, .slice Az nz cz] 24))
  clear y_137
  have sy_153 := Lib.hid (Blk.alloc sy_138.out (.cells #[.int .i64 p2, .slice Az nz cz] 24))
  clear sy_138
  have ownz_154 := Lib.hid (World.ownsRow.alloc ow_124.out (.cells #[.int .i64 p2, .slice Az nz cz] 24))
  clear ow_124
  have z_155 := Lib.hid (RdB.alloc z_139.out (.cells #[.int .i64 p2, .slice Az nz cz] 24))
  clear z_139
  have sz_156 := Lib.hid (Blk.new w_123 24 #[.int .i64 p2, .slice Az nz cz])
  have z_157 : ((w_123.alloc (.cells #[.int .i64 p2, .slice Az nz cz] 24))).cell? ⟨w.heap.size, 0, none⟩ = some (.int .i64 P) := Blk.cell sr_143.out 0
  have z_158 : ((w_123.alloc (.cells #[.int .i64 p2, .slice Az nz cz] 24))).cell? ⟨w.heap.size, 1, none⟩ = some (.slice A n k) := Blk.cell sr_143.out 1
  have z_159 : ((w_123.alloc (.cells #[.int .i64 p2, .slice Az nz cz] 24))).cell? ⟨w.heap.size + 1, 0, none⟩ = some (.int .i64 Q) := Blk.cell st_144.out 0
  have z_160 : ((w_123.alloc (.cells #[.int .i64 p2, .slice Az nz cz] 24))).cell? ⟨w.heap.size + 1, 1, none⟩ = some (.slice B m d) := Blk.cell st_144.out 1
  have z_161 : ((w_123.alloc (.cells #[.int .i64 p2, .slice Az nz cz] 24))).cell? ⟨w_33.heap.size, 0, none⟩ = some (.int .i64 p1) := Blk.cell su_147.out 0
  have z_162 : ((w_123.alloc (.cells #[.int .i64 p2, .slice Az nz cz] 24))).cell? ⟨w_33.heap.size, 1, none⟩ = some (.slice Au nu cu) := Blk.cell su_147.out 1
  have z_163 : ((w_123.alloc (.cells #[.int .i64 p2, .slice Az nz cz] 24))).cell? ⟨w_55.heap.size, 0, none⟩ = some (.int .i64 p1) := Blk.cell sv_150.out 0
  have z_164 : ((w_123.alloc (.cells #[.int .i64 p2, .slice Az nz cz] 24))).cell? ⟨w_55.heap.size, 1, none⟩ = some (.slice Av nv cv) := Blk.cell sv_150.out 1
  have z_165 : ((w_123.alloc (.cells #[.int .i64 p2, .slice Az nz cz] 24))).cell? ⟨w_85.heap.size, 0, none⟩ = some (.int .i64 p2) := Blk.cell sy_153.out 0
  have z_166 : ((w_123.alloc (.cells #[.int .i64 p2, .slice Az nz cz] 24))).cell? ⟨w_85.heap.size, 1, none⟩ = some (.slice Ay ny cy) := Blk.cell sy_153.out 1
  have z_167 : ((w_123.alloc (.cells #[.int .i64 p2, .slice Az nz cz] 24))).cell? ⟨w_123.heap.size, 0, none⟩ = some (.int .i64 p2) := Blk.cell sz_156.out 0
  have z_168 : ((w_123.alloc (.cells #[.int .i64 p2, .slice Az nz cz] 24))).cell? ⟨w_123.heap.size, 1, none⟩ = some (.slice Az nz cz) := Blk.cell sz_156.out 1
  go_wp2_with fail
  refine (alive_ok _).mono ?_
  rintro e w_169 ⟨rfl, hb⟩
  clear z_157 z_158 z_159 z_160 z_161 z_162 z_163 z_164 z_165 z_166 z_167 z_168
  have bel_170 := Lib.hid (Below.trans bel_140.out (Below.mono hb (bel_140.out.size)))
  clear bel_140
  have r_171 := Lib.hid (RdB.below r_141.out hb)
  clear r_141
  have t_172 := Lib.hid (RdB.below t_142.out hb)
  clear t_142
  have sr_173 := Lib.hid (Blk.keep sr_143.out hb)
  clear sr_143
  have st_174 := Lib.hid (Blk.keep st_144.out hb)
  clear st_144
  have ownu_175 := Lib.hid (owns_below ownu_145.out hb)
  clear ownu_145
  have u_176 := Lib.hid (RdB.below u_146.out hb)
  clear u_146
  have su_177 := Lib.hid (Blk.keep su_147.out hb)
  clear su_147
  have ownv_178 := Lib.hid (owns_below ownv_148.out hb)
  clear ownv_148
  have v_179 := Lib.hid (RdB.below v_149.out hb)
  clear v_149
  have sv_180 := Lib.hid (Blk.keep sv_150.out hb)
  clear sv_150
  have owny_181 := Lib.hid (owns_below owny_151.out hb)
  clear owny_151
  have y_182 := Lib.hid (RdB.below y_152.out hb)
  clear y_152
  have sy_183 := Lib.hid (Blk.keep sy_153.out hb)
  clear sy_153
  have ownz_184 := Lib.hid (owns_below ownz_154.out hb)
  clear ownz_154
  have z_185 := Lib.hid (RdB.below z_155.out hb)
  clear z_155
  have sz_186 := Lib.hid (Blk.keep sz_156.out hb)
  clear sz_156
  clear hb
  have z_187 : (w_169).cell? ⟨w.heap.size, 0, none⟩ = some (.int .i64 P) := Blk.cell sr_173.out 0
  have z_188 : (w_169).cell? ⟨w.heap.size, 1, none⟩ = some (.slice A n k) := Blk.cell sr_173.out 1
  have z_189 : (w_169).cell? ⟨w.heap.size + 1, 0, none⟩ = some (.int .i64 Q) := Blk.cell st_174.out 0
  have z_190 : (w_169).cell? ⟨w.heap.size + 1, 1, none⟩ = some (.slice B m d) := Blk.cell st_174.out 1
  have z_191 : (w_169).cell? ⟨w_33.heap.size, 0, none⟩ = some (.int .i64 p1) := Blk.cell su_177.out 0
  have z_192 : (w_169).cell? ⟨w_33.heap.size, 1, none⟩ = some (.slice Au nu cu) := Blk.cell su_177.out 1
  have z_193 : (w_169).cell? ⟨w_55.heap.size, 0, none⟩ = some (.int .i64 p1) := Blk.cell sv_180.out 0
  have z_194 : (w_169).cell? ⟨w_55.heap.size, 1, none⟩ = some (.slice Av nv cv) := Blk.cell sv_180.out 1
  have z_195 : (w_169).cell? ⟨w_85.heap.size, 0, none⟩ = some (.int .i64 p2) := Blk.cell sy_183.out 0
  have z_196 : (w_169).cell? ⟨w_85.heap.size, 1, none⟩ = some (.slice Ay ny cy) := Blk.cell sy_183.out 1
  have z_197 : (w_169).cell? ⟨w_123.heap.size, 0, none⟩ = some (.int .i64 p2) := Blk.cell sz_186.out 0
  have z_198 : (w_169).cell? ⟨w_123.heap.size, 1, none⟩ = some (.slice Az nz cz) := Blk.cell sz_186.out 1
  have hlu := Blk.lt su_177.out
  have hlv := Blk.lt sv_180.out
  have hly := Blk.lt sy_183.out
  have hlz := Blk.lt sz_186.out
  have hc := SameSystem_yes p1 Au Av nu cu nv cv l1 _ u_176.out v_179.out hmu
  have HC := Lib.hid hc; clear hc
  go_wp2_with fail
  refine HC.out.mono ?_
  rintro e w_199 ⟨rfl, hb⟩
  clear HC
  clear z_187 z_188 z_189 z_190 z_191 z_192 z_193 z_194 z_195 z_196 z_197 z_198
  have bel_200 := Lib.hid (Below.trans bel_170.out (Below.mono hb (bel_170.out.size)))
  clear bel_170
  have r_201 := Lib.hid (RdB.below r_171.out hb)
  clear r_171
  have t_202 := Lib.hid (RdB.below t_172.out hb)
  clear t_172
  have sr_203 := Lib.hid (Blk.keep sr_173.out hb)
  clear sr_173
  have st_204 := Lib.hid (Blk.keep st_174.out hb)
  clear st_174
  have ownu_205 := Lib.hid (owns_below ownu_175.out hb)
  clear ownu_175
  have u_206 := Lib.hid (RdB.below u_176.out hb)
  clear u_176
  have su_207 := Lib.hid (Blk.keep su_177.out hb)
  clear su_177
  have ownv_208 := Lib.hid (owns_below ownv_178.out hb)
  clear ownv_178
  have v_209 := Lib.hid (RdB.below v_179.out hb)
  clear v_179
  have sv_210 := Lib.hid (Blk.keep sv_180.out hb)
  clear sv_180
  have owny_211 := Lib.hid (owns_below owny_181.out hb)
  clear owny_181
  have y_212 := Lib.hid (RdB.below y_182.out hb)
  clear y_182
  have sy_213 := Lib.hid (Blk.keep sy_183.out hb)
  clear sy_183
  have ownz_214 := Lib.hid (owns_below ownz_184.out hb)
  clear ownz_184
  have z_215 := Lib.hid (RdB.below z_185.out hb)
  clear z_185
  have sz_216 := Lib.hid (Blk.keep sz_186.out hb)
  clear sz_186
  clear hb
  have z_217 : (w_199).cell? ⟨w.heap.size, 0, none⟩ = some (.int .i64 P) := Blk.cell sr_203.out 0
  have z_218 : (w_199).cell? ⟨w.heap.size, 1, none⟩ = some (.slice A n k) := Blk.cell sr_203.out 1
  have z_219 : (w_199).cell? ⟨w.heap.size + 1, 0, none⟩ = some (.int .i64 Q) := Blk.cell st_204.out 0
  have z_220 : (w_199).cell? ⟨w.heap.size + 1, 1, none⟩ = some (.slice B m d) := Blk.cell st_204.out 1
  have z_221 : (w_199).cell? ⟨w_33.heap.size, 0, none⟩ = some (.int .i64 p1) := Blk.cell su_207.out 0
  have z_222 : (w_199).cell? ⟨w_33.heap.size, 1, none⟩ = some (.slice Au nu cu) := Blk.cell su_207.out 1
  have z_223 : (w_199).cell? ⟨w_55.heap.size, 0, none⟩ = some (.int .i64 p1) := Blk.cell sv_210.out 0
  have z_224 : (w_199).cell? ⟨w_55.heap.size, 1, none⟩ = some (.slice Av nv cv) := Blk.cell sv_210.out 1
  have z_225 : (w_199).cell? ⟨w_85.heap.size, 0, none⟩ = some (.int .i64 p2) := Blk.cell sy_213.out 0
  have z_226 : (w_199).cell? ⟨w_85.heap.size, 1, none⟩ = some (.slice Ay ny cy) := Blk.cell sy_213.out 1
  have z_227 : (w_199).cell? ⟨w_123.heap.size, 0, none⟩ = some (.int .i64 p2) := Blk.cell sz_216.out 0
  have z_228 : (w_199).cell? ⟨w_123.heap.size, 1, none⟩ = some (.slice Az nz cz) := Blk.cell sz_216.out 1
  have hky := Blk.lt sy_213.out
  have hkz := Blk.lt sz_216.out
  have hc := SameSystem_yes p2 Ay Az ny cy nz cz l2 _ y_212.out z_215.out hmy
  have HC := Lib.hid hc; clear hc
  go_wp2_with fail
  refine HC.out.mono ?_
  rintro e w_229 ⟨rfl, hb⟩
  clear HC
  clear z_217 z_218 z_219 z_220 z_221 z_222 z_223 z_224 z_225 z_226 z_227 z_228
  have bel_230 := Lib.hid (Below.trans bel_200.out (Below.mono hb (bel_200.out.size)))
  clear bel_200
  have r_231 := Lib.hid (RdB.below r_201.out hb)
  clear r_201
  have t_232 := Lib.hid (RdB.below t_202.out hb)
  clear t_202
  have sr_233 := Lib.hid (Blk.keep sr_203.out hb)
  clear sr_203
  have st_234 := Lib.hid (Blk.keep st_204.out hb)
  clear st_204
  have ownu_235 := Lib.hid (owns_below ownu_205.out hb)
  clear ownu_205
  have u_236 := Lib.hid (RdB.below u_206.out hb)
  clear u_206
  have su_237 := Lib.hid (Blk.keep su_207.out hb)
  clear su_207
  have ownv_238 := Lib.hid (owns_below ownv_208.out hb)
  clear ownv_208
  have v_239 := Lib.hid (RdB.below v_209.out hb)
  clear v_209
  have sv_240 := Lib.hid (Blk.keep sv_210.out hb)
  clear sv_210
  have owny_241 := Lib.hid (owns_below owny_211.out hb)
  clear owny_211
  have y_242 := Lib.hid (RdB.below y_212.out hb)
  clear y_212
  have sy_243 := Lib.hid (Blk.keep sy_213.out hb)
  clear sy_213
  have ownz_244 := Lib.hid (owns_below ownz_214.out hb)
  clear ownz_214
  have z_245 := Lib.hid (RdB.below z_215.out hb)
  clear z_215
  have sz_246 := Lib.hid (Blk.keep sz_216.out hb)
  clear sz_216
  clear hb
  have z_247 : (w_229).cell? ⟨w.heap.size, 0, none⟩ = some (.int .i64 P) := Blk.cell sr_233.out 0
  have z_248 : (w_229).cell? ⟨w.heap.size, 1, none⟩ = some (.slice A n k) := Blk.cell sr_233.out 1
  have z_249 : (w_229).cell? ⟨w.heap.size + 1, 0, none⟩ = some (.int .i64 Q) := Blk.cell st_234.out 0
  have z_250 : (w_229).cell? ⟨w.heap.size + 1, 1, none⟩ = some (.slice B m d) := Blk.cell st_234.out 1
  have z_251 : (w_229).cell? ⟨w_33.heap.size, 0, none⟩ = some (.int .i64 p1) := Blk.cell su_237.out 0
  have z_252 : (w_229).cell? ⟨w_33.heap.size, 1, none⟩ = some (.slice Au nu cu) := Blk.cell su_237.out 1
  have z_253 : (w_229).cell? ⟨w_55.heap.size, 0, none⟩ = some (.int .i64 p1) := Blk.cell sv_240.out 0
  have z_254 : (w_229).cell? ⟨w_55.heap.size, 1, none⟩ = some (.slice Av nv cv) := Blk.cell sv_240.out 1
  have z_255 : (w_229).cell? ⟨w_85.heap.size, 0, none⟩ = some (.int .i64 p2) := Blk.cell sy_243.out 0
  have z_256 : (w_229).cell? ⟨w_85.heap.size, 1, none⟩ = some (.slice Ay ny cy) := Blk.cell sy_243.out 1
  have z_257 : (w_229).cell? ⟨w_123.heap.size, 0, none⟩ = some (.int .i64 p2) := Blk.cell sz_246.out 0
  have z_258 : (w_229).cell? ⟨w_123.heap.size, 1, none⟩ = some (.slice Az nz cz) := Blk.cell sz_246.out 1
  go_wp2
  go_ret
  exact ⟨rfl, bel_230.out⟩

theorem ti_walk (w : World) (P : Int) (A : Option Addr) (n k : Nat) (l : List Bnd) (_ : (Lit.int .i64 P).wf = true) (hr : RdB w A n k l) (hn : n ≤ maxLen) (Q : Int) (B : Option Addr) (m d : Nat) (x : List Bnd) (_ : (Lit.int .i64 Q).wf = true) (hx : RdB w B m d x) (hm : m ≤ maxLen)
    (a : Int) (_ : (Lit.int .i64 a).wf = true) (b : Int) (_ : (Lit.int .i64 b).wf = true) (M : Int) (_ : (Lit.int .i64 M).wf = true) :
    Calls Try.prog 3 #[.agg #[.int .i64 P, .slice A n k], .agg #[.int .i64 Q, .slice B m d], .int .i64 a, .int .i64 b, .int .i64 M] w fun e w' => e = .returned (.bool true) ∧ Below w.heap.size w w' := by
  by_cases hw : n ≤ 403
  · by_cases hv : m ≤ 403
    · exact ti_ok P Q a b M A n k l w hr hn B m d x hx hm hw hv _ _ _ _ _ _ (Lib.hid rfl) (Lib.hid rfl) (Lib.hid rfl) (Lib.hid rfl) (Lib.hid rfl) (Lib.hid rfl)
    · exact ti_w2 P Q a b M A n k l w hr hn B m d x hx hm hw hv
  · exact ti_w1 P Q a b M A n k l w hr hn B m d x hx hm hw

set_option maxRecDepth 100000 in
theorem gaugeTies_lifted (os : Os) (started : os.Started) (H : Type) (enc : TypeId × Value → H) :
    ReturnsInHanded {} Try.checked os 3 .any (Rows.gaugeTiesSpec.pre6 enc Try.prog Try.f3 Rows.gaugeTiesRow.domain false) (Rows.gaugeTiesSpec.post enc Try.prog Try.f3 false true false false) := by
  refine returnsInHanded_of_change (C := Try.checked) Law.own started (by kernel_rfl) Try.func3
    (ChangeSpec.witness6 (enc := enc) (C := Try.checked) false ⟨#[], #[.agg #[.int .i64 0, .slice none 0 0], .agg #[.int .i64 0, .slice none 0 0], .int .i64 0, .int .i64 0, .int .i64 0], []⟩ 8 (by kernel_rfl) (by kernel_rfl) (by kernel_rfl) (by kernel_rfl)) ?_
  intro W base args ds gs before hval0 hW hcnd _
  have hval : ∀ (j : Nat) t v, Try.f3.params[j]? = some t → args[j]? = some v → Value.okWide Try.prog W .any base t v := hval0
  have hW' := hW
  obtain ⟨p, q, hA0, hV, rfl, hfz, hnd⟩ := hW
  have hA : DataW.TrodAll enc Try.prog W 0 (fun _ => true) true Try.f3.params.toList args.toList ds p := hA0
  rw [Try.params3] at hA hval
  obtain ⟨v0, vs0, d0, ds0, p0, q0, hargs, rfl, rfl, h0, r0⟩ := trodAll_cons hA
  obtain ⟨v1, vs1, d1, ds1, p1, q1, rfl, rfl, rfl, h1, r1⟩ := trodAll_cons r0
  obtain ⟨v2, vs2, d2, ds2, p2, q2, rfl, rfl, rfl, h2, r2⟩ := trodAll_cons r1
  obtain ⟨v3, vs3, d3, ds3, p3, q3, rfl, rfl, rfl, h3, r3⟩ := trodAll_cons r2
  obtain ⟨v4, vs4, d4, ds4, p4, q4, rfl, rfl, rfl, h4, r4⟩ := trodAll_cons r3
  obtain ⟨rfl, rfl, rfl⟩ := trodAll_nil r4
  obtain rfl : args = #[v0, v1, v2, v3, v4] := by cases args; simp_all
  obtain ⟨rfl, rfl⟩ := trodVars_none hV
  have k0 := h0
  have lt0 : ∀ x ∈ p0, x.block < W.heap.size := by obtain ⟨m, hm⟩ := k0; exact DataW.trod_lt m _ _ _ hm
  obtain ⟨P0, A0, n0, c0, l0, rfl, w0, rd0, mx0⟩ := open_sys (hval 0 24 v0 rfl rfl) h0
  have k1 := h1
  have lt1 : ∀ x ∈ p1, x.block < W.heap.size := by obtain ⟨m, hm⟩ := k1; exact DataW.trod_lt m _ _ _ hm
  obtain ⟨P1, A1, n1, c1, l1, rfl, w1, rd1, mx1⟩ := open_sys (hval 1 24 v1 rfl rfl) h1
  obtain ⟨a2, rfl, rfl, rfl, w2⟩ := open_int Try.underlying3 (hval 2 3 v2 rfl rfl) h2
  obtain ⟨a3, rfl, rfl, rfl, w3⟩ := open_int Try.underlying3 (hval 3 3 v3 rfl rfl) h3
  obtain ⟨a4, rfl, rfl, rfl, w4⟩ := open_int Try.underlying3 (hval 4 3 v4 rfl rfl) h4
  clear hA0 hval0
  refine (ti_walk W P0 A0 n0 c0 l0 w0 rd0 mx0 P1 A1 n1 c1 l1 w1 rd1 mx1 a2 w2 a3 w3 a4 w4).mono fun e W' ⟨he, bel⟩ => ?_
  subst he
  exact ⟨_, rfl, _, _, _, [], _, [], hW', trodAll_mk1 (shut_bool Try.underlying4 _), (trodAll_cons_mk (Below.trod Law.laidOut (by kernel_rfl) (of_decide_eq_true (by kernel_rfl)) k0 bel lt0) (trodAll_cons_mk (Below.trod Law.laidOut (by kernel_rfl) (of_decide_eq_true (by kernel_rfl)) k1 bel lt1) (trodAll_cons_mk (shut_int Try.underlying3 w2) (trodAll_cons_mk (shut_int Try.underlying3 w3) (trodAll_cons_mk (shut_int Try.underlying3 w4) trodAll_mk0))))), rfl, bel.frame _, fun h => by cases h⟩

theorem gaugeTies_over : Rows.gaugeTiesRow.holds Try.pinned (OpenSpec.ofChange Rows.gaugeTiesSpec) :=
  OpenClaim.holds_of_wide 3 Try.f3 rfl rfl rfl rfl rfl rfl rfl ⟨rfl, rfl, rfl, rfl, rfl⟩ rfl rfl rfl rfl rfl (by kernel_rfl) Try.func3 (by kernel_rfl)
    (of_decide_eq_true (by kernel_rfl)) (by unfold Func.isWrapper; first | (rw [if_pos (by decide +kernel)]; kernel_rfl) | (rw [if_neg (by decide +kernel)]; exact ⟨rfl, rfl⟩))
    (fun os started H enc _ => gaugeTies_lifted os started H enc)

theorem gaugeTies_proved : Rows.GaugeTiesSaid := gaugeTies_over
end Go.Proofs.Ythlnialipjihdaa
