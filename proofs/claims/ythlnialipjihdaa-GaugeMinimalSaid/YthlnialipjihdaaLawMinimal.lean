/- For every system, two points and end GaugeMinimal returns true: an end rests on the Ids of Rests, and on each of them; contradictions likewise on those of Doubt. No condition. -/
import Derived.Test.YthlnialipjihdaaRows
import Derived.Test.YthlnialipjihdaaMinM
import Derived.Test.YthlnialipjihdaaOnly
import Derived.Test.YthlnialipjihdaaRetT
import Derived.Test.YthlnialipjihdaaShz
set_option linter.unusedSimpArgs false
set_option linter.unusedVariables false
namespace Go.Proofs.Ythlnialipjihdaa
open Go.ChangeShapes Go.WideShapes Go.ChangeAt Go.RowKit

theorem tupE {W : Value} {N Q : Int} {T : Bool} (h : W = .tuple #[.int .i64 N, .bool T, .int .i64 Q]) (x : Int) (t : Bool) (q : Int) (e : W = .tuple #[.int .i64 x, .bool t, .int .i64 q]) : x = N ∧ t = T ∧ q = Q := by
  rw [h] at e
  injection e with e; injection e with e; injection e with e1 e; injection e with e2 e; injection e with e3 e
  injection e1 with _ e1; injection e2 with e2; injection e3 with _ e3
  exact ⟨e1.symm, e2.symm, e3.symm⟩
theorem sp_zero (p : Int) : sp 0 p = p := rfl
theorem sl_zero (l : List Bnd) : sl 0 l = l := rfl
theorem ids_wf {P : Int} {l : List Bnd} {V : List Int} (hk : chk P l = 0) (h : ∀ x ∈ V, x ∈ idsL l) : ∀ v ∈ V, Wf v := fun v hv => by
  obtain ⟨-, x, hx, rfl⟩ := mem_idsL.1 (h v hv)
  exact wf_all hk x hx

set_option maxHeartbeats 2000000 in
theorem mend_any (Bu Ba Bb : Nat) (P a b : Int) (u : Bool) (A : Option Addr) (n k : Nat) (l : List Bnd) (w : World) (hr : RdB w A n k l) (hn : n ≤ maxLen) (h1 : Blk w Bu 4 #[.bool u]) (h2 : Blk w Ba 3 #[.int .i64 a]) (h3 : Blk w Bb 3 #[.int .i64 b]) :
    Calls Try.prog 53 #[.agg #[.int .i64 P, .slice A n k], .pointer (some ⟨Bu, 0, none⟩), .pointer (some ⟨Ba, 0, none⟩), .pointer (some ⟨Bb, 0, none⟩)] w fun e w' => ∃ x t q, e = .returned (.tuple #[.int .i64 x, .bool t, .int .i64 q]) ∧ endV P l a b u = .tuple #[.int .i64 x, .bool t, .int .i64 q] ∧ Below w.heap.size w w' := by
  have hB : Below w.heap.size w (w.alloc (.cells #[.int .i64 P, .slice A n k] 24)) := (Below.refl _ w).alloc (Nat.le_refl _) _
  have c1 : (w.alloc (.cells #[.int .i64 P, .slice A n k] 24)).cell? ⟨Bu, 0, none⟩ = some (.bool u) := (h1.alloc _).cell 0
  have c2 : (w.alloc (.cells #[.int .i64 P, .slice A n k] 24)).cell? ⟨Ba, 0, none⟩ = some (.int .i64 a) := (h2.alloc _).cell 0
  have c3 : (w.alloc (.cells #[.int .i64 P, .slice A n k] 24)).cell? ⟨Bb, 0, none⟩ = some (.int .i64 b) := (h3.alloc _).cell 0
  have l1 := h1.lt; have l2 := h2.lt; have l3 := h3.lt
  have HR := Lib.hid hr; clear hr h1 h2 h3
  cases u
  · skip
    go_enter Try.func53, Try.ntmps53
    go_wp2_with fail
    refine (Least_any P a b A n k l _ (HR.out.below hB) hn).mono ?_
    rintro e w2 ⟨x, t, q, rfl, hv, hb⟩
    have HV := Lib.hid hv; clear hv c1 c2 c3
    go_wp2
    go_ret3
    exact ⟨x, t, q, rfl, HV.out, hB.trans (hb.mono hB.size)⟩
  · skip
    go_enter Try.func53, Try.ntmps53
    go_wp2_with fail
    refine (Greatest_any P a b A n k l _ (HR.out.below hB) hn).mono ?_
    rintro e w2 ⟨x, t, q, rfl, hv, hb⟩
    have HV := Lib.hid hv; clear hv c1 c2 c3
    go_wp2
    go_ret3
    exact ⟨x, t, q, rfl, HV.out, hB.trans (hb.mono hB.size)⟩

set_option maxRecDepth 100000 in
set_option maxHeartbeats 8000000 in
theorem doubted_any (P : Int) (A B : Option Addr) (n k m d : Nat) (l L1 : List Bnd) (V : List Int) (w : World) (hr : RdB w A n k l) (hn : n ≤ maxLen) (hq : RdI w B m d V) (hm : m ≤ 1000) (HC0 : Hid (chk P l = 0)) (HS : Hid (∀ v ∈ V, Wf v)) (HL1 : Hid (onlyL l V = L1))
    (E1 : Hid (solveV P L1 = ([], false, 0))) (H : Hid (∀ id ∈ V, withoutC P L1 id = 0 ∧ ∃ Z, solveV P (dropL L1 [id]) = (Z, true, 0))) :
    Calls Try.prog 54 #[.agg #[.int .i64 P, .slice A n k], .slice B m d] w fun e w' => e = .returned (.bool true) ∧ Below w.heap.size w w' := by
  go_enter Try.func54, Try.ntmps54
  have bel_1 := Lib.hid (show Below w.heap.size w w from Below.refl _ w)
  have v_2 := Lib.hid (hq)
  clear hq
  have rd_3 := Lib.hid (hr)
  clear hr
  have bel_4 := Lib.hid (Below.alloc bel_1.out (bel_1.out.size) (.cells #[.int .i64 P, .slice A n k] 24))
  clear bel_1
  have v_5 := Lib.hid (RdI.alloc v_2.out (.cells #[.int .i64 P, .slice A n k] 24))
  clear v_2
  have rd_6 := Lib.hid (RdB.alloc rd_3.out (.cells #[.int .i64 P, .slice A n k] 24))
  clear rd_3
  have srd_7 := Lib.hid (Blk.new w 24 #[.int .i64 P, .slice A n k])
  have hc := Calls.mono (Only_any P A B n k m d l V _ rd_6.out hn HS.out v_5.out hm) (fun e w' h => retT_of h)
  rw [HC0.out] at hc
  rw [sp_zero] at hc
  rw [sl_zero] at hc
  rw [HL1.out] at hc
  have HC := Lib.hid hc; clear hc
  go_wp2_with fail
  refine HC.out.mono ?_
  rintro e w_8 ⟨At, nt, ct, rfl, ho, hb⟩
  clear HC
  have ow_9 := Lib.hid (owns_base ho (bel_4.out.size))
  have hmt := ownB_max ho
  have bel_10 := Lib.hid (Below.trans bel_4.out (Below.mono hb (bel_4.out.size)))
  clear bel_4
  have v_11 := Lib.hid (RdI.below v_5.out hb)
  clear v_5
  have rd_12 := Lib.hid (RdB.below rd_6.out hb)
  clear rd_6
  have srd_13 := Lib.hid (Blk.keep srd_7.out hb)
  clear srd_7
  have t_14 := Lib.hid ((OwnB.rd ho).1)
  clear ho hb
  have bel_15 := Lib.hid (Below.alloc bel_10.out (bel_10.out.size) (.cells #[.int .i64 P, .slice At nt ct] 24))
  clear bel_10
  have v_16 := Lib.hid (RdI.alloc v_11.out (.cells #[.int .i64 P, .slice At nt ct] 24))
  clear v_11
  have rd_17 := Lib.hid (RdB.alloc rd_12.out (.cells #[.int .i64 P, .slice At nt ct] 24))
  clear rd_12
  have srd_18 := Lib.hid (Blk.alloc srd_13.out (.cells #[.int .i64 P, .slice At nt ct] 24))
  clear srd_13
  have ownt_19 := Lib.hid (World.ownsRow.alloc ow_9.out (.cells #[.int .i64 P, .slice At nt ct] 24))
  clear ow_9
  have t_20 := Lib.hid (RdB.alloc t_14.out (.cells #[.int .i64 P, .slice At nt ct] 24))
  clear t_14
  have st_21 := Lib.hid (Blk.new w_8 24 #[.int .i64 P, .slice At nt ct])
  have z_22 : ((w_8.alloc (.cells #[.int .i64 P, .slice At nt ct] 24))).cell? ⟨w.heap.size, 0, none⟩ = some (.int .i64 P) := Blk.cell srd_18.out 0
  have z_23 : ((w_8.alloc (.cells #[.int .i64 P, .slice At nt ct] 24))).cell? ⟨w.heap.size, 1, none⟩ = some (.slice A n k) := Blk.cell srd_18.out 1
  have z_24 : ((w_8.alloc (.cells #[.int .i64 P, .slice At nt ct] 24))).cell? ⟨w_8.heap.size, 0, none⟩ = some (.int .i64 P) := Blk.cell st_21.out 0
  have z_25 : ((w_8.alloc (.cells #[.int .i64 P, .slice At nt ct] 24))).cell? ⟨w_8.heap.size, 1, none⟩ = some (.slice At nt ct) := Blk.cell st_21.out 1
  have hc := Solve_any P At nt ct L1 _ t_20.out hmt
  rw [E1.out] at hc
  unfold RetI at hc; dsimp only at hc
  have HC := Lib.hid hc; clear hc
  go_wp2_with fail
  refine HC.out.mono ?_
  rintro e w_26 ⟨Az, nz, cz, rfl, ho, hb⟩
  clear HC
  clear z_22 z_23 z_24 z_25
  have ow_27 := Lib.hid (owns_base ho (bel_15.out.size))
  have bel_28 := Lib.hid (Below.trans bel_15.out (Below.mono hb (bel_15.out.size)))
  clear bel_15
  have v_29 := Lib.hid (RdI.below v_16.out hb)
  clear v_16
  have rd_30 := Lib.hid (RdB.below rd_17.out hb)
  clear rd_17
  have srd_31 := Lib.hid (Blk.keep srd_18.out hb)
  clear srd_18
  have ownt_32 := Lib.hid (owns_below ownt_19.out hb)
  clear ownt_19
  have t_33 := Lib.hid (RdB.below t_20.out hb)
  clear t_20
  have st_34 := Lib.hid (Blk.keep st_21.out hb)
  clear st_21
  have z_35 := Lib.hid ((OwnI.rd ho).1)
  obtain rfl : nz = 0 := z_35.out.len.symm
  clear ho hb
  have z_36 : (w_26).cell? ⟨w.heap.size, 0, none⟩ = some (.int .i64 P) := Blk.cell srd_31.out 0
  have z_37 : (w_26).cell? ⟨w.heap.size, 1, none⟩ = some (.slice A n k) := Blk.cell srd_31.out 1
  have z_38 : (w_26).cell? ⟨w_8.heap.size, 0, none⟩ = some (.int .i64 P) := Blk.cell st_34.out 0
  have z_39 : (w_26).cell? ⟨w_8.heap.size, 1, none⟩ = some (.slice At nt ct) := Blk.cell st_34.out 1
  clear z_36 z_37 z_38 z_39
  have hlt_ := Blk.lt st_34.out
  go_wp2
  go_loopw [40] (fun iv wr => ∃ q : Nat, q ≤ m ∧ iv = .int .i64 q ∧ Below w_26.heap.size w_26 wr) (fun iv _ => m - (intOf iv).toNat)
  case atStart => exact ⟨0, Nat.zero_le _, rfl, Below.refl _ _⟩
  case round =>
    obtain ⟨q, hq, rfl, hbe⟩ := hrel
    have HBE := Lib.hid hbe; clear hbe
    by_cases hqm : q < m
    · have hqm' : (q : Int) < m := by omega
      have X0 := Lib.hid (RdI.below v_29.out HBE.out); have X1 := Lib.hid (RdB.below t_33.out HBE.out); have X2 := Lib.hid (Blk.keep st_34.out HBE.out)
      have hvl := X0.out.len
      obtain ⟨id, hid_⟩ : ∃ id, V[q]? = some id := ⟨V[q]'(by omega), List.getElem?_eq_getElem _⟩
      obtain ⟨bv, ov, hBv⟩ := rdI_some X0.out hid_
      subst hBv
      obtain ⟨ca, cl⟩ := rdI_at X0.out hid_
      obtain ⟨hw0, Z, hZ⟩ := H.out id (List.mem_of_getElem? hid_)
      have HW0 := Lib.hid hw0; have HZ := Lib.hid hZ; clear hw0 hZ hid_ hvl
      have z_501 : (wr).cell? ⟨w_8.heap.size, 0, none⟩ = some (.int .i64 P) := Blk.cell X2.out 0
      have z_502 : (wr).cell? ⟨w_8.heap.size, 1, none⟩ = some (.slice At nt ct) := Blk.cell X2.out 1
      have hc := Calls.mono (Without_any P id At nt ct L1 _ X1.out hmt) (fun e w' h => retT_of h)
      rw [HW0.out] at hc
      rw [sp_zero] at hc
      rw [sl_zero] at hc
      have HC := Lib.hid hc; clear hc
      go_wp2_with fail
      refine HC.out.mono ?_
      rintro e w_503 ⟨Ax, nx, cx, rfl, ho, hb⟩
      clear HC
      clear z_501 z_502
      have ow_504 := Lib.hid (owns_base ho (HBE.out.size))
      have hmx := ownB_max ho
      have bel_505 := Lib.hid (Below.trans HBE.out (Below.mono hb (HBE.out.size)))
      clear HBE
      have t_506 := Lib.hid (RdB.below X1.out hb)
      clear X1
      have st_507 := Lib.hid (Blk.keep X2.out hb)
      clear X2
      have x_508 := Lib.hid ((OwnB.rd ho).1)
      clear ho hb
      have bel_509 := Lib.hid (Below.alloc bel_505.out (bel_505.out.size) (.cells #[.int .i64 P, .slice Ax nx cx] 24))
      clear bel_505
      have t_510 := Lib.hid (RdB.alloc t_506.out (.cells #[.int .i64 P, .slice Ax nx cx] 24))
      clear t_506
      have st_511 := Lib.hid (Blk.alloc st_507.out (.cells #[.int .i64 P, .slice Ax nx cx] 24))
      clear st_507
      have ownx_512 := Lib.hid (World.ownsRow.alloc ow_504.out (.cells #[.int .i64 P, .slice Ax nx cx] 24))
      clear ow_504
      have x_513 := Lib.hid (RdB.alloc x_508.out (.cells #[.int .i64 P, .slice Ax nx cx] 24))
      clear x_508
      have sx_514 := Lib.hid (Blk.new w_503 24 #[.int .i64 P, .slice Ax nx cx])
      have z_515 : ((w_503.alloc (.cells #[.int .i64 P, .slice Ax nx cx] 24))).cell? ⟨w_8.heap.size, 0, none⟩ = some (.int .i64 P) := Blk.cell st_511.out 0
      have z_516 : ((w_503.alloc (.cells #[.int .i64 P, .slice Ax nx cx] 24))).cell? ⟨w_8.heap.size, 1, none⟩ = some (.slice At nt ct) := Blk.cell st_511.out 1
      have z_517 : ((w_503.alloc (.cells #[.int .i64 P, .slice Ax nx cx] 24))).cell? ⟨w_503.heap.size, 0, none⟩ = some (.int .i64 P) := Blk.cell sx_514.out 0
      have z_518 : ((w_503.alloc (.cells #[.int .i64 P, .slice Ax nx cx] 24))).cell? ⟨w_503.heap.size, 1, none⟩ = some (.slice Ax nx cx) := Blk.cell sx_514.out 1
      have hc := Solve_any P Ax nx cx (dropL L1 [id]) _ x_513.out hmx
      rw [HZ.out] at hc
      unfold RetI at hc; dsimp only at hc
      have HC := Lib.hid hc; clear hc
      go_wp2_with fail
      refine HC.out.mono ?_
      rintro e w_519 ⟨Az, nz, cz, rfl, ho, hb⟩
      clear HC
      clear z_515 z_516 z_517 z_518
      have ow_520 := Lib.hid (owns_base ho (bel_509.out.size))
      have bel_521 := Lib.hid (Below.trans bel_509.out (Below.mono hb (bel_509.out.size)))
      clear bel_509
      have t_522 := Lib.hid (RdB.below t_510.out hb)
      clear t_510
      have st_523 := Lib.hid (Blk.keep st_511.out hb)
      clear st_511
      have ownx_524 := Lib.hid (owns_below ownx_512.out hb)
      clear ownx_512
      have x_525 := Lib.hid (RdB.below x_513.out hb)
      clear x_513
      have sx_526 := Lib.hid (Blk.keep sx_514.out hb)
      clear sx_514
      have z_527 := Lib.hid ((OwnI.rd ho).1)
      obtain rfl : nz = Z.length := z_527.out.len.symm
      clear ho hb
      have z_528 : (w_519).cell? ⟨w_8.heap.size, 0, none⟩ = some (.int .i64 P) := Blk.cell st_523.out 0
      have z_529 : (w_519).cell? ⟨w_8.heap.size, 1, none⟩ = some (.slice At nt ct) := Blk.cell st_523.out 1
      have z_530 : (w_519).cell? ⟨w_503.heap.size, 0, none⟩ = some (.int .i64 P) := Blk.cell sx_526.out 0
      have z_531 : (w_519).cell? ⟨w_503.heap.size, 1, none⟩ = some (.slice Ax nx cx) := Blk.cell sx_526.out 1
      clear z_528 z_529 z_530 z_531
      clear ca cl
      go_wp2
      go_roundw
      case rel => exact ⟨q + 1, by omega, by go_num, bel_521.out⟩
      case measure => (simp [intOf]; try omega)
    · obtain rfl : q = m := by omega
      go_wp2
      go_ret
      exact ⟨rfl, Below.trans bel_28.out (HBE.out.mono bel_28.out.size)⟩

set_option maxRecDepth 100000 in
set_option maxHeartbeats 8000000 in
theorem mi_w (P a b : Int) (u : Bool) (A : Option Addr) (n k : Nat) (l : List Bnd) (w : World) (hr : RdB w A n k l) (hn : n ≤ maxLen) (hw : (decide (P ≤ 9) && decide (n ≤ 20)) = false) :
    Calls Try.prog 14 #[.agg #[.int .i64 P, .slice A n k], .int .i64 a, .int .i64 b, .bool u] w fun e w' => e = .returned (.bool true) ∧ Below w.heap.size w w' := by
  go_enter Try.func14, Try.ntmps14
  have bel_1 := Lib.hid (show Below w.heap.size w w from Below.refl _ w)
  have rd_2 := Lib.hid (hr)
  clear hr
  have bel_3 := Lib.hid (Below.alloc bel_1.out (bel_1.out.size) (.cells #[.int .i64 P, .slice A n k] 24))
  clear bel_1
  have rd_4 := Lib.hid (RdB.alloc rd_2.out (.cells #[.int .i64 P, .slice A n k] 24))
  clear rd_2
  have s_5 := Lib.hid (Blk.new w 24 #[.int .i64 P, .slice A n k])
  have bel_6 := Lib.hid (Below.alloc bel_3.out (bel_3.out.size) (.cells #[.int .i64 a] 3))
  clear bel_3
  have rd_7 := Lib.hid (RdB.alloc rd_4.out (.cells #[.int .i64 a] 3))
  clear rd_4
  have s_8 := Lib.hid (Blk.alloc s_5.out (.cells #[.int .i64 a] 3))
  clear s_5
  have nb_ := Blk.new (w.alloc (.cells #[.int .i64 P, .slice A n k] 24)) 3 #[.int .i64 a]
  simp only [World.size_alloc] at nb_
  have a_9 := Lib.hid nb_; clear nb_
  have bel_10 := Lib.hid (Below.alloc bel_6.out (bel_6.out.size) (.cells #[.int .i64 b] 3))
  clear bel_6
  have rd_11 := Lib.hid (RdB.alloc rd_7.out (.cells #[.int .i64 b] 3))
  clear rd_7
  have s_12 := Lib.hid (Blk.alloc s_8.out (.cells #[.int .i64 b] 3))
  clear s_8
  have a_13 := Lib.hid (Blk.alloc a_9.out (.cells #[.int .i64 b] 3))
  clear a_9
  have nb_ := Blk.new ((w.alloc (.cells #[.int .i64 P, .slice A n k] 24)).alloc (.cells #[.int .i64 a] 3)) 3 #[.int .i64 b]
  simp only [World.size_alloc] at nb_
  have b_14 := Lib.hid nb_; clear nb_
  have bel_15 := Lib.hid (Below.alloc bel_10.out (bel_10.out.size) (.cells #[.bool u] 4))
  clear bel_10
  have rd_16 := Lib.hid (RdB.alloc rd_11.out (.cells #[.bool u] 4))
  clear rd_11
  have s_17 := Lib.hid (Blk.alloc s_12.out (.cells #[.bool u] 4))
  clear s_12
  have a_18 := Lib.hid (Blk.alloc a_13.out (.cells #[.bool u] 4))
  clear a_13
  have b_19 := Lib.hid (Blk.alloc b_14.out (.cells #[.bool u] 4))
  clear b_14
  have nb_ := Blk.new (((w.alloc (.cells #[.int .i64 P, .slice A n k] 24)).alloc (.cells #[.int .i64 a] 3)).alloc (.cells #[.int .i64 b] 3)) 4 #[.bool u]
  simp only [World.size_alloc] at nb_
  have u_20 := Lib.hid nb_; clear nb_
  have hc := (show Calls Try.prog 43 #[.agg #[.int .i64 P, .slice A n k]] (((((w.alloc (.cells #[.int .i64 P, .slice A n k] 24)).alloc (.cells #[.int .i64 a] 3)).alloc (.cells #[.int .i64 b] 3)).alloc (.cells #[.bool u] 4))) fun e w' => e = .returned (.bool false) ∧ Below (((((w.alloc (.cells #[.int .i64 P, .slice A n k] 24)).alloc (.cells #[.int .i64 a] 3)).alloc (.cells #[.int .i64 b] 3)).alloc (.cells #[.bool u] 4))).heap.size (((((w.alloc (.cells #[.int .i64 P, .slice A n k] 24)).alloc (.cells #[.int .i64 a] 3)).alloc (.cells #[.int .i64 b] 3)).alloc (.cells #[.bool u] 4))) w' from by have h := small_any P A n k (((((w.alloc (.cells #[.int .i64 P, .slice A n k] 24)).alloc (.cells #[.int .i64 a] 3)).alloc (.cells #[.int .i64 b] 3)).alloc (.cells #[.bool u] 4))); rw [show (decide (P ≤ 9) && decide (n ≤ 20)) = false from hw] at h; exact h)
  have HC := Lib.hid hc; clear hc
  go_wp2_with fail
  refine HC.out.mono ?_
  rintro e w_21 ⟨rfl, hb⟩
  clear HC
  have bel_22 := Lib.hid (Below.trans bel_15.out (Below.mono hb (bel_15.out.size)))
  clear bel_15
  have rd_23 := Lib.hid (RdB.below rd_16.out hb)
  clear rd_16
  have s_24 := Lib.hid (Blk.keep s_17.out hb)
  clear s_17
  have a_25 := Lib.hid (Blk.keep a_18.out hb)
  clear a_18
  have b_26 := Lib.hid (Blk.keep b_19.out hb)
  clear b_19
  have u_27 := Lib.hid (Blk.keep u_20.out hb)
  clear u_20
  clear hb
  have z_28 : (w_21).cell? ⟨w.heap.size, 0, none⟩ = some (.int .i64 P) := Blk.cell s_24.out 0
  have z_29 : (w_21).cell? ⟨w.heap.size, 1, none⟩ = some (.slice A n k) := Blk.cell s_24.out 1
  have z_30 : (w_21).cell? ⟨w.heap.size + 1, 0, none⟩ = some (.int .i64 a) := Blk.cell a_25.out 0
  have z_31 : (w_21).cell? ⟨w.heap.size + 1 + 1, 0, none⟩ = some (.int .i64 b) := Blk.cell b_26.out 0
  have z_32 : (w_21).cell? ⟨w.heap.size + 1 + 1 + 1, 0, none⟩ = some (.bool u) := Blk.cell u_27.out 0
  go_wp2_with fail
  refine (alive_ok _).mono ?_
  rintro e w_33 ⟨rfl, hb⟩
  clear z_28 z_29 z_30 z_31 z_32
  have bel_34 := Lib.hid (Below.trans bel_22.out (Below.mono hb (bel_22.out.size)))
  clear bel_22
  have rd_35 := Lib.hid (RdB.below rd_23.out hb)
  clear rd_23
  have s_36 := Lib.hid (Blk.keep s_24.out hb)
  clear s_24
  have a_37 := Lib.hid (Blk.keep a_25.out hb)
  clear a_25
  have b_38 := Lib.hid (Blk.keep b_26.out hb)
  clear b_26
  have u_39 := Lib.hid (Blk.keep u_27.out hb)
  clear u_27
  clear hb
  go_wp2
  go_ret
  exact ⟨rfl, bel_34.out⟩

set_option maxRecDepth 100000 in
set_option maxHeartbeats 8000000 in
theorem mi_err (P a b : Int) (u : Bool) (A : Option Addr) (n k : Nat) (l : List Bnd) (w : World) (hr : RdB w A n k l) (hn : n ≤ maxLen) (hw : (decide (P ≤ 9) && decide (n ≤ 20)) = true) (q : Int) (hq : (q != 0) = true) (E1 : Hid (doubtV P l = ([], false, q))) :
    Calls Try.prog 14 #[.agg #[.int .i64 P, .slice A n k], .int .i64 a, .int .i64 b, .bool u] w fun e w' => e = .returned (.bool true) ∧ Below w.heap.size w w' := by
  go_enter Try.func14, Try.ntmps14
  have bel_1 := Lib.hid (show Below w.heap.size w w from Below.refl _ w)
  have rd_2 := Lib.hid (hr)
  clear hr
  have bel_3 := Lib.hid (Below.alloc bel_1.out (bel_1.out.size) (.cells #[.int .i64 P, .slice A n k] 24))
  clear bel_1
  have rd_4 := Lib.hid (RdB.alloc rd_2.out (.cells #[.int .i64 P, .slice A n k] 24))
  clear rd_2
  have s_5 := Lib.hid (Blk.new w 24 #[.int .i64 P, .slice A n k])
  have bel_6 := Lib.hid (Below.alloc bel_3.out (bel_3.out.size) (.cells #[.int .i64 a] 3))
  clear bel_3
  have rd_7 := Lib.hid (RdB.alloc rd_4.out (.cells #[.int .i64 a] 3))
  clear rd_4
  have s_8 := Lib.hid (Blk.alloc s_5.out (.cells #[.int .i64 a] 3))
  clear s_5
  have nb_ := Blk.new (w.alloc (.cells #[.int .i64 P, .slice A n k] 24)) 3 #[.int .i64 a]
  simp only [World.size_alloc] at nb_
  have a_9 := Lib.hid nb_; clear nb_
  have bel_10 := Lib.hid (Below.alloc bel_6.out (bel_6.out.size) (.cells #[.int .i64 b] 3))
  clear bel_6
  have rd_11 := Lib.hid (RdB.alloc rd_7.out (.cells #[.int .i64 b] 3))
  clear rd_7
  have s_12 := Lib.hid (Blk.alloc s_8.out (.cells #[.int .i64 b] 3))
  clear s_8
  have a_13 := Lib.hid (Blk.alloc a_9.out (.cells #[.int .i64 b] 3))
  clear a_9
  have nb_ := Blk.new ((w.alloc (.cells #[.int .i64 P, .slice A n k] 24)).alloc (.cells #[.int .i64 a] 3)) 3 #[.int .i64 b]
  simp only [World.size_alloc] at nb_
  have b_14 := Lib.hid nb_; clear nb_
  have bel_15 := Lib.hid (Below.alloc bel_10.out (bel_10.out.size) (.cells #[.bool u] 4))
  clear bel_10
  have rd_16 := Lib.hid (RdB.alloc rd_11.out (.cells #[.bool u] 4))
  clear rd_11
  have s_17 := Lib.hid (Blk.alloc s_12.out (.cells #[.bool u] 4))
  clear s_12
  have a_18 := Lib.hid (Blk.alloc a_13.out (.cells #[.bool u] 4))
  clear a_13
  have b_19 := Lib.hid (Blk.alloc b_14.out (.cells #[.bool u] 4))
  clear b_14
  have nb_ := Blk.new (((w.alloc (.cells #[.int .i64 P, .slice A n k] 24)).alloc (.cells #[.int .i64 a] 3)).alloc (.cells #[.int .i64 b] 3)) 4 #[.bool u]
  simp only [World.size_alloc] at nb_
  have u_20 := Lib.hid nb_; clear nb_
  have hc := (show Calls Try.prog 43 #[.agg #[.int .i64 P, .slice A n k]] (((((w.alloc (.cells #[.int .i64 P, .slice A n k] 24)).alloc (.cells #[.int .i64 a] 3)).alloc (.cells #[.int .i64 b] 3)).alloc (.cells #[.bool u] 4))) fun e w' => e = .returned (.bool true) ∧ Below (((((w.alloc (.cells #[.int .i64 P, .slice A n k] 24)).alloc (.cells #[.int .i64 a] 3)).alloc (.cells #[.int .i64 b] 3)).alloc (.cells #[.bool u] 4))).heap.size (((((w.alloc (.cells #[.int .i64 P, .slice A n k] 24)).alloc (.cells #[.int .i64 a] 3)).alloc (.cells #[.int .i64 b] 3)).alloc (.cells #[.bool u] 4))) w' from by have h := small_any P A n k (((((w.alloc (.cells #[.int .i64 P, .slice A n k] 24)).alloc (.cells #[.int .i64 a] 3)).alloc (.cells #[.int .i64 b] 3)).alloc (.cells #[.bool u] 4))); rw [show (decide (P ≤ 9) && decide (n ≤ 20)) = true from hw] at h; exact h)
  have HC := Lib.hid hc; clear hc
  go_wp2_with fail
  refine HC.out.mono ?_
  rintro e w_21 ⟨rfl, hb⟩
  clear HC
  have bel_22 := Lib.hid (Below.trans bel_15.out (Below.mono hb (bel_15.out.size)))
  clear bel_15
  have rd_23 := Lib.hid (RdB.below rd_16.out hb)
  clear rd_16
  have s_24 := Lib.hid (Blk.keep s_17.out hb)
  clear s_17
  have a_25 := Lib.hid (Blk.keep a_18.out hb)
  clear a_18
  have b_26 := Lib.hid (Blk.keep b_19.out hb)
  clear b_19
  have u_27 := Lib.hid (Blk.keep u_20.out hb)
  clear u_20
  clear hb
  have z_28 : (w_21).cell? ⟨w.heap.size, 0, none⟩ = some (.int .i64 P) := Blk.cell s_24.out 0
  have z_29 : (w_21).cell? ⟨w.heap.size, 1, none⟩ = some (.slice A n k) := Blk.cell s_24.out 1
  have z_30 : (w_21).cell? ⟨w.heap.size + 1, 0, none⟩ = some (.int .i64 a) := Blk.cell a_25.out 0
  have z_31 : (w_21).cell? ⟨w.heap.size + 1 + 1, 0, none⟩ = some (.int .i64 b) := Blk.cell b_26.out 0
  have z_32 : (w_21).cell? ⟨w.heap.size + 1 + 1 + 1, 0, none⟩ = some (.bool u) := Blk.cell u_27.out 0
  have hc := Doubt_any P A n k l _ rd_23.out hn
  rw [E1.out] at hc
  unfold RetI at hc; dsimp only at hc
  have HC := Lib.hid hc; clear hc
  go_wp2_with fail
  refine HC.out.mono ?_
  rintro e w_33 ⟨Ad, nd, cd, rfl, ho, hb⟩
  clear HC
  clear z_28 z_29 z_30 z_31 z_32
  have ow_34 := Lib.hid (owns_base ho (bel_22.out.size))
  have bel_35 := Lib.hid (Below.trans bel_22.out (Below.mono hb (bel_22.out.size)))
  clear bel_22
  have rd_36 := Lib.hid (RdB.below rd_23.out hb)
  clear rd_23
  have s_37 := Lib.hid (Blk.keep s_24.out hb)
  clear s_24
  have a_38 := Lib.hid (Blk.keep a_25.out hb)
  clear a_25
  have b_39 := Lib.hid (Blk.keep b_26.out hb)
  clear b_26
  have u_40 := Lib.hid (Blk.keep u_27.out hb)
  clear u_27
  have d_41 := Lib.hid ((OwnI.rd ho).1)
  obtain rfl : nd = 0 := d_41.out.len.symm
  clear ho hb
  have z_42 : (w_33).cell? ⟨w.heap.size, 0, none⟩ = some (.int .i64 P) := Blk.cell s_37.out 0
  have z_43 : (w_33).cell? ⟨w.heap.size, 1, none⟩ = some (.slice A n k) := Blk.cell s_37.out 1
  have z_44 : (w_33).cell? ⟨w.heap.size + 1, 0, none⟩ = some (.int .i64 a) := Blk.cell a_38.out 0
  have z_45 : (w_33).cell? ⟨w.heap.size + 1 + 1, 0, none⟩ = some (.int .i64 b) := Blk.cell b_39.out 0
  have z_46 : (w_33).cell? ⟨w.heap.size + 1 + 1 + 1, 0, none⟩ = some (.bool u) := Blk.cell u_40.out 0
  go_wp2_with fail
  refine (alive_ok _).mono ?_
  rintro e w_47 ⟨rfl, hb⟩
  clear z_42 z_43 z_44 z_45 z_46
  have bel_48 := Lib.hid (Below.trans bel_35.out (Below.mono hb (bel_35.out.size)))
  clear bel_35
  have rd_49 := Lib.hid (RdB.below rd_36.out hb)
  clear rd_36
  have s_50 := Lib.hid (Blk.keep s_37.out hb)
  clear s_37
  have a_51 := Lib.hid (Blk.keep a_38.out hb)
  clear a_38
  have b_52 := Lib.hid (Blk.keep b_39.out hb)
  clear b_39
  have u_53 := Lib.hid (Blk.keep u_40.out hb)
  clear u_40
  have ownd_54 := Lib.hid (owns_below ow_34.out hb)
  clear ow_34
  have d_55 := Lib.hid (RdI.below d_41.out hb)
  clear d_41
  clear hb
  go_wp2
  go_ret
  exact ⟨rfl, bel_48.out⟩

set_option maxRecDepth 100000 in
set_option maxHeartbeats 8000000 in
theorem mi_doubt (P a b : Int) (u : Bool) (A : Option Addr) (n k : Nat) (l : List Bnd) (w : World) (hr : RdB w A n k l) (hn : n ≤ maxLen) (hw : (decide (P ≤ 9) && decide (n ≤ 20)) = true) (V : List Int) (hV : V.length ≤ 1000) (E1 : Hid (doubtV P l = (V, true, 0))) (L1 : List Bnd) (HC0 : Hid (chk P l = 0)) (HS : Hid (∀ v ∈ V, Wf v)) (HL1 : Hid (onlyL l V = L1))
    (E2 : Hid (solveV P L1 = ([], false, 0))) (H : Hid (∀ id ∈ V, withoutC P L1 id = 0 ∧ ∃ Z, solveV P (dropL L1 [id]) = (Z, true, 0))) :
    Calls Try.prog 14 #[.agg #[.int .i64 P, .slice A n k], .int .i64 a, .int .i64 b, .bool u] w fun e w' => e = .returned (.bool true) ∧ Below w.heap.size w w' := by
  go_enter Try.func14, Try.ntmps14
  have bel_1 := Lib.hid (show Below w.heap.size w w from Below.refl _ w)
  have rd_2 := Lib.hid (hr)
  clear hr
  have bel_3 := Lib.hid (Below.alloc bel_1.out (bel_1.out.size) (.cells #[.int .i64 P, .slice A n k] 24))
  clear bel_1
  have rd_4 := Lib.hid (RdB.alloc rd_2.out (.cells #[.int .i64 P, .slice A n k] 24))
  clear rd_2
  have s_5 := Lib.hid (Blk.new w 24 #[.int .i64 P, .slice A n k])
  have bel_6 := Lib.hid (Below.alloc bel_3.out (bel_3.out.size) (.cells #[.int .i64 a] 3))
  clear bel_3
  have rd_7 := Lib.hid (RdB.alloc rd_4.out (.cells #[.int .i64 a] 3))
  clear rd_4
  have s_8 := Lib.hid (Blk.alloc s_5.out (.cells #[.int .i64 a] 3))
  clear s_5
  have nb_ := Blk.new (w.alloc (.cells #[.int .i64 P, .slice A n k] 24)) 3 #[.int .i64 a]
  simp only [World.size_alloc] at nb_
  have a_9 := Lib.hid nb_; clear nb_
  have bel_10 := Lib.hid (Below.alloc bel_6.out (bel_6.out.size) (.cells #[.int .i64 b] 3))
  clear bel_6
  have rd_11 := Lib.hid (RdB.alloc rd_7.out (.cells #[.int .i64 b] 3))
  clear rd_7
  have s_12 := Lib.hid (Blk.alloc s_8.out (.cells #[.int .i64 b] 3))
  clear s_8
  have a_13 := Lib.hid (Blk.alloc a_9.out (.cells #[.int .i64 b] 3))
  clear a_9
  have nb_ := Blk.new ((w.alloc (.cells #[.int .i64 P, .slice A n k] 24)).alloc (.cells #[.int .i64 a] 3)) 3 #[.int .i64 b]
  simp only [World.size_alloc] at nb_
  have b_14 := Lib.hid nb_; clear nb_
  have bel_15 := Lib.hid (Below.alloc bel_10.out (bel_10.out.size) (.cells #[.bool u] 4))
  clear bel_10
  have rd_16 := Lib.hid (RdB.alloc rd_11.out (.cells #[.bool u] 4))
  clear rd_11
  have s_17 := Lib.hid (Blk.alloc s_12.out (.cells #[.bool u] 4))
  clear s_12
  have a_18 := Lib.hid (Blk.alloc a_13.out (.cells #[.bool u] 4))
  clear a_13
  have b_19 := Lib.hid (Blk.alloc b_14.out (.cells #[.bool u] 4))
  clear b_14
  have nb_ := Blk.new (((w.alloc (.cells #[.int .i64 P, .slice A n k] 24)).alloc (.cells #[.int .i64 a] 3)).alloc (.cells #[.int .i64 b] 3)) 4 #[.bool u]
  simp only [World.size_alloc] at nb_
  have u_20 := Lib.hid nb_; clear nb_
  have hc := (show Calls Try.prog 43 #[.agg #[.int .i64 P, .slice A n k]] (((((w.alloc (.cells #[.int .i64 P, .slice A n k] 24)).alloc (.cells #[.int .i64 a] 3)).alloc (.cells #[.int .i64 b] 3)).alloc (.cells #[.bool u] 4))) fun e w' => e = .returned (.bool true) ∧ Below (((((w.alloc (.cells #[.int .i64 P, .slice A n k] 24)).alloc (.cells #[.int .i64 a] 3)).alloc (.cells #[.int .i64 b] 3)).alloc (.cells #[.bool u] 4))).heap.size (((((w.alloc (.cells #[.int .i64 P, .slice A n k] 24)).alloc (.cells #[.int .i64 a] 3)).alloc (.cells #[.int .i64 b] 3)).alloc (.cells #[.bool u] 4))) w' from by have h := small_any P A n k (((((w.alloc (.cells #[.int .i64 P, .slice A n k] 24)).alloc (.cells #[.int .i64 a] 3)).alloc (.cells #[.int .i64 b] 3)).alloc (.cells #[.bool u] 4))); rw [show (decide (P ≤ 9) && decide (n ≤ 20)) = true from hw] at h; exact h)
  have HC := Lib.hid hc; clear hc
  go_wp2_with fail
  refine HC.out.mono ?_
  rintro e w_21 ⟨rfl, hb⟩
  clear HC
  have bel_22 := Lib.hid (Below.trans bel_15.out (Below.mono hb (bel_15.out.size)))
  clear bel_15
  have rd_23 := Lib.hid (RdB.below rd_16.out hb)
  clear rd_16
  have s_24 := Lib.hid (Blk.keep s_17.out hb)
  clear s_17
  have a_25 := Lib.hid (Blk.keep a_18.out hb)
  clear a_18
  have b_26 := Lib.hid (Blk.keep b_19.out hb)
  clear b_19
  have u_27 := Lib.hid (Blk.keep u_20.out hb)
  clear u_20
  clear hb
  have z_28 : (w_21).cell? ⟨w.heap.size, 0, none⟩ = some (.int .i64 P) := Blk.cell s_24.out 0
  have z_29 : (w_21).cell? ⟨w.heap.size, 1, none⟩ = some (.slice A n k) := Blk.cell s_24.out 1
  have z_30 : (w_21).cell? ⟨w.heap.size + 1, 0, none⟩ = some (.int .i64 a) := Blk.cell a_25.out 0
  have z_31 : (w_21).cell? ⟨w.heap.size + 1 + 1, 0, none⟩ = some (.int .i64 b) := Blk.cell b_26.out 0
  have z_32 : (w_21).cell? ⟨w.heap.size + 1 + 1 + 1, 0, none⟩ = some (.bool u) := Blk.cell u_27.out 0
  have hc := Doubt_any P A n k l _ rd_23.out hn
  rw [E1.out] at hc
  unfold RetI at hc; dsimp only at hc
  have HC := Lib.hid hc; clear hc
  go_wp2_with fail
  refine HC.out.mono ?_
  rintro e w_33 ⟨Ad, nd, cd, rfl, ho, hb⟩
  clear HC
  clear z_28 z_29 z_30 z_31 z_32
  have ow_34 := Lib.hid (owns_base ho (bel_22.out.size))
  have bel_35 := Lib.hid (Below.trans bel_22.out (Below.mono hb (bel_22.out.size)))
  clear bel_22
  have rd_36 := Lib.hid (RdB.below rd_23.out hb)
  clear rd_23
  have s_37 := Lib.hid (Blk.keep s_24.out hb)
  clear s_24
  have a_38 := Lib.hid (Blk.keep a_25.out hb)
  clear a_25
  have b_39 := Lib.hid (Blk.keep b_26.out hb)
  clear b_26
  have u_40 := Lib.hid (Blk.keep u_27.out hb)
  clear u_27
  have d_41 := Lib.hid ((OwnI.rd ho).1)
  obtain rfl : nd = V.length := d_41.out.len.symm
  clear ho hb
  have z_42 : (w_33).cell? ⟨w.heap.size, 0, none⟩ = some (.int .i64 P) := Blk.cell s_37.out 0
  have z_43 : (w_33).cell? ⟨w.heap.size, 1, none⟩ = some (.slice A n k) := Blk.cell s_37.out 1
  have z_44 : (w_33).cell? ⟨w.heap.size + 1, 0, none⟩ = some (.int .i64 a) := Blk.cell a_38.out 0
  have z_45 : (w_33).cell? ⟨w.heap.size + 1 + 1, 0, none⟩ = some (.int .i64 b) := Blk.cell b_39.out 0
  have z_46 : (w_33).cell? ⟨w.heap.size + 1 + 1 + 1, 0, none⟩ = some (.bool u) := Blk.cell u_40.out 0
  have hc := doubted_any P A Ad n k V.length cd l L1 V _ rd_36.out hn d_41.out hV HC0 HS HL1 E2 H
  have HC := Lib.hid hc; clear hc
  go_wp2_with fail
  refine HC.out.mono ?_
  rintro e w_47 ⟨rfl, hb⟩
  clear HC
  clear z_42 z_43 z_44 z_45 z_46
  have bel_48 := Lib.hid (Below.trans bel_35.out (Below.mono hb (bel_35.out.size)))
  clear bel_35
  have rd_49 := Lib.hid (RdB.below rd_36.out hb)
  clear rd_36
  have s_50 := Lib.hid (Blk.keep s_37.out hb)
  clear s_37
  have a_51 := Lib.hid (Blk.keep a_38.out hb)
  clear a_38
  have b_52 := Lib.hid (Blk.keep b_39.out hb)
  clear b_39
  have u_53 := Lib.hid (Blk.keep u_40.out hb)
  clear u_40
  have ownd_54 := Lib.hid (owns_below ow_34.out hb)
  clear ow_34
  have d_55 := Lib.hid (RdI.below d_41.out hb)
  clear d_41
  clear hb
  have z_56 : (w_47).cell? ⟨w.heap.size, 0, none⟩ = some (.int .i64 P) := Blk.cell s_50.out 0
  have z_57 : (w_47).cell? ⟨w.heap.size, 1, none⟩ = some (.slice A n k) := Blk.cell s_50.out 1
  have z_58 : (w_47).cell? ⟨w.heap.size + 1, 0, none⟩ = some (.int .i64 a) := Blk.cell a_51.out 0
  have z_59 : (w_47).cell? ⟨w.heap.size + 1 + 1, 0, none⟩ = some (.int .i64 b) := Blk.cell b_52.out 0
  have z_60 : (w_47).cell? ⟨w.heap.size + 1 + 1 + 1, 0, none⟩ = some (.bool u) := Blk.cell u_53.out 0
  go_wp2_with fail
  refine (alive_ok _).mono ?_
  rintro e w_61 ⟨rfl, hb⟩
  clear z_56 z_57 z_58 z_59 z_60
  have bel_62 := Lib.hid (Below.trans bel_48.out (Below.mono hb (bel_48.out.size)))
  clear bel_48
  have rd_63 := Lib.hid (RdB.below rd_49.out hb)
  clear rd_49
  have s_64 := Lib.hid (Blk.keep s_50.out hb)
  clear s_50
  have a_65 := Lib.hid (Blk.keep a_51.out hb)
  clear a_51
  have b_66 := Lib.hid (Blk.keep b_52.out hb)
  clear b_52
  have u_67 := Lib.hid (Blk.keep u_53.out hb)
  clear u_53
  have ownd_68 := Lib.hid (owns_below ownd_54.out hb)
  clear ownd_54
  have d_69 := Lib.hid (RdI.below d_55.out hb)
  clear d_55
  clear hb
  go_wp2
  go_ret
  exact ⟨rfl, bel_62.out⟩

set_option maxRecDepth 100000 in
set_option maxHeartbeats 8000000 in
theorem mi_none1 (P a b : Int) (u : Bool) (A : Option Addr) (n k : Nat) (l : List Bnd) (w : World) (hr : RdB w A n k l) (hn : n ≤ maxLen) (hw : (decide (P ≤ 9) && decide (n ≤ 20)) = true) (E1 : Hid (doubtV P l = ([], false, 0))) (X Q : Int) (T1 : Bool) (hQ : (Q != 0) = true) (E2 : Hid (∀ x t q, endV P l a b u = .tuple #[.int .i64 x, .bool t, .int .i64 q] → x = X ∧ t = T1 ∧ q = Q)) (E3 : Hid (restsV P l a b u = ([], Q))) :
    Calls Try.prog 14 #[.agg #[.int .i64 P, .slice A n k], .int .i64 a, .int .i64 b, .bool u] w fun e w' => e = .returned (.bool true) ∧ Below w.heap.size w w' := by
  go_enter Try.func14, Try.ntmps14
  have bel_1 := Lib.hid (show Below w.heap.size w w from Below.refl _ w)
  have rd_2 := Lib.hid (hr)
  clear hr
  have bel_3 := Lib.hid (Below.alloc bel_1.out (bel_1.out.size) (.cells #[.int .i64 P, .slice A n k] 24))
  clear bel_1
  have rd_4 := Lib.hid (RdB.alloc rd_2.out (.cells #[.int .i64 P, .slice A n k] 24))
  clear rd_2
  have s_5 := Lib.hid (Blk.new w 24 #[.int .i64 P, .slice A n k])
  have bel_6 := Lib.hid (Below.alloc bel_3.out (bel_3.out.size) (.cells #[.int .i64 a] 3))
  clear bel_3
  have rd_7 := Lib.hid (RdB.alloc rd_4.out (.cells #[.int .i64 a] 3))
  clear rd_4
  have s_8 := Lib.hid (Blk.alloc s_5.out (.cells #[.int .i64 a] 3))
  clear s_5
  have nb_ := Blk.new (w.alloc (.cells #[.int .i64 P, .slice A n k] 24)) 3 #[.int .i64 a]
  simp only [World.size_alloc] at nb_
  have a_9 := Lib.hid nb_; clear nb_
  have bel_10 := Lib.hid (Below.alloc bel_6.out (bel_6.out.size) (.cells #[.int .i64 b] 3))
  clear bel_6
  have rd_11 := Lib.hid (RdB.alloc rd_7.out (.cells #[.int .i64 b] 3))
  clear rd_7
  have s_12 := Lib.hid (Blk.alloc s_8.out (.cells #[.int .i64 b] 3))
  clear s_8
  have a_13 := Lib.hid (Blk.alloc a_9.out (.cells #[.int .i64 b] 3))
  clear a_9
  have nb_ := Blk.new ((w.alloc (.cells #[.int .i64 P, .slice A n k] 24)).alloc (.cells #[.int .i64 a] 3)) 3 #[.int .i64 b]
  simp only [World.size_alloc] at nb_
  have b_14 := Lib.hid nb_; clear nb_
  have bel_15 := Lib.hid (Below.alloc bel_10.out (bel_10.out.size) (.cells #[.bool u] 4))
  clear bel_10
  have rd_16 := Lib.hid (RdB.alloc rd_11.out (.cells #[.bool u] 4))
  clear rd_11
  have s_17 := Lib.hid (Blk.alloc s_12.out (.cells #[.bool u] 4))
  clear s_12
  have a_18 := Lib.hid (Blk.alloc a_13.out (.cells #[.bool u] 4))
  clear a_13
  have b_19 := Lib.hid (Blk.alloc b_14.out (.cells #[.bool u] 4))
  clear b_14
  have nb_ := Blk.new (((w.alloc (.cells #[.int .i64 P, .slice A n k] 24)).alloc (.cells #[.int .i64 a] 3)).alloc (.cells #[.int .i64 b] 3)) 4 #[.bool u]
  simp only [World.size_alloc] at nb_
  have u_20 := Lib.hid nb_; clear nb_
  have hc := (show Calls Try.prog 43 #[.agg #[.int .i64 P, .slice A n k]] (((((w.alloc (.cells #[.int .i64 P, .slice A n k] 24)).alloc (.cells #[.int .i64 a] 3)).alloc (.cells #[.int .i64 b] 3)).alloc (.cells #[.bool u] 4))) fun e w' => e = .returned (.bool true) ∧ Below (((((w.alloc (.cells #[.int .i64 P, .slice A n k] 24)).alloc (.cells #[.int .i64 a] 3)).alloc (.cells #[.int .i64 b] 3)).alloc (.cells #[.bool u] 4))).heap.size (((((w.alloc (.cells #[.int .i64 P, .slice A n k] 24)).alloc (.cells #[.int .i64 a] 3)).alloc (.cells #[.int .i64 b] 3)).alloc (.cells #[.bool u] 4))) w' from by have h := small_any P A n k (((((w.alloc (.cells #[.int .i64 P, .slice A n k] 24)).alloc (.cells #[.int .i64 a] 3)).alloc (.cells #[.int .i64 b] 3)).alloc (.cells #[.bool u] 4))); rw [show (decide (P ≤ 9) && decide (n ≤ 20)) = true from hw] at h; exact h)
  have HC := Lib.hid hc; clear hc
  go_wp2_with fail
  refine HC.out.mono ?_
  rintro e w_21 ⟨rfl, hb⟩
  clear HC
  have bel_22 := Lib.hid (Below.trans bel_15.out (Below.mono hb (bel_15.out.size)))
  clear bel_15
  have rd_23 := Lib.hid (RdB.below rd_16.out hb)
  clear rd_16
  have s_24 := Lib.hid (Blk.keep s_17.out hb)
  clear s_17
  have a_25 := Lib.hid (Blk.keep a_18.out hb)
  clear a_18
  have b_26 := Lib.hid (Blk.keep b_19.out hb)
  clear b_19
  have u_27 := Lib.hid (Blk.keep u_20.out hb)
  clear u_20
  clear hb
  have z_28 : (w_21).cell? ⟨w.heap.size, 0, none⟩ = some (.int .i64 P) := Blk.cell s_24.out 0
  have z_29 : (w_21).cell? ⟨w.heap.size, 1, none⟩ = some (.slice A n k) := Blk.cell s_24.out 1
  have z_30 : (w_21).cell? ⟨w.heap.size + 1, 0, none⟩ = some (.int .i64 a) := Blk.cell a_25.out 0
  have z_31 : (w_21).cell? ⟨w.heap.size + 1 + 1, 0, none⟩ = some (.int .i64 b) := Blk.cell b_26.out 0
  have z_32 : (w_21).cell? ⟨w.heap.size + 1 + 1 + 1, 0, none⟩ = some (.bool u) := Blk.cell u_27.out 0
  have hc := Doubt_any P A n k l _ rd_23.out hn
  rw [E1.out] at hc
  unfold RetI at hc; dsimp only at hc
  have HC := Lib.hid hc; clear hc
  go_wp2_with fail
  refine HC.out.mono ?_
  rintro e w_33 ⟨Ad, nd, cd, rfl, ho, hb⟩
  clear HC
  clear z_28 z_29 z_30 z_31 z_32
  have ow_34 := Lib.hid (owns_base ho (bel_22.out.size))
  have bel_35 := Lib.hid (Below.trans bel_22.out (Below.mono hb (bel_22.out.size)))
  clear bel_22
  have rd_36 := Lib.hid (RdB.below rd_23.out hb)
  clear rd_23
  have s_37 := Lib.hid (Blk.keep s_24.out hb)
  clear s_24
  have a_38 := Lib.hid (Blk.keep a_25.out hb)
  clear a_25
  have b_39 := Lib.hid (Blk.keep b_26.out hb)
  clear b_26
  have u_40 := Lib.hid (Blk.keep u_27.out hb)
  clear u_27
  have d_41 := Lib.hid ((OwnI.rd ho).1)
  obtain rfl : nd = 0 := d_41.out.len.symm
  clear ho hb
  have z_42 : (w_33).cell? ⟨w.heap.size, 0, none⟩ = some (.int .i64 P) := Blk.cell s_37.out 0
  have z_43 : (w_33).cell? ⟨w.heap.size, 1, none⟩ = some (.slice A n k) := Blk.cell s_37.out 1
  have z_44 : (w_33).cell? ⟨w.heap.size + 1, 0, none⟩ = some (.int .i64 a) := Blk.cell a_38.out 0
  have z_45 : (w_33).cell? ⟨w.heap.size + 1 + 1, 0, none⟩ = some (.int .i64 b) := Blk.cell b_39.out 0
  have z_46 : (w_33).cell? ⟨w.heap.size + 1 + 1 + 1, 0, none⟩ = some (.bool u) := Blk.cell u_40.out 0
  go_wp2_with fail
  refine (mend_any (w.heap.size + 1 + 1 + 1) (w.heap.size + 1) (w.heap.size + 1 + 1) P a b u A n k l _ rd_36.out hn u_40.out a_38.out b_39.out).mono ?_
  rintro e w_47 ⟨x_, t_, q_, rfl, hv_, hb⟩
  clear z_42 z_43 z_44 z_45 z_46
  have bel_48 := Lib.hid (Below.trans bel_35.out (Below.mono hb (bel_35.out.size)))
  clear bel_35
  have rd_49 := Lib.hid (RdB.below rd_36.out hb)
  clear rd_36
  have s_50 := Lib.hid (Blk.keep s_37.out hb)
  clear s_37
  have a_51 := Lib.hid (Blk.keep a_38.out hb)
  clear a_38
  have b_52 := Lib.hid (Blk.keep b_39.out hb)
  clear b_39
  have u_53 := Lib.hid (Blk.keep u_40.out hb)
  clear u_40
  have ownd_54 := Lib.hid (owns_below ow_34.out hb)
  clear ow_34
  have d_55 := Lib.hid (RdI.below d_41.out hb)
  clear d_41
  clear hb
  obtain ⟨e0_, e1_, e2_⟩ := E2.out _ _ _ hv_; clear hv_
  replace e0_ := e0_.symm; subst e0_
  replace e1_ := e1_.symm; subst e1_
  replace e2_ := e2_.symm; subst e2_
  have z_56 : (w_47).cell? ⟨w.heap.size, 0, none⟩ = some (.int .i64 P) := Blk.cell s_50.out 0
  have z_57 : (w_47).cell? ⟨w.heap.size, 1, none⟩ = some (.slice A n k) := Blk.cell s_50.out 1
  have z_58 : (w_47).cell? ⟨w.heap.size + 1, 0, none⟩ = some (.int .i64 a) := Blk.cell a_51.out 0
  have z_59 : (w_47).cell? ⟨w.heap.size + 1 + 1, 0, none⟩ = some (.int .i64 b) := Blk.cell b_52.out 0
  have z_60 : (w_47).cell? ⟨w.heap.size + 1 + 1 + 1, 0, none⟩ = some (.bool u) := Blk.cell u_53.out 0
  have hc := Rests_any P a b u A n k l _ rd_49.out hn
  rw [E3.out] at hc
  unfold RetL at hc; dsimp only at hc
  have HC := Lib.hid hc; clear hc
  go_wp2_with fail
  refine HC.out.mono ?_
  rintro e w_61 ⟨Av, nv, cv, rfl, ho, hb⟩
  clear HC
  clear z_56 z_57 z_58 z_59 z_60
  have ow_62 := Lib.hid (owns_base ho (bel_48.out.size))
  have bel_63 := Lib.hid (Below.trans bel_48.out (Below.mono hb (bel_48.out.size)))
  clear bel_48
  have rd_64 := Lib.hid (RdB.below rd_49.out hb)
  clear rd_49
  have s_65 := Lib.hid (Blk.keep s_50.out hb)
  clear s_50
  have a_66 := Lib.hid (Blk.keep a_51.out hb)
  clear a_51
  have b_67 := Lib.hid (Blk.keep b_52.out hb)
  clear b_52
  have u_68 := Lib.hid (Blk.keep u_53.out hb)
  clear u_53
  have ownd_69 := Lib.hid (owns_below ownd_54.out hb)
  clear ownd_54
  have d_70 := Lib.hid (RdI.below d_55.out hb)
  clear d_55
  have v_71 := Lib.hid ((OwnI.rd ho).1)
  obtain rfl : nv = 0 := v_71.out.len.symm
  clear ho hb
  have z_72 : (w_61).cell? ⟨w.heap.size, 0, none⟩ = some (.int .i64 P) := Blk.cell s_65.out 0
  have z_73 : (w_61).cell? ⟨w.heap.size, 1, none⟩ = some (.slice A n k) := Blk.cell s_65.out 1
  have z_74 : (w_61).cell? ⟨w.heap.size + 1, 0, none⟩ = some (.int .i64 a) := Blk.cell a_66.out 0
  have z_75 : (w_61).cell? ⟨w.heap.size + 1 + 1, 0, none⟩ = some (.int .i64 b) := Blk.cell b_67.out 0
  have z_76 : (w_61).cell? ⟨w.heap.size + 1 + 1 + 1, 0, none⟩ = some (.bool u) := Blk.cell u_68.out 0
  go_wp2_with fail
  refine (alive_ok _).mono ?_
  rintro e w_77 ⟨rfl, hb⟩
  clear z_72 z_73 z_74 z_75 z_76
  have bel_78 := Lib.hid (Below.trans bel_63.out (Below.mono hb (bel_63.out.size)))
  clear bel_63
  have rd_79 := Lib.hid (RdB.below rd_64.out hb)
  clear rd_64
  have s_80 := Lib.hid (Blk.keep s_65.out hb)
  clear s_65
  have a_81 := Lib.hid (Blk.keep a_66.out hb)
  clear a_66
  have b_82 := Lib.hid (Blk.keep b_67.out hb)
  clear b_67
  have u_83 := Lib.hid (Blk.keep u_68.out hb)
  clear u_68
  have ownd_84 := Lib.hid (owns_below ownd_69.out hb)
  clear ownd_69
  have d_85 := Lib.hid (RdI.below d_70.out hb)
  clear d_70
  have ownv_86 := Lib.hid (owns_below ow_62.out hb)
  clear ow_62
  have v_87 := Lib.hid (RdI.below v_71.out hb)
  clear v_71
  clear hb
  go_wp2
  go_ret
  exact ⟨rfl, bel_78.out⟩

set_option maxRecDepth 100000 in
set_option maxHeartbeats 8000000 in
theorem mi_none2 (P a b : Int) (u : Bool) (A : Option Addr) (n k : Nat) (l : List Bnd) (w : World) (hr : RdB w A n k l) (hn : n ≤ maxLen) (hw : (decide (P ≤ 9) && decide (n ≤ 20)) = true) (E1 : Hid (doubtV P l = ([], false, 0))) (X : Int) (E2 : Hid (∀ x t q, endV P l a b u = .tuple #[.int .i64 x, .bool t, .int .i64 q] → x = X ∧ t = false ∧ q = 0)) (E3 : Hid (restsV P l a b u = ([], 0))) :
    Calls Try.prog 14 #[.agg #[.int .i64 P, .slice A n k], .int .i64 a, .int .i64 b, .bool u] w fun e w' => e = .returned (.bool true) ∧ Below w.heap.size w w' := by
  go_enter Try.func14, Try.ntmps14
  have bel_1 := Lib.hid (show Below w.heap.size w w from Below.refl _ w)
  have rd_2 := Lib.hid (hr)
  clear hr
  have bel_3 := Lib.hid (Below.alloc bel_1.out (bel_1.out.size) (.cells #[.int .i64 P, .slice A n k] 24))
  clear bel_1
  have rd_4 := Lib.hid (RdB.alloc rd_2.out (.cells #[.int .i64 P, .slice A n k] 24))
  clear rd_2
  have s_5 := Lib.hid (Blk.new w 24 #[.int .i64 P, .slice A n k])
  have bel_6 := Lib.hid (Below.alloc bel_3.out (bel_3.out.size) (.cells #[.int .i64 a] 3))
  clear bel_3
  have rd_7 := Lib.hid (RdB.alloc rd_4.out (.cells #[.int .i64 a] 3))
  clear rd_4
  have s_8 := Lib.hid (Blk.alloc s_5.out (.cells #[.int .i64 a] 3))
  clear s_5
  have nb_ := Blk.new (w.alloc (.cells #[.int .i64 P, .slice A n k] 24)) 3 #[.int .i64 a]
  simp only [World.size_alloc] at nb_
  have a_9 := Lib.hid nb_; clear nb_
  have bel_10 := Lib.hid (Below.alloc bel_6.out (bel_6.out.size) (.cells #[.int .i64 b] 3))
  clear bel_6
  have rd_11 := Lib.hid (RdB.alloc rd_7.out (.cells #[.int .i64 b] 3))
  clear rd_7
  have s_12 := Lib.hid (Blk.alloc s_8.out (.cells #[.int .i64 b] 3))
  clear s_8
  have a_13 := Lib.hid (Blk.alloc a_9.out (.cells #[.int .i64 b] 3))
  clear a_9
  have nb_ := Blk.new ((w.alloc (.cells #[.int .i64 P, .slice A n k] 24)).alloc (.cells #[.int .i64 a] 3)) 3 #[.int .i64 b]
  simp only [World.size_alloc] at nb_
  have b_14 := Lib.hid nb_; clear nb_
  have bel_15 := Lib.hid (Below.alloc bel_10.out (bel_10.out.size) (.cells #[.bool u] 4))
  clear bel_10
  have rd_16 := Lib.hid (RdB.alloc rd_11.out (.cells #[.bool u] 4))
  clear rd_11
  have s_17 := Lib.hid (Blk.alloc s_12.out (.cells #[.bool u] 4))
  clear s_12
  have a_18 := Lib.hid (Blk.alloc a_13.out (.cells #[.bool u] 4))
  clear a_13
  have b_19 := Lib.hid (Blk.alloc b_14.out (.cells #[.bool u] 4))
  clear b_14
  have nb_ := Blk.new (((w.alloc (.cells #[.int .i64 P, .slice A n k] 24)).alloc (.cells #[.int .i64 a] 3)).alloc (.cells #[.int .i64 b] 3)) 4 #[.bool u]
  simp only [World.size_alloc] at nb_
  have u_20 := Lib.hid nb_; clear nb_
  have hc := (show Calls Try.prog 43 #[.agg #[.int .i64 P, .slice A n k]] (((((w.alloc (.cells #[.int .i64 P, .slice A n k] 24)).alloc (.cells #[.int .i64 a] 3)).alloc (.cells #[.int .i64 b] 3)).alloc (.cells #[.bool u] 4))) fun e w' => e = .returned (.bool true) ∧ Below (((((w.alloc (.cells #[.int .i64 P, .slice A n k] 24)).alloc (.cells #[.int .i64 a] 3)).alloc (.cells #[.int .i64 b] 3)).alloc (.cells #[.bool u] 4))).heap.size (((((w.alloc (.cells #[.int .i64 P, .slice A n k] 24)).alloc (.cells #[.int .i64 a] 3)).alloc (.cells #[.int .i64 b] 3)).alloc (.cells #[.bool u] 4))) w' from by have h := small_any P A n k (((((w.alloc (.cells #[.int .i64 P, .slice A n k] 24)).alloc (.cells #[.int .i64 a] 3)).alloc (.cells #[.int .i64 b] 3)).alloc (.cells #[.bool u] 4))); rw [show (decide (P ≤ 9) && decide (n ≤ 20)) = true from hw] at h; exact h)
  have HC := Lib.hid hc; clear hc
  go_wp2_with fail
  refine HC.out.mono ?_
  rintro e w_21 ⟨rfl, hb⟩
  clear HC
  have bel_22 := Lib.hid (Below.trans bel_15.out (Below.mono hb (bel_15.out.size)))
  clear bel_15
  have rd_23 := Lib.hid (RdB.below rd_16.out hb)
  clear rd_16
  have s_24 := Lib.hid (Blk.keep s_17.out hb)
  clear s_17
  have a_25 := Lib.hid (Blk.keep a_18.out hb)
  clear a_18
  have b_26 := Lib.hid (Blk.keep b_19.out hb)
  clear b_19
  have u_27 := Lib.hid (Blk.keep u_20.out hb)
  clear u_20
  clear hb
  have z_28 : (w_21).cell? ⟨w.heap.size, 0, none⟩ = some (.int .i64 P) := Blk.cell s_24.out 0
  have z_29 : (w_21).cell? ⟨w.heap.size, 1, none⟩ = some (.slice A n k) := Blk.cell s_24.out 1
  have z_30 : (w_21).cell? ⟨w.heap.size + 1, 0, none⟩ = some (.int .i64 a) := Blk.cell a_25.out 0
  have z_31 : (w_21).cell? ⟨w.heap.size + 1 + 1, 0, none⟩ = some (.int .i64 b) := Blk.cell b_26.out 0
  have z_32 : (w_21).cell? ⟨w.heap.size + 1 + 1 + 1, 0, none⟩ = some (.bool u) := Blk.cell u_27.out 0
  have hc := Doubt_any P A n k l _ rd_23.out hn
  rw [E1.out] at hc
  unfold RetI at hc; dsimp only at hc
  have HC := Lib.hid hc; clear hc
  go_wp2_with fail
  refine HC.out.mono ?_
  rintro e w_33 ⟨Ad, nd, cd, rfl, ho, hb⟩
  clear HC
  clear z_28 z_29 z_30 z_31 z_32
  have ow_34 := Lib.hid (owns_base ho (bel_22.out.size))
  have bel_35 := Lib.hid (Below.trans bel_22.out (Below.mono hb (bel_22.out.size)))
  clear bel_22
  have rd_36 := Lib.hid (RdB.below rd_23.out hb)
  clear rd_23
  have s_37 := Lib.hid (Blk.keep s_24.out hb)
  clear s_24
  have a_38 := Lib.hid (Blk.keep a_25.out hb)
  clear a_25
  have b_39 := Lib.hid (Blk.keep b_26.out hb)
  clear b_26
  have u_40 := Lib.hid (Blk.keep u_27.out hb)
  clear u_27
  have d_41 := Lib.hid ((OwnI.rd ho).1)
  obtain rfl : nd = 0 := d_41.out.len.symm
  clear ho hb
  have z_42 : (w_33).cell? ⟨w.heap.size, 0, none⟩ = some (.int .i64 P) := Blk.cell s_37.out 0
  have z_43 : (w_33).cell? ⟨w.heap.size, 1, none⟩ = some (.slice A n k) := Blk.cell s_37.out 1
  have z_44 : (w_33).cell? ⟨w.heap.size + 1, 0, none⟩ = some (.int .i64 a) := Blk.cell a_38.out 0
  have z_45 : (w_33).cell? ⟨w.heap.size + 1 + 1, 0, none⟩ = some (.int .i64 b) := Blk.cell b_39.out 0
  have z_46 : (w_33).cell? ⟨w.heap.size + 1 + 1 + 1, 0, none⟩ = some (.bool u) := Blk.cell u_40.out 0
  go_wp2_with fail
  refine (mend_any (w.heap.size + 1 + 1 + 1) (w.heap.size + 1) (w.heap.size + 1 + 1) P a b u A n k l _ rd_36.out hn u_40.out a_38.out b_39.out).mono ?_
  rintro e w_47 ⟨x_, t_, q_, rfl, hv_, hb⟩
  clear z_42 z_43 z_44 z_45 z_46
  have bel_48 := Lib.hid (Below.trans bel_35.out (Below.mono hb (bel_35.out.size)))
  clear bel_35
  have rd_49 := Lib.hid (RdB.below rd_36.out hb)
  clear rd_36
  have s_50 := Lib.hid (Blk.keep s_37.out hb)
  clear s_37
  have a_51 := Lib.hid (Blk.keep a_38.out hb)
  clear a_38
  have b_52 := Lib.hid (Blk.keep b_39.out hb)
  clear b_39
  have u_53 := Lib.hid (Blk.keep u_40.out hb)
  clear u_40
  have ownd_54 := Lib.hid (owns_below ow_34.out hb)
  clear ow_34
  have d_55 := Lib.hid (RdI.below d_41.out hb)
  clear d_41
  clear hb
  obtain ⟨e0_, e1_, e2_⟩ := E2.out _ _ _ hv_; clear hv_
  replace e0_ := e0_.symm; subst e0_
  replace e1_ := e1_.symm; subst e1_
  replace e2_ := e2_.symm; subst e2_
  have z_56 : (w_47).cell? ⟨w.heap.size, 0, none⟩ = some (.int .i64 P) := Blk.cell s_50.out 0
  have z_57 : (w_47).cell? ⟨w.heap.size, 1, none⟩ = some (.slice A n k) := Blk.cell s_50.out 1
  have z_58 : (w_47).cell? ⟨w.heap.size + 1, 0, none⟩ = some (.int .i64 a) := Blk.cell a_51.out 0
  have z_59 : (w_47).cell? ⟨w.heap.size + 1 + 1, 0, none⟩ = some (.int .i64 b) := Blk.cell b_52.out 0
  have z_60 : (w_47).cell? ⟨w.heap.size + 1 + 1 + 1, 0, none⟩ = some (.bool u) := Blk.cell u_53.out 0
  have hc := Rests_any P a b u A n k l _ rd_49.out hn
  rw [E3.out] at hc
  unfold RetL at hc; dsimp only at hc
  have HC := Lib.hid hc; clear hc
  go_wp2_with fail
  refine HC.out.mono ?_
  rintro e w_61 ⟨Av, nv, cv, rfl, ho, hb⟩
  clear HC
  clear z_56 z_57 z_58 z_59 z_60
  have ow_62 := Lib.hid (owns_base ho (bel_48.out.size))
  have bel_63 := Lib.hid (Below.trans bel_48.out (Below.mono hb (bel_48.out.size)))
  clear bel_48
  have rd_64 := Lib.hid (RdB.below rd_49.out hb)
  clear rd_49
  have s_65 := Lib.hid (Blk.keep s_50.out hb)
  clear s_50
  have a_66 := Lib.hid (Blk.keep a_51.out hb)
  clear a_51
  have b_67 := Lib.hid (Blk.keep b_52.out hb)
  clear b_52
  have u_68 := Lib.hid (Blk.keep u_53.out hb)
  clear u_53
  have ownd_69 := Lib.hid (owns_below ownd_54.out hb)
  clear ownd_54
  have d_70 := Lib.hid (RdI.below d_55.out hb)
  clear d_55
  have v_71 := Lib.hid ((OwnI.rd ho).1)
  obtain rfl : nv = 0 := v_71.out.len.symm
  clear ho hb
  have z_72 : (w_61).cell? ⟨w.heap.size, 0, none⟩ = some (.int .i64 P) := Blk.cell s_65.out 0
  have z_73 : (w_61).cell? ⟨w.heap.size, 1, none⟩ = some (.slice A n k) := Blk.cell s_65.out 1
  have z_74 : (w_61).cell? ⟨w.heap.size + 1, 0, none⟩ = some (.int .i64 a) := Blk.cell a_66.out 0
  have z_75 : (w_61).cell? ⟨w.heap.size + 1 + 1, 0, none⟩ = some (.int .i64 b) := Blk.cell b_67.out 0
  have z_76 : (w_61).cell? ⟨w.heap.size + 1 + 1 + 1, 0, none⟩ = some (.bool u) := Blk.cell u_68.out 0
  go_wp2_with fail
  refine (alive_ok _).mono ?_
  rintro e w_77 ⟨rfl, hb⟩
  clear z_72 z_73 z_74 z_75 z_76
  have bel_78 := Lib.hid (Below.trans bel_63.out (Below.mono hb (bel_63.out.size)))
  clear bel_63
  have rd_79 := Lib.hid (RdB.below rd_64.out hb)
  clear rd_64
  have s_80 := Lib.hid (Blk.keep s_65.out hb)
  clear s_65
  have a_81 := Lib.hid (Blk.keep a_66.out hb)
  clear a_66
  have b_82 := Lib.hid (Blk.keep b_67.out hb)
  clear b_67
  have u_83 := Lib.hid (Blk.keep u_68.out hb)
  clear u_68
  have ownd_84 := Lib.hid (owns_below ownd_69.out hb)
  clear ownd_69
  have d_85 := Lib.hid (RdI.below d_70.out hb)
  clear d_70
  have ownv_86 := Lib.hid (owns_below ow_62.out hb)
  clear ow_62
  have v_87 := Lib.hid (RdI.below v_71.out hb)
  clear v_71
  clear hb
  go_wp2
  go_ret
  exact ⟨rfl, bel_78.out⟩

set_option maxRecDepth 100000 in
set_option maxHeartbeats 8000000 in
theorem mi_ok (P a b : Int) (u : Bool) (A : Option Addr) (n k : Nat) (l : List Bnd) (w : World) (hr : RdB w A n k l) (hn : n ≤ maxLen) (hw : (decide (P ≤ 9) && decide (n ≤ 20)) = true) (E1 : Hid (doubtV P l = ([], false, 0))) (N : Int) (E2 : Hid (∀ x t q, endV P l a b u = .tuple #[.int .i64 x, .bool t, .int .i64 q] → x = N ∧ t = true ∧ q = 0)) (V : List Int) (hV : V.length ≤ 1000) (E3 : Hid (restsV P l a b u = (V, 0))) (L1 : List Bnd) (HC0 : Hid (chk P l = 0)) (HS : Hid (∀ v ∈ V, Wf v)) (HL1 : Hid (onlyL l V = L1))
    (E4 : Hid (∀ x t q, endV P L1 a b u = .tuple #[.int .i64 x, .bool t, .int .i64 q] → x = N ∧ t = true ∧ q = 0)) (H : Hid (∀ id ∈ V, withoutC P L1 id = 0 ∧ ∃ M t2, (∀ x t q, endV P (dropL L1 [id]) a b u = .tuple #[.int .i64 x, .bool t, .int .i64 q] → x = M ∧ t = t2 ∧ q = 0) ∧ (t2 && decide (M = N)) = false)) :
    Calls Try.prog 14 #[.agg #[.int .i64 P, .slice A n k], .int .i64 a, .int .i64 b, .bool u] w fun e w' => e = .returned (.bool true) ∧ Below w.heap.size w w' := by
  go_enter Try.func14, Try.ntmps14
  have bel_1 := Lib.hid (show Below w.heap.size w w from Below.refl _ w)
  have rd_2 := Lib.hid (hr)
  clear hr
  have bel_3 := Lib.hid (Below.alloc bel_1.out (bel_1.out.size) (.cells #[.int .i64 P, .slice A n k] 24))
  clear bel_1
  have rd_4 := Lib.hid (RdB.alloc rd_2.out (.cells #[.int .i64 P, .slice A n k] 24))
  clear rd_2
  have s_5 := Lib.hid (Blk.new w 24 #[.int .i64 P, .slice A n k])
  have bel_6 := Lib.hid (Below.alloc bel_3.out (bel_3.out.size) (.cells #[.int .i64 a] 3))
  clear bel_3
  have rd_7 := Lib.hid (RdB.alloc rd_4.out (.cells #[.int .i64 a] 3))
  clear rd_4
  have s_8 := Lib.hid (Blk.alloc s_5.out (.cells #[.int .i64 a] 3))
  clear s_5
  have nb_ := Blk.new (w.alloc (.cells #[.int .i64 P, .slice A n k] 24)) 3 #[.int .i64 a]
  simp only [World.size_alloc] at nb_
  have a_9 := Lib.hid nb_; clear nb_
  have bel_10 := Lib.hid (Below.alloc bel_6.out (bel_6.out.size) (.cells #[.int .i64 b] 3))
  clear bel_6
  have rd_11 := Lib.hid (RdB.alloc rd_7.out (.cells #[.int .i64 b] 3))
  clear rd_7
  have s_12 := Lib.hid (Blk.alloc s_8.out (.cells #[.int .i64 b] 3))
  clear s_8
  have a_13 := Lib.hid (Blk.alloc a_9.out (.cells #[.int .i64 b] 3))
  clear a_9
  have nb_ := Blk.new ((w.alloc (.cells #[.int .i64 P, .slice A n k] 24)).alloc (.cells #[.int .i64 a] 3)) 3 #[.int .i64 b]
  simp only [World.size_alloc] at nb_
  have b_14 := Lib.hid nb_; clear nb_
  have bel_15 := Lib.hid (Below.alloc bel_10.out (bel_10.out.size) (.cells #[.bool u] 4))
  clear bel_10
  have rd_16 := Lib.hid (RdB.alloc rd_11.out (.cells #[.bool u] 4))
  clear rd_11
  have s_17 := Lib.hid (Blk.alloc s_12.out (.cells #[.bool u] 4))
  clear s_12
  have a_18 := Lib.hid (Blk.alloc a_13.out (.cells #[.bool u] 4))
  clear a_13
  have b_19 := Lib.hid (Blk.alloc b_14.out (.cells #[.bool u] 4))
  clear b_14
  have nb_ := Blk.new (((w.alloc (.cells #[.int .i64 P, .slice A n k] 24)).alloc (.cells #[.int .i64 a] 3)).alloc (.cells #[.int .i64 b] 3)) 4 #[.bool u]
  simp only [World.size_alloc] at nb_
  have u_20 := Lib.hid nb_; clear nb_
  have hc := (show Calls Try.prog 43 #[.agg #[.int .i64 P, .slice A n k]] (((((w.alloc (.cells #[.int .i64 P, .slice A n k] 24)).alloc (.cells #[.int .i64 a] 3)).alloc (.cells #[.int .i64 b] 3)).alloc (.cells #[.bool u] 4))) fun e w' => e = .returned (.bool true) ∧ Below (((((w.alloc (.cells #[.int .i64 P, .slice A n k] 24)).alloc (.cells #[.int .i64 a] 3)).alloc (.cells #[.int .i64 b] 3)).alloc (.cells #[.bool u] 4))).heap.size (((((w.alloc (.cells #[.int .i64 P, .slice A n k] 24)).alloc (.cells #[.int .i64 a] 3)).alloc (.cells #[.int .i64 b] 3)).alloc (.cells #[.bool u] 4))) w' from by have h := small_any P A n k (((((w.alloc (.cells #[.int .i64 P, .slice A n k] 24)).alloc (.cells #[.int .i64 a] 3)).alloc (.cells #[.int .i64 b] 3)).alloc (.cells #[.bool u] 4))); rw [show (decide (P ≤ 9) && decide (n ≤ 20)) = true from hw] at h; exact h)
  have HC := Lib.hid hc; clear hc
  go_wp2_with fail
  refine HC.out.mono ?_
  rintro e w_21 ⟨rfl, hb⟩
  clear HC
  have bel_22 := Lib.hid (Below.trans bel_15.out (Below.mono hb (bel_15.out.size)))
  clear bel_15
  have rd_23 := Lib.hid (RdB.below rd_16.out hb)
  clear rd_16
  have s_24 := Lib.hid (Blk.keep s_17.out hb)
  clear s_17
  have a_25 := Lib.hid (Blk.keep a_18.out hb)
  clear a_18
  have b_26 := Lib.hid (Blk.keep b_19.out hb)
  clear b_19
  have u_27 := Lib.hid (Blk.keep u_20.out hb)
  clear u_20
  clear hb
  have z_28 : (w_21).cell? ⟨w.heap.size, 0, none⟩ = some (.int .i64 P) := Blk.cell s_24.out 0
  have z_29 : (w_21).cell? ⟨w.heap.size, 1, none⟩ = some (.slice A n k) := Blk.cell s_24.out 1
  have z_30 : (w_21).cell? ⟨w.heap.size + 1, 0, none⟩ = some (.int .i64 a) := Blk.cell a_25.out 0
  have z_31 : (w_21).cell? ⟨w.heap.size + 1 + 1, 0, none⟩ = some (.int .i64 b) := Blk.cell b_26.out 0
  have z_32 : (w_21).cell? ⟨w.heap.size + 1 + 1 + 1, 0, none⟩ = some (.bool u) := Blk.cell u_27.out 0
  have hc := Doubt_any P A n k l _ rd_23.out hn
  rw [E1.out] at hc
  unfold RetI at hc; dsimp only at hc
  have HC := Lib.hid hc; clear hc
  go_wp2_with fail
  refine HC.out.mono ?_
  rintro e w_33 ⟨Ad, nd, cd, rfl, ho, hb⟩
  clear HC
  clear z_28 z_29 z_30 z_31 z_32
  have ow_34 := Lib.hid (owns_base ho (bel_22.out.size))
  have bel_35 := Lib.hid (Below.trans bel_22.out (Below.mono hb (bel_22.out.size)))
  clear bel_22
  have rd_36 := Lib.hid (RdB.below rd_23.out hb)
  clear rd_23
  have s_37 := Lib.hid (Blk.keep s_24.out hb)
  clear s_24
  have a_38 := Lib.hid (Blk.keep a_25.out hb)
  clear a_25
  have b_39 := Lib.hid (Blk.keep b_26.out hb)
  clear b_26
  have u_40 := Lib.hid (Blk.keep u_27.out hb)
  clear u_27
  have d_41 := Lib.hid ((OwnI.rd ho).1)
  obtain rfl : nd = 0 := d_41.out.len.symm
  clear ho hb
  have z_42 : (w_33).cell? ⟨w.heap.size, 0, none⟩ = some (.int .i64 P) := Blk.cell s_37.out 0
  have z_43 : (w_33).cell? ⟨w.heap.size, 1, none⟩ = some (.slice A n k) := Blk.cell s_37.out 1
  have z_44 : (w_33).cell? ⟨w.heap.size + 1, 0, none⟩ = some (.int .i64 a) := Blk.cell a_38.out 0
  have z_45 : (w_33).cell? ⟨w.heap.size + 1 + 1, 0, none⟩ = some (.int .i64 b) := Blk.cell b_39.out 0
  have z_46 : (w_33).cell? ⟨w.heap.size + 1 + 1 + 1, 0, none⟩ = some (.bool u) := Blk.cell u_40.out 0
  go_wp2_with fail
  refine (mend_any (w.heap.size + 1 + 1 + 1) (w.heap.size + 1) (w.heap.size + 1 + 1) P a b u A n k l _ rd_36.out hn u_40.out a_38.out b_39.out).mono ?_
  rintro e w_47 ⟨x_, t_, q_, rfl, hv_, hb⟩
  clear z_42 z_43 z_44 z_45 z_46
  have bel_48 := Lib.hid (Below.trans bel_35.out (Below.mono hb (bel_35.out.size)))
  clear bel_35
  have rd_49 := Lib.hid (RdB.below rd_36.out hb)
  clear rd_36
  have s_50 := Lib.hid (Blk.keep s_37.out hb)
  clear s_37
  have a_51 := Lib.hid (Blk.keep a_38.out hb)
  clear a_38
  have b_52 := Lib.hid (Blk.keep b_39.out hb)
  clear b_39
  have u_53 := Lib.hid (Blk.keep u_40.out hb)
  clear u_40
  have ownd_54 := Lib.hid (owns_below ow_34.out hb)
  clear ow_34
  have d_55 := Lib.hid (RdI.below d_41.out hb)
  clear d_41
  clear hb
  obtain ⟨e0_, e1_, e2_⟩ := E2.out _ _ _ hv_; clear hv_
  replace e0_ := e0_.symm; subst e0_
  replace e1_ := e1_.symm; subst e1_
  replace e2_ := e2_.symm; subst e2_
  have z_56 : (w_47).cell? ⟨w.heap.size, 0, none⟩ = some (.int .i64 P) := Blk.cell s_50.out 0
  have z_57 : (w_47).cell? ⟨w.heap.size, 1, none⟩ = some (.slice A n k) := Blk.cell s_50.out 1
  have z_58 : (w_47).cell? ⟨w.heap.size + 1, 0, none⟩ = some (.int .i64 a) := Blk.cell a_51.out 0
  have z_59 : (w_47).cell? ⟨w.heap.size + 1 + 1, 0, none⟩ = some (.int .i64 b) := Blk.cell b_52.out 0
  have z_60 : (w_47).cell? ⟨w.heap.size + 1 + 1 + 1, 0, none⟩ = some (.bool u) := Blk.cell u_53.out 0
  have hc := Rests_any P a b u A n k l _ rd_49.out hn
  rw [E3.out] at hc
  unfold RetL at hc; dsimp only at hc
  have HC := Lib.hid hc; clear hc
  go_wp2_with fail
  refine HC.out.mono ?_
  rintro e w_61 ⟨Av, nv, cv, rfl, ho, hb⟩
  clear HC
  clear z_56 z_57 z_58 z_59 z_60
  have ow_62 := Lib.hid (owns_base ho (bel_48.out.size))
  have bel_63 := Lib.hid (Below.trans bel_48.out (Below.mono hb (bel_48.out.size)))
  clear bel_48
  have rd_64 := Lib.hid (RdB.below rd_49.out hb)
  clear rd_49
  have s_65 := Lib.hid (Blk.keep s_50.out hb)
  clear s_50
  have a_66 := Lib.hid (Blk.keep a_51.out hb)
  clear a_51
  have b_67 := Lib.hid (Blk.keep b_52.out hb)
  clear b_52
  have u_68 := Lib.hid (Blk.keep u_53.out hb)
  clear u_53
  have ownd_69 := Lib.hid (owns_below ownd_54.out hb)
  clear ownd_54
  have d_70 := Lib.hid (RdI.below d_55.out hb)
  clear d_55
  have v_71 := Lib.hid ((OwnI.rd ho).1)
  obtain rfl : nv = V.length := v_71.out.len.symm
  clear ho hb
  have z_72 : (w_61).cell? ⟨w.heap.size, 0, none⟩ = some (.int .i64 P) := Blk.cell s_65.out 0
  have z_73 : (w_61).cell? ⟨w.heap.size, 1, none⟩ = some (.slice A n k) := Blk.cell s_65.out 1
  have z_74 : (w_61).cell? ⟨w.heap.size + 1, 0, none⟩ = some (.int .i64 a) := Blk.cell a_66.out 0
  have z_75 : (w_61).cell? ⟨w.heap.size + 1 + 1, 0, none⟩ = some (.int .i64 b) := Blk.cell b_67.out 0
  have z_76 : (w_61).cell? ⟨w.heap.size + 1 + 1 + 1, 0, none⟩ = some (.bool u) := Blk.cell u_68.out 0
  have hc := Calls.mono (Only_any P A Av n k V.length cv l V _ rd_64.out hn HS.out v_71.out hV) (fun e w' h => retT_of h)
  rw [HC0.out] at hc
  rw [sp_zero] at hc
  rw [sl_zero] at hc
  rw [HL1.out] at hc
  have HC := Lib.hid hc; clear hc
  go_wp2_with fail
  refine HC.out.mono ?_
  rintro e w_77 ⟨At, nt, ct, rfl, ho, hb⟩
  clear HC
  clear z_72 z_73 z_74 z_75 z_76
  have ow_78 := Lib.hid (owns_base ho (bel_63.out.size))
  have hmt := ownB_max ho
  have bel_79 := Lib.hid (Below.trans bel_63.out (Below.mono hb (bel_63.out.size)))
  clear bel_63
  have rd_80 := Lib.hid (RdB.below rd_64.out hb)
  clear rd_64
  have s_81 := Lib.hid (Blk.keep s_65.out hb)
  clear s_65
  have a_82 := Lib.hid (Blk.keep a_66.out hb)
  clear a_66
  have b_83 := Lib.hid (Blk.keep b_67.out hb)
  clear b_67
  have u_84 := Lib.hid (Blk.keep u_68.out hb)
  clear u_68
  have ownd_85 := Lib.hid (owns_below ownd_69.out hb)
  clear ownd_69
  have d_86 := Lib.hid (RdI.below d_70.out hb)
  clear d_70
  have ownv_87 := Lib.hid (owns_below ow_62.out hb)
  clear ow_62
  have v_88 := Lib.hid (RdI.below v_71.out hb)
  clear v_71
  have t_89 := Lib.hid ((OwnB.rd ho).1)
  clear ho hb
  have bel_90 := Lib.hid (Below.alloc bel_79.out (bel_79.out.size) (.cells #[.int .i64 P, .slice At nt ct] 24))
  clear bel_79
  have rd_91 := Lib.hid (RdB.alloc rd_80.out (.cells #[.int .i64 P, .slice At nt ct] 24))
  clear rd_80
  have s_92 := Lib.hid (Blk.alloc s_81.out (.cells #[.int .i64 P, .slice At nt ct] 24))
  clear s_81
  have a_93 := Lib.hid (Blk.alloc a_82.out (.cells #[.int .i64 P, .slice At nt ct] 24))
  clear a_82
  have b_94 := Lib.hid (Blk.alloc b_83.out (.cells #[.int .i64 P, .slice At nt ct] 24))
  clear b_83
  have u_95 := Lib.hid (Blk.alloc u_84.out (.cells #[.int .i64 P, .slice At nt ct] 24))
  clear u_84
  have ownd_96 := Lib.hid (World.ownsRow.alloc ownd_85.out (.cells #[.int .i64 P, .slice At nt ct] 24))
  clear ownd_85
  have d_97 := Lib.hid (RdI.alloc d_86.out (.cells #[.int .i64 P, .slice At nt ct] 24))
  clear d_86
  have ownv_98 := Lib.hid (World.ownsRow.alloc ownv_87.out (.cells #[.int .i64 P, .slice At nt ct] 24))
  clear ownv_87
  have v_99 := Lib.hid (RdI.alloc v_88.out (.cells #[.int .i64 P, .slice At nt ct] 24))
  clear v_88
  have ownt_100 := Lib.hid (World.ownsRow.alloc ow_78.out (.cells #[.int .i64 P, .slice At nt ct] 24))
  clear ow_78
  have t_101 := Lib.hid (RdB.alloc t_89.out (.cells #[.int .i64 P, .slice At nt ct] 24))
  clear t_89
  have st_102 := Lib.hid (Blk.new w_77 24 #[.int .i64 P, .slice At nt ct])
  have z_103 : ((w_77.alloc (.cells #[.int .i64 P, .slice At nt ct] 24))).cell? ⟨w.heap.size, 0, none⟩ = some (.int .i64 P) := Blk.cell s_92.out 0
  have z_104 : ((w_77.alloc (.cells #[.int .i64 P, .slice At nt ct] 24))).cell? ⟨w.heap.size, 1, none⟩ = some (.slice A n k) := Blk.cell s_92.out 1
  have z_105 : ((w_77.alloc (.cells #[.int .i64 P, .slice At nt ct] 24))).cell? ⟨w.heap.size + 1, 0, none⟩ = some (.int .i64 a) := Blk.cell a_93.out 0
  have z_106 : ((w_77.alloc (.cells #[.int .i64 P, .slice At nt ct] 24))).cell? ⟨w.heap.size + 1 + 1, 0, none⟩ = some (.int .i64 b) := Blk.cell b_94.out 0
  have z_107 : ((w_77.alloc (.cells #[.int .i64 P, .slice At nt ct] 24))).cell? ⟨w.heap.size + 1 + 1 + 1, 0, none⟩ = some (.bool u) := Blk.cell u_95.out 0
  have z_108 : ((w_77.alloc (.cells #[.int .i64 P, .slice At nt ct] 24))).cell? ⟨w_77.heap.size, 0, none⟩ = some (.int .i64 P) := Blk.cell st_102.out 0
  have z_109 : ((w_77.alloc (.cells #[.int .i64 P, .slice At nt ct] 24))).cell? ⟨w_77.heap.size, 1, none⟩ = some (.slice At nt ct) := Blk.cell st_102.out 1
  go_wp2_with fail
  refine (mend_any (w.heap.size + 1 + 1 + 1) (w.heap.size + 1) (w.heap.size + 1 + 1) P a b u At nt ct L1 _ t_101.out hmt u_95.out a_93.out b_94.out).mono ?_
  rintro e w_110 ⟨x_, t_, q_, rfl, hv_, hb⟩
  clear z_103 z_104 z_105 z_106 z_107 z_108 z_109
  have bel_111 := Lib.hid (Below.trans bel_90.out (Below.mono hb (bel_90.out.size)))
  clear bel_90
  have rd_112 := Lib.hid (RdB.below rd_91.out hb)
  clear rd_91
  have s_113 := Lib.hid (Blk.keep s_92.out hb)
  clear s_92
  have a_114 := Lib.hid (Blk.keep a_93.out hb)
  clear a_93
  have b_115 := Lib.hid (Blk.keep b_94.out hb)
  clear b_94
  have u_116 := Lib.hid (Blk.keep u_95.out hb)
  clear u_95
  have ownd_117 := Lib.hid (owns_below ownd_96.out hb)
  clear ownd_96
  have d_118 := Lib.hid (RdI.below d_97.out hb)
  clear d_97
  have ownv_119 := Lib.hid (owns_below ownv_98.out hb)
  clear ownv_98
  have v_120 := Lib.hid (RdI.below v_99.out hb)
  clear v_99
  have ownt_121 := Lib.hid (owns_below ownt_100.out hb)
  clear ownt_100
  have t_122 := Lib.hid (RdB.below t_101.out hb)
  clear t_101
  have st_123 := Lib.hid (Blk.keep st_102.out hb)
  clear st_102
  clear hb
  obtain ⟨e0_, e1_, e2_⟩ := E4.out _ _ _ hv_; clear hv_
  replace e0_ := e0_.symm; subst e0_
  replace e1_ := e1_.symm; subst e1_
  replace e2_ := e2_.symm; subst e2_
  have z_124 : (w_110).cell? ⟨w.heap.size, 0, none⟩ = some (.int .i64 P) := Blk.cell s_113.out 0
  have z_125 : (w_110).cell? ⟨w.heap.size, 1, none⟩ = some (.slice A n k) := Blk.cell s_113.out 1
  have z_126 : (w_110).cell? ⟨w.heap.size + 1, 0, none⟩ = some (.int .i64 a) := Blk.cell a_114.out 0
  have z_127 : (w_110).cell? ⟨w.heap.size + 1 + 1, 0, none⟩ = some (.int .i64 b) := Blk.cell b_115.out 0
  have z_128 : (w_110).cell? ⟨w.heap.size + 1 + 1 + 1, 0, none⟩ = some (.bool u) := Blk.cell u_116.out 0
  have z_129 : (w_110).cell? ⟨w_77.heap.size, 0, none⟩ = some (.int .i64 P) := Blk.cell st_123.out 0
  have z_130 : (w_110).cell? ⟨w_77.heap.size, 1, none⟩ = some (.slice At nt ct) := Blk.cell st_123.out 1
  clear z_124 z_125 z_126 z_127 z_128 z_129 z_130
  have hlt_ := Blk.lt st_123.out; have hlu_ := Blk.lt u_116.out
  go_wp2
  go_loopw [116] (fun iv wr => ∃ q : Nat, q ≤ V.length ∧ iv = .int .i64 q ∧ Below w_110.heap.size w_110 wr) (fun iv _ => V.length - (intOf iv).toNat)
  case atStart => exact ⟨0, Nat.zero_le _, rfl, Below.refl _ _⟩
  case round =>
    obtain ⟨q, hq, rfl, hbe⟩ := hrel
    have HBE := Lib.hid hbe; clear hbe
    by_cases hqm : q < V.length
    · have hqm' : (q : Int) < V.length := by omega
      have X0 := Lib.hid (RdI.below v_120.out HBE.out); have X1 := Lib.hid (RdB.below t_122.out HBE.out); have X2 := Lib.hid (Blk.keep st_123.out HBE.out); have X3 := Lib.hid (Blk.keep u_116.out HBE.out); have X4 := Lib.hid (Blk.keep a_114.out HBE.out); have X5 := Lib.hid (Blk.keep b_115.out HBE.out)
      obtain ⟨id, hid_⟩ : ∃ id, V[q]? = some id := ⟨V[q]'(by omega), List.getElem?_eq_getElem _⟩
      obtain ⟨bv, ov, hBv⟩ := rdI_some X0.out hid_
      subst hBv
      obtain ⟨ca, cl⟩ := rdI_at X0.out hid_
      obtain ⟨hw0, M, T2, hM, hMN⟩ := H.out id (List.mem_of_getElem? hid_)
      have HW0 := Lib.hid hw0; have HM := Lib.hid hM; have HMN := Lib.hid hMN; clear hw0 hM hMN hid_
      have z_901 : (wr).cell? ⟨w_77.heap.size, 0, none⟩ = some (.int .i64 P) := Blk.cell X2.out 0
      have z_902 : (wr).cell? ⟨w_77.heap.size, 1, none⟩ = some (.slice At nt ct) := Blk.cell X2.out 1
      have z_903 : (wr).cell? ⟨w.heap.size + 1 + 1 + 1, 0, none⟩ = some (.bool u) := Blk.cell X3.out 0
      have z_904 : (wr).cell? ⟨w.heap.size + 1, 0, none⟩ = some (.int .i64 a) := Blk.cell X4.out 0
      have z_905 : (wr).cell? ⟨w.heap.size + 1 + 1, 0, none⟩ = some (.int .i64 b) := Blk.cell X5.out 0
      have hc := Calls.mono (Without_any P id At nt ct L1 _ X1.out hmt) (fun e w' h => retT_of h)
      rw [HW0.out] at hc
      rw [sp_zero] at hc
      rw [sl_zero] at hc
      have HC := Lib.hid hc; clear hc
      go_wp2_with fail
      refine HC.out.mono ?_
      rintro e w_906 ⟨Ax, nx, cx, rfl, ho, hb⟩
      clear HC
      clear z_901 z_902 z_903 z_904 z_905
      have ow_907 := Lib.hid (owns_base ho (HBE.out.size))
      have hmx := ownB_max ho
      have bel_908 := Lib.hid (Below.trans HBE.out (Below.mono hb (HBE.out.size)))
      clear HBE
      have t_909 := Lib.hid (RdB.below X1.out hb)
      clear X1
      have st_910 := Lib.hid (Blk.keep X2.out hb)
      clear X2
      have u_911 := Lib.hid (Blk.keep X3.out hb)
      clear X3
      have a_912 := Lib.hid (Blk.keep X4.out hb)
      clear X4
      have b_913 := Lib.hid (Blk.keep X5.out hb)
      clear X5
      have x_914 := Lib.hid ((OwnB.rd ho).1)
      clear ho hb
      have bel_915 := Lib.hid (Below.alloc bel_908.out (bel_908.out.size) (.cells #[.int .i64 P, .slice Ax nx cx] 24))
      clear bel_908
      have t_916 := Lib.hid (RdB.alloc t_909.out (.cells #[.int .i64 P, .slice Ax nx cx] 24))
      clear t_909
      have st_917 := Lib.hid (Blk.alloc st_910.out (.cells #[.int .i64 P, .slice Ax nx cx] 24))
      clear st_910
      have u_918 := Lib.hid (Blk.alloc u_911.out (.cells #[.int .i64 P, .slice Ax nx cx] 24))
      clear u_911
      have a_919 := Lib.hid (Blk.alloc a_912.out (.cells #[.int .i64 P, .slice Ax nx cx] 24))
      clear a_912
      have b_920 := Lib.hid (Blk.alloc b_913.out (.cells #[.int .i64 P, .slice Ax nx cx] 24))
      clear b_913
      have ownx_921 := Lib.hid (World.ownsRow.alloc ow_907.out (.cells #[.int .i64 P, .slice Ax nx cx] 24))
      clear ow_907
      have x_922 := Lib.hid (RdB.alloc x_914.out (.cells #[.int .i64 P, .slice Ax nx cx] 24))
      clear x_914
      have sx_923 := Lib.hid (Blk.new w_906 24 #[.int .i64 P, .slice Ax nx cx])
      have z_924 : ((w_906.alloc (.cells #[.int .i64 P, .slice Ax nx cx] 24))).cell? ⟨w_77.heap.size, 0, none⟩ = some (.int .i64 P) := Blk.cell st_917.out 0
      have z_925 : ((w_906.alloc (.cells #[.int .i64 P, .slice Ax nx cx] 24))).cell? ⟨w_77.heap.size, 1, none⟩ = some (.slice At nt ct) := Blk.cell st_917.out 1
      have z_926 : ((w_906.alloc (.cells #[.int .i64 P, .slice Ax nx cx] 24))).cell? ⟨w.heap.size + 1 + 1 + 1, 0, none⟩ = some (.bool u) := Blk.cell u_918.out 0
      have z_927 : ((w_906.alloc (.cells #[.int .i64 P, .slice Ax nx cx] 24))).cell? ⟨w.heap.size + 1, 0, none⟩ = some (.int .i64 a) := Blk.cell a_919.out 0
      have z_928 : ((w_906.alloc (.cells #[.int .i64 P, .slice Ax nx cx] 24))).cell? ⟨w.heap.size + 1 + 1, 0, none⟩ = some (.int .i64 b) := Blk.cell b_920.out 0
      have z_929 : ((w_906.alloc (.cells #[.int .i64 P, .slice Ax nx cx] 24))).cell? ⟨w_906.heap.size, 0, none⟩ = some (.int .i64 P) := Blk.cell sx_923.out 0
      have z_930 : ((w_906.alloc (.cells #[.int .i64 P, .slice Ax nx cx] 24))).cell? ⟨w_906.heap.size, 1, none⟩ = some (.slice Ax nx cx) := Blk.cell sx_923.out 1
      go_wp2_with fail
      refine (mend_any (w.heap.size + 1 + 1 + 1) (w.heap.size + 1) (w.heap.size + 1 + 1) P a b u Ax nx cx (dropL L1 [id]) _ x_922.out hmx u_918.out a_919.out b_920.out).mono ?_
      rintro e w_931 ⟨x_, t_, q_, rfl, hv_, hb⟩
      clear z_924 z_925 z_926 z_927 z_928 z_929 z_930
      have bel_932 := Lib.hid (Below.trans bel_915.out (Below.mono hb (bel_915.out.size)))
      clear bel_915
      have t_933 := Lib.hid (RdB.below t_916.out hb)
      clear t_916
      have st_934 := Lib.hid (Blk.keep st_917.out hb)
      clear st_917
      have u_935 := Lib.hid (Blk.keep u_918.out hb)
      clear u_918
      have a_936 := Lib.hid (Blk.keep a_919.out hb)
      clear a_919
      have b_937 := Lib.hid (Blk.keep b_920.out hb)
      clear b_920
      have ownx_938 := Lib.hid (owns_below ownx_921.out hb)
      clear ownx_921
      have x_939 := Lib.hid (RdB.below x_922.out hb)
      clear x_922
      have sx_940 := Lib.hid (Blk.keep sx_923.out hb)
      clear sx_923
      clear hb
      obtain ⟨e0_, e1_, e2_⟩ := HM.out _ _ _ hv_; clear hv_
      replace e0_ := e0_.symm; subst e0_
      replace e1_ := e1_.symm; subst e1_
      replace e2_ := e2_.symm; subst e2_
      have z_941 : (w_931).cell? ⟨w_77.heap.size, 0, none⟩ = some (.int .i64 P) := Blk.cell st_934.out 0
      have z_942 : (w_931).cell? ⟨w_77.heap.size, 1, none⟩ = some (.slice At nt ct) := Blk.cell st_934.out 1
      have z_943 : (w_931).cell? ⟨w.heap.size + 1 + 1 + 1, 0, none⟩ = some (.bool u) := Blk.cell u_935.out 0
      have z_944 : (w_931).cell? ⟨w.heap.size + 1, 0, none⟩ = some (.int .i64 a) := Blk.cell a_936.out 0
      have z_945 : (w_931).cell? ⟨w.heap.size + 1 + 1, 0, none⟩ = some (.int .i64 b) := Blk.cell b_937.out 0
      have z_946 : (w_931).cell? ⟨w_906.heap.size, 0, none⟩ = some (.int .i64 P) := Blk.cell sx_940.out 0
      have z_947 : (w_931).cell? ⟨w_906.heap.size, 1, none⟩ = some (.slice Ax nx cx) := Blk.cell sx_940.out 1
      clear z_941 z_942 z_943 z_944 z_945 z_946 z_947
      clear ca cl
      cases T2
      · go_wp2
        go_roundw
        case rel => exact ⟨q + 1, by omega, by go_num, bel_932.out⟩
        case measure => (simp [intOf]; try omega)
      · have hne : ¬ M = N := by have h := HMN.out; simpa using h
        have g1 : (M == N) = false := beq_eq_false_iff_ne.2 hne
        have g2 : decide (M = N) = false := decide_eq_false hne
        go_wp2
        go_roundw
        case rel => exact ⟨q + 1, by omega, by go_num, bel_932.out⟩
        case measure => (simp [intOf]; try omega)
    · obtain rfl : q = V.length := by omega
      go_wp2_with fail
      refine (alive_ok _).mono ?_
      rintro e w9 ⟨rfl, hb9⟩
      go_wp2
      go_ret
      exact ⟨rfl, Below.trans bel_111.out (Below.mono (HBE.out.trans (hb9.mono HBE.out.size)) bel_111.out.size)⟩

theorem needed_len2 (holds : List Bnd → Bool) {p : Int} {l : List Bnd} (hk : chk p l = 0) : (neededV holds l).length ≤ 1000 := by
  obtain ⟨-, -, h, -⟩ := chk_ok hk
  rw [neededV_loop]
  have h1 := lessLoop_length holds l (idsL l).length (idsL l)
  have h2 := idsL_length l
  omega
theorem gcode_nil_ {P : Int} {l : List Bnd} : gcode P l [] = chk P l := by
  unfold gcode
  by_cases hk : chk P l = 0
  · rw [if_pos hk, hk]; rfl
  · rw [if_neg hk]

theorem mi_walk (w : World) (P : Int) (A : Option Addr) (n k : Nat) (l : List Bnd) (_ : (Lit.int .i64 P).wf = true) (hr : RdB w A n k l) (hn : n ≤ maxLen) (a : Int) (_ : (Lit.int .i64 a).wf = true) (b : Int) (_ : (Lit.int .i64 b).wf = true) (u : Bool) :
    Calls Try.prog 14 #[.agg #[.int .i64 P, .slice A n k], .int .i64 a, .int .i64 b, .bool u] w fun e w' => e = .returned (.bool true) ∧ Below w.heap.size w w' := by
  cases hw : (decide (P ≤ 9) && decide (n ≤ 20))
  · exact mi_w P a b u A n k l w hr hn hw
  · by_cases hk : chk P l = 0
    · have hg : gcode P l [] = 0 := gcode_nil_.trans hk
      cases hs : (settle l P.toNat zeros).isSome
      · obtain ⟨h1, h2, h3⟩ := doubt_spec hk hs
        exact mi_doubt P a b u A n k l w hr hn hw _ (needed_len2 _ hk) (Lib.hid (by unfold doubtV; rw [if_pos hg, if_neg (by rw [hs]; simp)])) _ (Lib.hid hk) (Lib.hid (ids_wf hk h1)) (Lib.hid rfl) (Lib.hid h2) (Lib.hid h3)
      · have E1 := Lib.hid (show doubtV P l = ([], false, 0) from by unfold doubtV; rw [if_pos hg, if_pos hs])
        by_cases hpt : [a, b].all (isPt P) = true
        · have h0 : scode P l [a, b] = 0 := by
            have hg2 : gcode P l [a, b] = 0 := by unfold gcode; rw [if_pos hk, if_pos hpt]
            unfold scode; rw [if_pos hg2, if_pos hs]
          have he := endV_ok u hk hs hpt
          obtain ⟨N, hN⟩ : ∃ N, (endW l P.toNat a.toNat b.toNat u).1 = N := ⟨_, rfl⟩
          cases ht : (endW l P.toNat a.toNat b.toNat u).2
          · rw [ht] at he
            exact mi_none2 P a b u A n k l w hr hn hw E1 _ (Lib.hid (tupE he)) (Lib.hid (by unfold restsV; rw [if_pos h0, if_neg (by rw [ht]; simp)]))
          · have hW : endW l P.toNat a.toNat b.toNat u = (N, true) := Prod.ext hN ht
            rw [ht, hN] at he
            obtain ⟨h1, h2, h3⟩ := rests_spec hk hs hpt N hW
            refine mi_ok P a b u A n k l w hr hn hw E1 N (Lib.hid (tupE he)) _ (needed_len2 _ hk) (Lib.hid (by unfold restsV; rw [if_pos h0, if_pos ht, hN])) _ (Lib.hid hk) (Lib.hid (ids_wf hk h1)) (Lib.hid rfl) (Lib.hid (tupE h2)) (Lib.hid fun id hid => ?_)
            obtain ⟨g1, M, t, g2, g3⟩ := h3 id hid
            exact ⟨g1, M, t, tupE g2, g3⟩
        · have hg2 : gcode P l [a, b] = 1 := by unfold gcode; rw [if_pos hk, if_neg hpt]
          have h1 : scode P l [a, b] = 1 := by unfold scode; rw [hg2]; rfl
          have hne : ¬ scode P l [a, b] = 0 := by rw [h1]; decide
          exact mi_none1 P a b u A n k l w hr hn hw E1 0 1 false (by decide) (Lib.hid (tupE (by unfold endV; rw [if_neg hne, h1]))) (Lib.hid (by unfold restsV; rw [if_neg hne, h1]))
    · exact mi_err P a b u A n k l w hr hn hw (chk P l) (by simpa using hk) (Lib.hid (by unfold doubtV; rw [gcode_nil_, if_neg hk]))

set_option maxRecDepth 100000 in
theorem gaugeMinimal_lifted (os : Os) (started : os.Started) (H : Type) (enc : TypeId × Value → H) :
    ReturnsInHanded {} Try.checked os 14 .any (Rows.gaugeMinimalSpec.pre6 enc Try.prog Try.f14 Rows.gaugeMinimalRow.domain false) (Rows.gaugeMinimalSpec.post enc Try.prog Try.f14 false true false false) := by
  refine returnsInHanded_of_change (C := Try.checked) Law.own started (by kernel_rfl) Try.func14
    (ChangeSpec.witness6 (enc := enc) (C := Try.checked) false ⟨#[], #[.agg #[.int .i64 0, .slice none 0 0], .int .i64 0, .int .i64 0, .bool false], []⟩ 8 (by kernel_rfl) (by kernel_rfl) (by kernel_rfl) (by kernel_rfl)) ?_
  intro W base args ds gs before hval0 hW hcnd _
  have hval : ∀ (j : Nat) t v, Try.f14.params[j]? = some t → args[j]? = some v → Value.okWide Try.prog W .any base t v := hval0
  have hW' := hW
  obtain ⟨p, q, hA0, hV, rfl, hfz, hnd⟩ := hW
  have hA : DataW.TrodAll enc Try.prog W 0 (fun _ => true) true Try.f14.params.toList args.toList ds p := hA0
  rw [Try.params14] at hA hval
  obtain ⟨v0, vs0, d0, ds0, p0, q0, hargs, rfl, rfl, h0, r0⟩ := trodAll_cons hA
  obtain ⟨v1, vs1, d1, ds1, p1, q1, rfl, rfl, rfl, h1, r1⟩ := trodAll_cons r0
  obtain ⟨v2, vs2, d2, ds2, p2, q2, rfl, rfl, rfl, h2, r2⟩ := trodAll_cons r1
  obtain ⟨v3, vs3, d3, ds3, p3, q3, rfl, rfl, rfl, h3, r3⟩ := trodAll_cons r2
  obtain ⟨rfl, rfl, rfl⟩ := trodAll_nil r3
  obtain rfl : args = #[v0, v1, v2, v3] := by cases args; simp_all
  obtain ⟨rfl, rfl⟩ := trodVars_none hV
  have k0 := h0
  have lt0 : ∀ x ∈ p0, x.block < W.heap.size := by obtain ⟨m, hm⟩ := k0; exact DataW.trod_lt m _ _ _ hm
  obtain ⟨P0, A0, n0, c0, l0, rfl, w0, rd0, mx0⟩ := open_sys (hval 0 24 v0 rfl rfl) h0
  obtain ⟨a1, rfl, rfl, rfl, w1⟩ := open_int Try.underlying3 (hval 1 3 v1 rfl rfl) h1
  obtain ⟨a2, rfl, rfl, rfl, w2⟩ := open_int Try.underlying3 (hval 2 3 v2 rfl rfl) h2
  obtain ⟨a3, rfl, rfl, rfl⟩ := open_bool Try.underlying4 (hval 3 4 v3 rfl rfl) h3
  clear hA0 hval0
  refine (mi_walk W P0 A0 n0 c0 l0 w0 rd0 mx0 a1 w1 a2 w2 a3).mono fun e W' ⟨he, bel⟩ => ?_
  subst he
  exact ⟨_, rfl, _, _, _, [], _, [], hW', trodAll_mk1 (shut_bool Try.underlying4 _), (trodAll_cons_mk (Below.trod Law.laidOut (by kernel_rfl) (of_decide_eq_true (by kernel_rfl)) k0 bel lt0) (trodAll_cons_mk (shut_int Try.underlying3 w1) (trodAll_cons_mk (shut_int Try.underlying3 w2) (trodAll_cons_mk (shut_bool Try.underlying4 a3) trodAll_mk0)))), rfl, bel.frame _, fun h => by cases h⟩

theorem gaugeMinimal_over : Rows.gaugeMinimalRow.holds Try.pinned (OpenSpec.ofChange Rows.gaugeMinimalSpec) :=
  OpenClaim.holds_of_wide 14 Try.f14 rfl rfl rfl rfl rfl rfl rfl ⟨rfl, rfl, rfl, rfl, rfl⟩ rfl rfl rfl rfl rfl (by kernel_rfl) Try.func14 (by kernel_rfl)
    (of_decide_eq_true (by kernel_rfl)) (by unfold Func.isWrapper; first | (rw [if_pos (by decide +kernel)]; kernel_rfl) | (rw [if_neg (by decide +kernel)]; exact ⟨rfl, rfl⟩))
    (fun os started H enc _ => gaugeMinimal_lifted os started H enc)

theorem gaugeMinimal_proved : Rows.GaugeMinimalSaid := gaugeMinimal_over
end Go.Proofs.Ythlnialipjihdaa
