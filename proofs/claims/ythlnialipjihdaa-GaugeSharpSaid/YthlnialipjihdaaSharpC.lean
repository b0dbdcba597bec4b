/- GaugeSharp: walks, case by case (C). -/
import Derived.Test.YthlnialipjihdaaShz
import Derived.Test.YthlnialipjihdaaSharpM
set_option linter.unusedSimpArgs false
set_option linter.unusedVariables false
namespace Go.Proofs.Ythlnialipjihdaa
open Go.RowKit

set_option maxRecDepth 100000 in
set_option maxHeartbeats 8000000 in
theorem sh_111_F0_1 (P : Int) (A : Option Addr) (n k : Nat) (l : List Bnd) (w : World) (hr : RdB w A n k l) (hn : n ≤ maxLen) (a b : Nat) (N M : Int) (Bx : Option Addr) (m d : Nat) (x : List Int) (hx : RdI w Bx m d x) (hm : m ≤ maxLen) (C : Option Addr) (m2 d2 : Nat) (y : List Int) (hy : RdI w C m2 d2 y) (hm2 : m2 ≤ maxLen) (hw : n ≤ 403) (h7 : m ≤ 70) (h8 : m2 ≤ 70) (hN : -100000000 ≤ N) (hN2 : N ≤ 100000000) (X1 X2 : Int) (E1 : Hid (∀ x t q, endV P l a b true = .tuple #[.int .i64 x, .bool t, .int .i64 q] → x = X1 ∧ t = true ∧ q = 0)) (E2 : Hid (∀ x t q, endV P l a b false = .tuple #[.int .i64 x, .bool t, .int .i64 q] → x = X2 ∧ t = true ∧ q = 0)) (Z : List Int) (hZ : Z.length ≤ 60) (za zb : Int) (hza : Z[a]? = some za) (hzb : Z[b]? = some zb) (z1 : -1000000000000 ≤ za) (z2 : za ≤ 1000000000000) (z3 : -1000000000000 ≤ zb) (z4 : zb ≤ 1000000000000) (hzz : zb - za = N) (E3 : Hid (attainV P l a b N = (Z, true, 0))) (E4 : Hid (keepsV P l Z = (true, 0))) (r1 : N ≤ X1) (r2 : X2 ≤ N) (E5 : Hid (keepsV P l x = (false, 0))) (E6 : Hid (checkPathV P l a b M y = (true, 0))) (s1 : X1 ≤ M) :
    Calls Try.prog 12 #[.agg #[.int .i64 P, .slice A n k], .int .i64 (a : Int), .int .i64 (b : Int), .int .i64 N, .int .i64 M, .slice Bx m d, .slice C m2 d2] w fun e w' => e = .returned (.bool true) ∧ Below w.heap.size w w' := by
  have g1 : decide (N ≤ X1) = true := decide_eq_true r1
  have g2 : decide (X2 ≤ N) = true := decide_eq_true r2
  have g6 : decide (X1 ≤ M) = true := decide_eq_true s1
  have HZA := Lib.hid hza; have HZB := Lib.hid hzb; clear hza hzb
  go_enter Try.func12, Try.ntmps12
  have bel_1 := Lib.hid (show Below w.heap.size w w from Below.refl _ w)
  have x_2 := Lib.hid (hx)
  clear hx
  have y_3 := Lib.hid (hy)
  clear hy
  have rd_4 := Lib.hid (hr)
  clear hr
  have bel_5 := Lib.hid (Below.alloc bel_1.out (bel_1.out.size) (.cells #[.int .i64 P, .slice A n k] 24))
  clear bel_1
  have x_6 := Lib.hid (RdI.alloc x_2.out (.cells #[.int .i64 P, .slice A n k] 24))
  clear x_2
  have y_7 := Lib.hid (RdI.alloc y_3.out (.cells #[.int .i64 P, .slice A n k] 24))
  clear y_3
  have rd_8 := Lib.hid (RdB.alloc rd_4.out (.cells #[.int .i64 P, .slice A n k] 24))
  clear rd_4
  have srd_9 := Lib.hid (Blk.new w 24 #[.int .i64 P, .slice A n k])
  have hc := (show Calls Try.prog 18 #[.agg #[.int .i64 P, .slice A n k]] ((w.alloc (.cells #[.int .i64 P, .slice A n k] 24))) fun e w' => e = .returned (.bool true) ∧ Below ((w.alloc (.cells #[.int .i64 P, .slice A n k] 24))).heap.size ((w.alloc (.cells #[.int .i64 P, .slice A n k] 24))) w' from by have h := wide_any P A n k ((w.alloc (.cells #[.int .i64 P, .slice A n k] 24))); rw [show decide (n ≤ 403) = true from by simpa using hw] at h; exact h)
  have HC := Lib.hid hc; clear hc
  go_wp2_with fail
  refine HC.out.mono ?_
  rintro e w_10 ⟨rfl, hb⟩
  clear HC
  have bel_11 := Lib.hid (Below.trans bel_5.out (Below.mono hb (bel_5.out.size)))
  clear bel_5
  have x_12 := Lib.hid (RdI.below x_6.out hb)
  clear x_6
  have y_13 := Lib.hid (RdI.below y_7.out hb)
  clear y_7
  have rd_14 := Lib.hid (RdB.below rd_8.out hb)
  clear rd_8
  have srd_15 := Lib.hid (Blk.keep srd_9.out hb)
  clear srd_9
  clear hb
  have z_16 : (w_10).cell? ⟨w.heap.size, 0, none⟩ = some (.int .i64 P) := Blk.cell srd_15.out 0
  have z_17 : (w_10).cell? ⟨w.heap.size, 1, none⟩ = some (.slice A n k) := Blk.cell srd_15.out 1
  go_wp2_with fail
  refine (Greatest_any P a b A n k l _ rd_14.out hn).mono ?_
  rintro e w_18 ⟨x_, t_, q_, rfl, hv_, hb⟩
  clear z_16 z_17
  have bel_19 := Lib.hid (Below.trans bel_11.out (Below.mono hb (bel_11.out.size)))
  clear bel_11
  have x_20 := Lib.hid (RdI.below x_12.out hb)
  clear x_12
  have y_21 := Lib.hid (RdI.below y_13.out hb)
  clear y_13
  have rd_22 := Lib.hid (RdB.below rd_14.out hb)
  clear rd_14
  have srd_23 := Lib.hid (Blk.keep srd_15.out hb)
  clear srd_15
  clear hb
  obtain ⟨rfl, rfl, rfl⟩ := E1.out _ _ _ hv_; clear hv_
  have z_24 : (w_18).cell? ⟨w.heap.size, 0, none⟩ = some (.int .i64 P) := Blk.cell srd_23.out 0
  have z_25 : (w_18).cell? ⟨w.heap.size, 1, none⟩ = some (.slice A n k) := Blk.cell srd_23.out 1
  go_wp2_with fail
  refine (Least_any P a b A n k l _ rd_22.out hn).mono ?_
  rintro e w_26 ⟨x_, t_, q_, rfl, hv_, hb⟩
  clear z_24 z_25
  have bel_27 := Lib.hid (Below.trans bel_19.out (Below.mono hb (bel_19.out.size)))
  clear bel_19
  have x_28 := Lib.hid (RdI.below x_20.out hb)
  clear x_20
  have y_29 := Lib.hid (RdI.below y_21.out hb)
  clear y_21
  have rd_30 := Lib.hid (RdB.below rd_22.out hb)
  clear rd_22
  have srd_31 := Lib.hid (Blk.keep srd_23.out hb)
  clear srd_23
  clear hb
  obtain ⟨rfl, rfl, rfl⟩ := E2.out _ _ _ hv_; clear hv_
  have z_32 : (w_26).cell? ⟨w.heap.size, 0, none⟩ = some (.int .i64 P) := Blk.cell srd_31.out 0
  have z_33 : (w_26).cell? ⟨w.heap.size, 1, none⟩ = some (.slice A n k) := Blk.cell srd_31.out 1
  have hc := Attain_any P a b N A n k l _ rd_30.out hn
  rw [E3.out] at hc
  unfold RetI at hc; dsimp only at hc
  have HC := Lib.hid hc; clear hc
  go_wp2_with fail
  refine HC.out.mono ?_
  rintro e w_34 ⟨Az, nz, cz, rfl, ho, hb⟩
  clear HC
  clear z_32 z_33
  have bel_35 := Lib.hid (Below.trans bel_27.out (Below.mono hb (bel_27.out.size)))
  clear bel_27
  have x_36 := Lib.hid (RdI.below x_28.out hb)
  clear x_28
  have y_37 := Lib.hid (RdI.below y_29.out hb)
  clear y_29
  have rd_38 := Lib.hid (RdB.below rd_30.out hb)
  clear rd_30
  have srd_39 := Lib.hid (Blk.keep srd_31.out hb)
  clear srd_31
  have z_40 := Lib.hid ((OwnI.rd ho).1)
  obtain rfl : nz = Z.length := z_40.out.len.symm
  clear ho hb
  have z_41 : (w_34).cell? ⟨w.heap.size, 0, none⟩ = some (.int .i64 P) := Blk.cell srd_39.out 0
  have z_42 : (w_34).cell? ⟨w.heap.size, 1, none⟩ = some (.slice A n k) := Blk.cell srd_39.out 1
  obtain ⟨bz, oz, hAz⟩ := rdI_some z_40.out HZA.out
  subst hAz
  have hc := Keeps_any P A (some ⟨bz, oz, none⟩) n k Z.length cz l Z _ rd_38.out hn z_40.out (by unfold maxLen; omega)
  rw [E4.out] at hc
  dsimp only at hc
  have HC := Lib.hid hc; clear hc
  go_wp2_with fail
  refine HC.out.mono ?_
  rintro e w_43 ⟨rfl, hb⟩
  clear HC
  clear z_41 z_42
  have bel_44 := Lib.hid (Below.trans bel_35.out (Below.mono hb (bel_35.out.size)))
  clear bel_35
  have x_45 := Lib.hid (RdI.below x_36.out hb)
  clear x_36
  have y_46 := Lib.hid (RdI.below y_37.out hb)
  clear y_37
  have rd_47 := Lib.hid (RdB.below rd_38.out hb)
  clear rd_38
  have srd_48 := Lib.hid (Blk.keep srd_39.out hb)
  clear srd_39
  have z_49 := Lib.hid (RdI.below z_40.out hb)
  clear z_40
  clear hb
  have z_50 : (w_43).cell? ⟨w.heap.size, 0, none⟩ = some (.int .i64 P) := Blk.cell srd_48.out 0
  have z_51 : (w_43).cell? ⟨w.heap.size, 1, none⟩ = some (.slice A n k) := Blk.cell srd_48.out 1
  go_wp2_with fail
  obtain ⟨ca, cl⟩ := rdI_at z_49.out HZA.out
  have cb := (rdI_at z_49.out HZB.out).1
  have hnz := (List.getElem?_eq_some_iff.1 HZA.out).1
  have hnzb := (List.getElem?_eq_some_iff.1 HZB.out).1
  have hne : decide (zb - za ≠ N) = false := decide_eq_false (by omega)
  go_quiet (fail)
  clear ca cb cl hne
  clear z_50 z_51
  have bel_52 := Lib.hid (bdrewN bel_44.out nq)
  clear bel_44
  have x_53 := Lib.hid (rdI_drewN x_45.out nq)
  clear x_45
  have y_54 := Lib.hid (rdI_drewN y_46.out nq)
  clear y_46
  have rd_55 := Lib.hid (rdB_drewN rd_47.out nq)
  clear rd_47
  have srd_56 := Lib.hid (blk_drewN srd_48.out nq)
  clear srd_48
  have z_57 := Lib.hid (rdI_drewN z_49.out nq)
  clear z_49
  have z_58 : ((World.drewN w_43 nq)).cell? ⟨w.heap.size, 0, none⟩ = some (.int .i64 P) := Blk.cell srd_56.out 0
  have z_59 : ((World.drewN w_43 nq)).cell? ⟨w.heap.size, 1, none⟩ = some (.slice A n k) := Blk.cell srd_56.out 1
  have hc := Keeps_any P A Bx n k m d l x _ rd_55.out hn x_53.out hm
  rw [E5.out] at hc
  dsimp only at hc
  have HC := Lib.hid hc; clear hc
  go_wp2_with fail
  refine HC.out.mono ?_
  rintro e w_60 ⟨rfl, hb⟩
  clear HC
  clear z_58 z_59
  have bel_61 := Lib.hid (Below.trans bel_52.out (Below.mono hb (bel_52.out.size)))
  clear bel_52
  have x_62 := Lib.hid (RdI.below x_53.out hb)
  clear x_53
  have y_63 := Lib.hid (RdI.below y_54.out hb)
  clear y_54
  have rd_64 := Lib.hid (RdB.below rd_55.out hb)
  clear rd_55
  have srd_65 := Lib.hid (Blk.keep srd_56.out hb)
  clear srd_56
  have z_66 := Lib.hid (RdI.below z_57.out hb)
  clear z_57
  clear hb
  have z_67 : (w_60).cell? ⟨w.heap.size, 0, none⟩ = some (.int .i64 P) := Blk.cell srd_65.out 0
  have z_68 : (w_60).cell? ⟨w.heap.size, 1, none⟩ = some (.slice A n k) := Blk.cell srd_65.out 1
  have hc := CheckPath_any P a b M A C n k m2 d2 l y _ rd_64.out hn y_63.out hm2
  rw [E6.out] at hc
  dsimp only at hc
  have HC := Lib.hid hc; clear hc
  go_wp2_with fail
  refine HC.out.mono ?_
  rintro e w_69 ⟨rfl, hb⟩
  clear HC
  clear z_67 z_68
  have bel_70 := Lib.hid (Below.trans bel_61.out (Below.mono hb (bel_61.out.size)))
  clear bel_61
  have x_71 := Lib.hid (RdI.below x_62.out hb)
  clear x_62
  have y_72 := Lib.hid (RdI.below y_63.out hb)
  clear y_63
  have rd_73 := Lib.hid (RdB.below rd_64.out hb)
  clear rd_64
  have srd_74 := Lib.hid (Blk.keep srd_65.out hb)
  clear srd_65
  have z_75 := Lib.hid (RdI.below z_66.out hb)
  clear z_66
  clear hb
  have z_76 : (w_69).cell? ⟨w.heap.size, 0, none⟩ = some (.int .i64 P) := Blk.cell srd_74.out 0
  have z_77 : (w_69).cell? ⟨w.heap.size, 1, none⟩ = some (.slice A n k) := Blk.cell srd_74.out 1
  go_wp2_with fail
  go_quiet (fail)
  clear z_76 z_77
  have bel_78 := Lib.hid (bdrewN bel_70.out nq)
  clear bel_70
  have x_79 := Lib.hid (rdI_drewN x_71.out nq)
  clear x_71
  have y_80 := Lib.hid (rdI_drewN y_72.out nq)
  clear y_72
  have rd_81 := Lib.hid (rdB_drewN rd_73.out nq)
  clear rd_73
  have srd_82 := Lib.hid (blk_drewN srd_74.out nq)
  clear srd_74
  have z_83 := Lib.hid (rdI_drewN z_75.out nq)
  clear z_75
  have z_84 : ((World.drewN w_69 nq)).cell? ⟨w.heap.size, 0, none⟩ = some (.int .i64 P) := Blk.cell srd_82.out 0
  have z_85 : ((World.drewN w_69 nq)).cell? ⟨w.heap.size, 1, none⟩ = some (.slice A n k) := Blk.cell srd_82.out 1
  go_wp2_with fail
  refine (alive_ok _).mono ?_
  rintro e w_86 ⟨rfl, hb⟩
  clear z_84 z_85
  have bel_87 := Lib.hid (Below.trans bel_78.out (Below.mono hb (bel_78.out.size)))
  clear bel_78
  have x_88 := Lib.hid (RdI.below x_79.out hb)
  clear x_79
  have y_89 := Lib.hid (RdI.below y_80.out hb)
  clear y_80
  have rd_90 := Lib.hid (RdB.below rd_81.out hb)
  clear rd_81
  have srd_91 := Lib.hid (Blk.keep srd_82.out hb)
  clear srd_82
  have z_92 := Lib.hid (RdI.below z_83.out hb)
  clear z_83
  clear hb
  go_wp2
  go_ret
  exact ⟨rfl, bel_87.out⟩

set_option maxRecDepth 100000 in
set_option maxHeartbeats 8000000 in
theorem sh_111_F1_0 (P : Int) (A : Option Addr) (n k : Nat) (l : List Bnd) (w : World) (hr : RdB w A n k l) (hn : n ≤ maxLen) (a b : Nat) (N M : Int) (Bx : Option Addr) (m d : Nat) (x : List Int) (hx : RdI w Bx m d x) (hm : m ≤ maxLen) (C : Option Addr) (m2 d2 : Nat) (y : List Int) (hy : RdI w C m2 d2 y) (hm2 : m2 ≤ maxLen) (hw : n ≤ 403) (h7 : m ≤ 70) (h8 : m2 ≤ 70) (hN : -100000000 ≤ N) (hN2 : N ≤ 100000000) (X1 X2 : Int) (E1 : Hid (∀ x t q, endV P l a b true = .tuple #[.int .i64 x, .bool t, .int .i64 q] → x = X1 ∧ t = true ∧ q = 0)) (E2 : Hid (∀ x t q, endV P l a b false = .tuple #[.int .i64 x, .bool t, .int .i64 q] → x = X2 ∧ t = true ∧ q = 0)) (Z : List Int) (hZ : Z.length ≤ 60) (za zb : Int) (hza : Z[a]? = some za) (hzb : Z[b]? = some zb) (z1 : -1000000000000 ≤ za) (z2 : za ≤ 1000000000000) (z3 : -1000000000000 ≤ zb) (z4 : zb ≤ 1000000000000) (hzz : zb - za = N) (E3 : Hid (attainV P l a b N = (Z, true, 0))) (E4 : Hid (keepsV P l Z = (true, 0))) (r1 : N ≤ X1) (r2 : X2 ≤ N) (E5 : Hid (keepsV P l x = (false, 1))) (E6 : Hid (checkPathV P l a b M y = (false, 0))) :
    Calls Try.prog 12 #[.agg #[.int .i64 P, .slice A n k], .int .i64 (a : Int), .int .i64 (b : Int), .int .i64 N, .int .i64 M, .slice Bx m d, .slice C m2 d2] w fun e w' => e = .returned (.bool true) ∧ Below w.heap.size w w' := by
  have g1 : decide (N ≤ X1) = true := decide_eq_true r1
  have g2 : decide (X2 ≤ N) = true := decide_eq_true r2
  have HZA := Lib.hid hza; have HZB := Lib.hid hzb; clear hza hzb
  go_enter Try.func12, Try.ntmps12
  have bel_1 := Lib.hid (show Below w.heap.size w w from Below.refl _ w)
  have x_2 := Lib.hid (hx)
  clear hx
  have y_3 := Lib.hid (hy)
  clear hy
  have rd_4 := Lib.hid (hr)
  clear hr
  have bel_5 := Lib.hid (Below.alloc bel_1.out (bel_1.out.size) (.cells #[.int .i64 P, .slice A n k] 24))
  clear bel_1
  have x_6 := Lib.hid (RdI.alloc x_2.out (.cells #[.int .i64 P, .slice A n k] 24))
  clear x_2
  have y_7 := Lib.hid (RdI.alloc y_3.out (.cells #[.int .i64 P, .slice A n k] 24))
  clear y_3
  have rd_8 := Lib.hid (RdB.alloc rd_4.out (.cells #[.int .i64 P, .slice A n k] 24))
  clear rd_4
  have srd_9 := Lib.hid (Blk.new w 24 #[.int .i64 P, .slice A n k])
  have hc := (show Calls Try.prog 18 #[.agg #[.int .i64 P, .slice A n k]] ((w.alloc (.cells #[.int .i64 P, .slice A n k] 24))) fun e w' => e = .returned (.bool true) ∧ Below ((w.alloc (.cells #[.int .i64 P, .slice A n k] 24))).heap.size ((w.alloc (.cells #[.int .i64 P, .slice A n k] 24))) w' from by have h := wide_any P A n k ((w.alloc (.cells #[.int .i64 P, .slice A n k] 24))); rw [show decide (n ≤ 403) = true from by simpa using hw] at h; exact h)
  have HC := Lib.hid hc; clear hc
  go_wp2_with fail
  refine HC.out.mono ?_
  rintro e w_10 ⟨rfl, hb⟩
  clear HC
  have bel_11 := Lib.hid (Below.trans bel_5.out (Below.mono hb (bel_5.out.size)))
  clear bel_5
  have x_12 := Lib.hid (RdI.below x_6.out hb)
  clear x_6
  have y_13 := Lib.hid (RdI.below y_7.out hb)
  clear y_7
  have rd_14 := Lib.hid (RdB.below rd_8.out hb)
  clear rd_8
  have srd_15 := Lib.hid (Blk.keep srd_9.out hb)
  clear srd_9
  clear hb
  have z_16 : (w_10).cell? ⟨w.heap.size, 0, none⟩ = some (.int .i64 P) := Blk.cell srd_15.out 0
  have z_17 : (w_10).cell? ⟨w.heap.size, 1, none⟩ = some (.slice A n k) := Blk.cell srd_15.out 1
  go_wp2_with fail
  refine (Greatest_any P a b A n k l _ rd_14.out hn).mono ?_
  rintro e w_18 ⟨x_, t_, q_, rfl, hv_, hb⟩
  clear z_16 z_17
  have bel_19 := Lib.hid (Below.trans bel_11.out (Below.mono hb (bel_11.out.size)))
  clear bel_11
  have x_20 := Lib.hid (RdI.below x_12.out hb)
  clear x_12
  have y_21 := Lib.hid (RdI.below y_13.out hb)
  clear y_13
  have rd_22 := Lib.hid (RdB.below rd_14.out hb)
  clear rd_14
  have srd_23 := Lib.hid (Blk.keep srd_15.out hb)
  clear srd_15
  clear hb
  obtain ⟨rfl, rfl, rfl⟩ := E1.out _ _ _ hv_; clear hv_
  have z_24 : (w_18).cell? ⟨w.heap.size, 0, none⟩ = some (.int .i64 P) := Blk.cell srd_23.out 0
  have z_25 : (w_18).cell? ⟨w.heap.size, 1, none⟩ = some (.slice A n k) := Blk.cell srd_23.out 1
  go_wp2_with fail
  refine (Least_any P a b A n k l _ rd_22.out hn).mono ?_
  rintro e w_26 ⟨x_, t_, q_, rfl, hv_, hb⟩
  clear z_24 z_25
  have bel_27 := Lib.hid (Below.trans bel_19.out (Below.mono hb (bel_19.out.size)))
  clear bel_19
  have x_28 := Lib.hid (RdI.below x_20.out hb)
  clear x_20
  have y_29 := Lib.hid (RdI.below y_21.out hb)
  clear y_21
  have rd_30 := Lib.hid (RdB.below rd_22.out hb)
  clear rd_22
  have srd_31 := Lib.hid (Blk.keep srd_23.out hb)
  clear srd_23
  clear hb
  obtain ⟨rfl, rfl, rfl⟩ := E2.out _ _ _ hv_; clear hv_
  have z_32 : (w_26).cell? ⟨w.heap.size, 0, none⟩ = some (.int .i64 P) := Blk.cell srd_31.out 0
  have z_33 : (w_26).cell? ⟨w.heap.size, 1, none⟩ = some (.slice A n k) := Blk.cell srd_31.out 1
  have hc := Attain_any P a b N A n k l _ rd_30.out hn
  rw [E3.out] at hc
  unfold RetI at hc; dsimp only at hc
  have HC := Lib.hid hc; clear hc
  go_wp2_with fail
  refine HC.out.mono ?_
  rintro e w_34 ⟨Az, nz, cz, rfl, ho, hb⟩
  clear HC
  clear z_32 z_33
  have bel_35 := Lib.hid (Below.trans bel_27.out (Below.mono hb (bel_27.out.size)))
  clear bel_27
  have x_36 := Lib.hid (RdI.below x_28.out hb)
  clear x_28
  have y_37 := Lib.hid (RdI.below y_29.out hb)
  clear y_29
  have rd_38 := Lib.hid (RdB.below rd_30.out hb)
  clear rd_30
  have srd_39 := Lib.hid (Blk.keep srd_31.out hb)
  clear srd_31
  have z_40 := Lib.hid ((OwnI.rd ho).1)
  obtain rfl : nz = Z.length := z_40.out.len.symm
  clear ho hb
  have z_41 : (w_34).cell? ⟨w.heap.size, 0, none⟩ = some (.int .i64 P) := Blk.cell srd_39.out 0
  have z_42 : (w_34).cell? ⟨w.heap.size, 1, none⟩ = some (.slice A n k) := Blk.cell srd_39.out 1
  obtain ⟨bz, oz, hAz⟩ := rdI_some z_40.out HZA.out
  subst hAz
  have hc := Keeps_any P A (some ⟨bz, oz, none⟩) n k Z.length cz l Z _ rd_38.out hn z_40.out (by unfold maxLen; omega)
  rw [E4.out] at hc
  dsimp only at hc
  have HC := Lib.hid hc; clear hc
  go_wp2_with fail
  refine HC.out.mono ?_
  rintro e w_43 ⟨rfl, hb⟩
  clear HC
  clear z_41 z_42
  have bel_44 := Lib.hid (Below.trans bel_35.out (Below.mono hb (bel_35.out.size)))
  clear bel_35
  have x_45 := Lib.hid (RdI.below x_36.out hb)
  clear x_36
  have y_46 := Lib.hid (RdI.below y_37.out hb)
  clear y_37
  have rd_47 := Lib.hid (RdB.below rd_38.out hb)
  clear rd_38
  have srd_48 := Lib.hid (Blk.keep srd_39.out hb)
  clear srd_39
  have z_49 := Lib.hid (RdI.below z_40.out hb)
  clear z_40
  clear hb
  have z_50 : (w_43).cell? ⟨w.heap.size, 0, none⟩ = some (.int .i64 P) := Blk.cell srd_48.out 0
  have z_51 : (w_43).cell? ⟨w.heap.size, 1, none⟩ = some (.slice A n k) := Blk.cell srd_48.out 1
  go_wp2_with fail
  obtain ⟨ca, cl⟩ := rdI_at z_49.out HZA.out
  have cb := (rdI_at z_49.out HZB.out).1
  have hnz := (List.getElem?_eq_some_iff.1 HZA.out).1
  have hnzb := (List.getElem?_eq_some_iff.1 HZB.out).1
  have hne : decide (zb - za ≠ N) = false := decide_eq_false (by omega)
  go_quiet (fail)
  clear ca cb cl hne
  clear z_50 z_51
  have bel_52 := Lib.hid (bdrewN bel_44.out nq)
  clear bel_44
  have x_53 := Lib.hid (rdI_drewN x_45.out nq)
  clear x_45
  have y_54 := Lib.hid (rdI_drewN y_46.out nq)
  clear y_46
  have rd_55 := Lib.hid (rdB_drewN rd_47.out nq)
  clear rd_47
  have srd_56 := Lib.hid (blk_drewN srd_48.out nq)
  clear srd_48
  have z_57 := Lib.hid (rdI_drewN z_49.out nq)
  clear z_49
  have z_58 : ((World.drewN w_43 nq)).cell? ⟨w.heap.size, 0, none⟩ = some (.int .i64 P) := Blk.cell srd_56.out 0
  have z_59 : ((World.drewN w_43 nq)).cell? ⟨w.heap.size, 1, none⟩ = some (.slice A n k) := Blk.cell srd_56.out 1
  have hc := Keeps_any P A Bx n k m d l x _ rd_55.out hn x_53.out hm
  rw [E5.out] at hc
  dsimp only at hc
  have HC := Lib.hid hc; clear hc
  go_wp2_with fail
  refine HC.out.mono ?_
  rintro e w_60 ⟨rfl, hb⟩
  clear HC
  clear z_58 z_59
  have bel_61 := Lib.hid (Below.trans bel_52.out (Below.mono hb (bel_52.out.size)))
  clear bel_52
  have x_62 := Lib.hid (RdI.below x_53.out hb)
  clear x_53
  have y_63 := Lib.hid (RdI.below y_54.out hb)
  clear y_54
  have rd_64 := Lib.hid (RdB.below rd_55.out hb)
  clear rd_55
  have srd_65 := Lib.hid (Blk.keep srd_56.out hb)
  clear srd_56
  have z_66 := Lib.hid (RdI.below z_57.out hb)
  clear z_57
  clear hb
  have z_67 : (w_60).cell? ⟨w.heap.size, 0, none⟩ = some (.int .i64 P) := Blk.cell srd_65.out 0
  have z_68 : (w_60).cell? ⟨w.heap.size, 1, none⟩ = some (.slice A n k) := Blk.cell srd_65.out 1
  have hc := CheckPath_any P a b M A C n k m2 d2 l y _ rd_64.out hn y_63.out hm2
  rw [E6.out] at hc
  dsimp only at hc
  have HC := Lib.hid hc; clear hc
  go_wp2_with fail
  refine HC.out.mono ?_
  rintro e w_69 ⟨rfl, hb⟩
  clear HC
  clear z_67 z_68
  have bel_70 := Lib.hid (Below.trans bel_61.out (Below.mono hb (bel_61.out.size)))
  clear bel_61
  have x_71 := Lib.hid (RdI.below x_62.out hb)
  clear x_62
  have y_72 := Lib.hid (RdI.below y_63.out hb)
  clear y_63
  have rd_73 := Lib.hid (RdB.below rd_64.out hb)
  clear rd_64
  have srd_74 := Lib.hid (Blk.keep srd_65.out hb)
  clear srd_65
  have z_75 := Lib.hid (RdI.below z_66.out hb)
  clear z_66
  clear hb
  have z_76 : (w_69).cell? ⟨w.heap.size, 0, none⟩ = some (.int .i64 P) := Blk.cell srd_74.out 0
  have z_77 : (w_69).cell? ⟨w.heap.size, 1, none⟩ = some (.slice A n k) := Blk.cell srd_74.out 1
  go_wp2_with fail
  go_quiet (fail)
  clear z_76 z_77
  have bel_78 := Lib.hid (bdrewN bel_70.out nq)
  clear bel_70
  have x_79 := Lib.hid (rdI_drewN x_71.out nq)
  clear x_71
  have y_80 := Lib.hid (rdI_drewN y_72.out nq)
  clear y_72
  have rd_81 := Lib.hid (rdB_drewN rd_73.out nq)
  clear rd_73
  have srd_82 := Lib.hid (blk_drewN srd_74.out nq)
  clear srd_74
  have z_83 := Lib.hid (rdI_drewN z_75.out nq)
  clear z_75
  have z_84 : ((World.drewN w_69 nq)).cell? ⟨w.heap.size, 0, none⟩ = some (.int .i64 P) := Blk.cell srd_82.out 0
  have z_85 : ((World.drewN w_69 nq)).cell? ⟨w.heap.size, 1, none⟩ = some (.slice A n k) := Blk.cell srd_82.out 1
  go_wp2_with fail
  refine (alive_ok _).mono ?_
  rintro e w_86 ⟨rfl, hb⟩
  clear z_84 z_85
  have bel_87 := Lib.hid (Below.trans bel_78.out (Below.mono hb (bel_78.out.size)))
  clear bel_78
  have x_88 := Lib.hid (RdI.below x_79.out hb)
  clear x_79
  have y_89 := Lib.hid (RdI.below y_80.out hb)
  clear y_80
  have rd_90 := Lib.hid (RdB.below rd_81.out hb)
  clear rd_81
  have srd_91 := Lib.hid (Blk.keep srd_82.out hb)
  clear srd_82
  have z_92 := Lib.hid (RdI.below z_83.out hb)
  clear z_83
  clear hb
  go_wp2
  go_ret
  exact ⟨rfl, bel_87.out⟩

set_option maxRecDepth 100000 in
set_option maxHeartbeats 8000000 in
theorem sh_110_F0_1 (P : Int) (A : Option Addr) (n k : Nat) (l : List Bnd) (w : World) (hr : RdB w A n k l) (hn : n ≤ maxLen) (a b : Nat) (N M : Int) (Bx : Option Addr) (m d : Nat) (x : List Int) (hx : RdI w Bx m d x) (hm : m ≤ maxLen) (C : Option Addr) (m2 d2 : Nat) (y : List Int) (hy : RdI w C m2 d2 y) (hm2 : m2 ≤ maxLen) (hw : n ≤ 403) (h7 : m ≤ 70) (h8 : m2 ≤ 70) (hN : -100000000 ≤ N) (hN2 : N ≤ 100000000) (X1 X2 : Int) (E1 : Hid (∀ x t q, endV P l a b true = .tuple #[.int .i64 x, .bool t, .int .i64 q] → x = X1 ∧ t = true ∧ q = 0)) (E2 : Hid (∀ x t q, endV P l a b false = .tuple #[.int .i64 x, .bool t, .int .i64 q] → x = X2 ∧ t = false ∧ q = 0)) (Z : List Int) (hZ : Z.length ≤ 60) (za zb : Int) (hza : Z[a]? = some za) (hzb : Z[b]? = some zb) (z1 : -1000000000000 ≤ za) (z2 : za ≤ 1000000000000) (z3 : -1000000000000 ≤ zb) (z4 : zb ≤ 1000000000000) (hzz : zb - za = N) (E3 : Hid (attainV P l a b N = (Z, true, 0))) (E4 : Hid (keepsV P l Z = (true, 0))) (r1 : N ≤ X1) (E5 : Hid (keepsV P l x = (false, 0))) (E6 : Hid (checkPathV P l a b M y = (true, 0))) (s1 : X1 ≤ M) :
    Calls Try.prog 12 #[.agg #[.int .i64 P, .slice A n k], .int .i64 (a : Int), .int .i64 (b : Int), .int .i64 N, .int .i64 M, .slice Bx m d, .slice C m2 d2] w fun e w' => e = .returned (.bool true) ∧ Below w.heap.size w w' := by
  have g1 : decide (N ≤ X1) = true := decide_eq_true r1
  have g6 : decide (X1 ≤ M) = true := decide_eq_true s1
  have HZA := Lib.hid hza; have HZB := Lib.hid hzb; clear hza hzb
  go_enter Try.func12, Try.ntmps12
  have bel_1 := Lib.hid (show Below w.heap.size w w from Below.refl _ w)
  have x_2 := Lib.hid (hx)
  clear hx
  have y_3 := Lib.hid (hy)
  clear hy
  have rd_4 := Lib.hid (hr)
  clear hr
  have bel_5 := Lib.hid (Below.alloc bel_1.out (bel_1.out.size) (.cells #[.int .i64 P, .slice A n k] 24))
  clear bel_1
  have x_6 := Lib.hid (RdI.alloc x_2.out (.cells #[.int .i64 P, .slice A n k] 24))
  clear x_2
  have y_7 := Lib.hid (RdI.alloc y_3.out (.cells #[.int .i64 P, .slice A n k] 24))
  clear y_3
  have rd_8 := Lib.hid (RdB.alloc rd_4.out (.cells #[.int .i64 P, .slice A n k] 24))
  clear rd_4
  have srd_9 := Lib.hid (Blk.new w 24 #[.int .i64 P, .slice A n k])
  have hc := (show Calls Try.prog 18 #[.agg #[.int .i64 P, .slice A n k]] ((w.alloc (.cells #[.int .i64 P, .slice A n k] 24))) fun e w' => e = .returned (.bool true) ∧ Below ((w.alloc (.cells #[.int .i64 P, .slice A n k] 24))).heap.size ((w.alloc (.cells #[.int .i64 P, .slice A n k] 24))) w' from by have h := wide_any P A n k ((w.alloc (.cells #[.int .i64 P, .slice A n k] 24))); rw [show decide (n ≤ 403) = true from by simpa using hw] at h; exact h)
  have HC := Lib.hid hc; clear hc
  go_wp2_with fail
  refine HC.out.mono ?_
  rintro e w_10 ⟨rfl, hb⟩
  clear HC
  have bel_11 := Lib.hid (Below.trans bel_5.out (Below.mono hb (bel_5.out.size)))
  clear bel_5
  have x_12 := Lib.hid (RdI.below x_6.out hb)
  clear x_6
  have y_13 := Lib.hid (RdI.below y_7.out hb)
  clear y_7
  have rd_14 := Lib.hid (RdB.below rd_8.out hb)
  clear rd_8
  have srd_15 := Lib.hid (Blk.keep srd_9.out hb)
  clear srd_9
  clear hb
  have z_16 : (w_10).cell? ⟨w.heap.size, 0, none⟩ = some (.int .i64 P) := Blk.cell srd_15.out 0
  have z_17 : (w_10).cell? ⟨w.heap.size, 1, none⟩ = some (.slice A n k) := Blk.cell srd_15.out 1
  go_wp2_with fail
  refine (Greatest_any P a b A n k l _ rd_14.out hn).mono ?_
  rintro e w_18 ⟨x_, t_, q_, rfl, hv_, hb⟩
  clear z_16 z_17
  have bel_19 := Lib.hid (Below.trans bel_11.out (Below.mono hb (bel_11.out.size)))
  clear bel_11
  have x_20 := Lib.hid (RdI.below x_12.out hb)
  clear x_12
  have y_21 := Lib.hid (RdI.below y_13.out hb)
  clear y_13
  have rd_22 := Lib.hid (RdB.below rd_14.out hb)
  clear rd_14
  have srd_23 := Lib.hid (Blk.keep srd_15.out hb)
  clear srd_15
  clear hb
  obtain ⟨rfl, rfl, rfl⟩ := E1.out _ _ _ hv_; clear hv_
  have z_24 : (w_18).cell? ⟨w.heap.size, 0, none⟩ = some (.int .i64 P) := Blk.cell srd_23.out 0
  have z_25 : (w_18).cell? ⟨w.heap.size, 1, none⟩ = some (.slice A n k) := Blk.cell srd_23.out 1
  go_wp2_with fail
  refine (Least_any P a b A n k l _ rd_22.out hn).mono ?_
  rintro e w_26 ⟨x_, t_, q_, rfl, hv_, hb⟩
  clear z_24 z_25
  have bel_27 := Lib.hid (Below.trans bel_19.out (Below.mono hb (bel_19.out.size)))
  clear bel_19
  have x_28 := Lib.hid (RdI.below x_20.out hb)
  clear x_20
  have y_29 := Lib.hid (RdI.below y_21.out hb)
  clear y_21
  have rd_30 := Lib.hid (RdB.below rd_22.out hb)
  clear rd_22
  have srd_31 := Lib.hid (Blk.keep srd_23.out hb)
  clear srd_23
  clear hb
  obtain ⟨rfl, rfl, rfl⟩ := E2.out _ _ _ hv_; clear hv_
  have z_32 : (w_26).cell? ⟨w.heap.size, 0, none⟩ = some (.int .i64 P) := Blk.cell srd_31.out 0
  have z_33 : (w_26).cell? ⟨w.heap.size, 1, none⟩ = some (.slice A n k) := Blk.cell srd_31.out 1
  have hc := Attain_any P a b N A n k l _ rd_30.out hn
  rw [E3.out] at hc
  unfold RetI at hc; dsimp only at hc
  have HC := Lib.hid hc; clear hc
  go_wp2_with fail
  refine HC.out.mono ?_
  rintro e w_34 ⟨Az, nz, cz, rfl, ho, hb⟩
  clear HC
  clear z_32 z_33
  have bel_35 := Lib.hid (Below.trans bel_27.out (Below.mono hb (bel_27.out.size)))
  clear bel_27
  have x_36 := Lib.hid (RdI.below x_28.out hb)
  clear x_28
  have y_37 := Lib.hid (RdI.below y_29.out hb)
  clear y_29
  have rd_38 := Lib.hid (RdB.below rd_30.out hb)
  clear rd_30
  have srd_39 := Lib.hid (Blk.keep srd_31.out hb)
  clear srd_31
  have z_40 := Lib.hid ((OwnI.rd ho).1)
  obtain rfl : nz = Z.length := z_40.out.len.symm
  clear ho hb
  have z_41 : (w_34).cell? ⟨w.heap.size, 0, none⟩ = some (.int .i64 P) := Blk.cell srd_39.out 0
  have z_42 : (w_34).cell? ⟨w.heap.size, 1, none⟩ = some (.slice A n k) := Blk.cell srd_39.out 1
  obtain ⟨bz, oz, hAz⟩ := rdI_some z_40.out HZA.out
  subst hAz
  have hc := Keeps_any P A (some ⟨bz, oz, none⟩) n k Z.length cz l Z _ rd_38.out hn z_40.out (by unfold maxLen; omega)
  rw [E4.out] at hc
  dsimp only at hc
  have HC := Lib.hid hc; clear hc
  go_wp2_with fail
  refine HC.out.mono ?_
  rintro e w_43 ⟨rfl, hb⟩
  clear HC
  clear z_41 z_42
  have bel_44 := Lib.hid (Below.trans bel_35.out (Below.mono hb (bel_35.out.size)))
  clear bel_35
  have x_45 := Lib.hid (RdI.below x_36.out hb)
  clear x_36
  have y_46 := Lib.hid (RdI.below y_37.out hb)
  clear y_37
  have rd_47 := Lib.hid (RdB.below rd_38.out hb)
  clear rd_38
  have srd_48 := Lib.hid (Blk.keep srd_39.out hb)
  clear srd_39
  have z_49 := Lib.hid (RdI.below z_40.out hb)
  clear z_40
  clear hb
  have z_50 : (w_43).cell? ⟨w.heap.size, 0, none⟩ = some (.int .i64 P) := Blk.cell srd_48.out 0
  have z_51 : (w_43).cell? ⟨w.heap.size, 1, none⟩ = some (.slice A n k) := Blk.cell srd_48.out 1
  go_wp2_with fail
  obtain ⟨ca, cl⟩ := rdI_at z_49.out HZA.out
  have cb := (rdI_at z_49.out HZB.out).1
  have hnz := (List.getElem?_eq_some_iff.1 HZA.out).1
  have hnzb := (List.getElem?_eq_some_iff.1 HZB.out).1
  have hne : decide (zb - za ≠ N) = false := decide_eq_false (by omega)
  go_quiet (fail)
  clear ca cb cl hne
  clear z_50 z_51
  have bel_52 := Lib.hid (bdrewN bel_44.out nq)
  clear bel_44
  have x_53 := Lib.hid (rdI_drewN x_45.out nq)
  clear x_45
  have y_54 := Lib.hid (rdI_drewN y_46.out nq)
  clear y_46
  have rd_55 := Lib.hid (rdB_drewN rd_47.out nq)
  clear rd_47
  have srd_56 := Lib.hid (blk_drewN srd_48.out nq)
  clear srd_48
  have z_57 := Lib.hid (rdI_drewN z_49.out nq)
  clear z_49
  have z_58 : ((World.drewN w_43 nq)).cell? ⟨w.heap.size, 0, none⟩ = some (.int .i64 P) := Blk.cell srd_56.out 0
  have z_59 : ((World.drewN w_43 nq)).cell? ⟨w.heap.size, 1, none⟩ = some (.slice A n k) := Blk.cell srd_56.out 1
  have hc := Keeps_any P A Bx n k m d l x _ rd_55.out hn x_53.out hm
  rw [E5.out] at hc
  dsimp only at hc
  have HC := Lib.hid hc; clear hc
  go_wp2_with fail
  refine HC.out.mono ?_
  rintro e w_60 ⟨rfl, hb⟩
  clear HC
  clear z_58 z_59
  have bel_61 := Lib.hid (Below.trans bel_52.out (Below.mono hb (bel_52.out.size)))
  clear bel_52
  have x_62 := Lib.hid (RdI.below x_53.out hb)
  clear x_53
  have y_63 := Lib.hid (RdI.below y_54.out hb)
  clear y_54
  have rd_64 := Lib.hid (RdB.below rd_55.out hb)
  clear rd_55
  have srd_65 := Lib.hid (Blk.keep srd_56.out hb)
  clear srd_56
  have z_66 := Lib.hid (RdI.below z_57.out hb)
  clear z_57
  clear hb
  have z_67 : (w_60).cell? ⟨w.heap.size, 0, none⟩ = some (.int .i64 P) := Blk.cell srd_65.out 0
  have z_68 : (w_60).cell? ⟨w.heap.size, 1, none⟩ = some (.slice A n k) := Blk.cell srd_65.out 1
  have hc := CheckPath_any P a b M A C n k m2 d2 l y _ rd_64.out hn y_63.out hm2
  rw [E6.out] at hc
  dsimp only at hc
  have HC := Lib.hid hc; clear hc
  go_wp2_with fail
  refine HC.out.mono ?_
  rintro e w_69 ⟨rfl, hb⟩
  clear HC
  clear z_67 z_68
  have bel_70 := Lib.hid (Below.trans bel_61.out (Below.mono hb (bel_61.out.size)))
  clear bel_61
  have x_71 := Lib.hid (RdI.below x_62.out hb)
  clear x_62
  have y_72 := Lib.hid (RdI.below y_63.out hb)
  clear y_63
  have rd_73 := Lib.hid (RdB.below rd_64.out hb)
  clear rd_64
  have srd_74 := Lib.hid (Blk.keep srd_65.out hb)
  clear srd_65
  have z_75 := Lib.hid (RdI.below z_66.out hb)
  clear z_66
  clear hb
  have z_76 : (w_69).cell? ⟨w.heap.size, 0, none⟩ = some (.int .i64 P) := Blk.cell srd_74.out 0
  have z_77 : (w_69).cell? ⟨w.heap.size, 1, none⟩ = some (.slice A n k) := Blk.cell srd_74.out 1
  go_wp2_with fail
  go_quiet (fail)
  clear z_76 z_77
  have bel_78 := Lib.hid (bdrewN bel_70.out nq)
  clear bel_70
  have x_79 := Lib.hid (rdI_drewN x_71.out nq)
  clear x_71
  have y_80 := Lib.hid (rdI_drewN y_72.out nq)
  clear y_72
  have rd_81 := Lib.hid (rdB_drewN rd_73.out nq)
  clear rd_73
  have srd_82 := Lib.hid (blk_drewN srd_74.out nq)
  clear srd_74
  have z_83 := Lib.hid (rdI_drewN z_75.out nq)
  clear z_75
  have z_84 : ((World.drewN w_69 nq)).cell? ⟨w.heap.size, 0, none⟩ = some (.int .i64 P) := Blk.cell srd_82.out 0
  have z_85 : ((World.drewN w_69 nq)).cell? ⟨w.heap.size, 1, none⟩ = some (.slice A n k) := Blk.cell srd_82.out 1
  go_wp2_with fail
  refine (alive_ok _).mono ?_
  rintro e w_86 ⟨rfl, hb⟩
  clear z_84 z_85
  have bel_87 := Lib.hid (Below.trans bel_78.out (Below.mono hb (bel_78.out.size)))
  clear bel_78
  have x_88 := Lib.hid (RdI.below x_79.out hb)
  clear x_79
  have y_89 := Lib.hid (RdI.below y_80.out hb)
  clear y_80
  have rd_90 := Lib.hid (RdB.below rd_81.out hb)
  clear rd_81
  have srd_91 := Lib.hid (Blk.keep srd_82.out hb)
  clear srd_82
  have z_92 := Lib.hid (RdI.below z_83.out hb)
  clear z_83
  clear hb
  go_wp2
  go_ret
  exact ⟨rfl, bel_87.out⟩

set_option maxRecDepth 100000 in
set_option maxHeartbeats 8000000 in
theorem sh_110_F1_0 (P : Int) (A : Option Addr) (n k : Nat) (l : List Bnd) (w : World) (hr : RdB w A n k l) (hn : n ≤ maxLen) (a b : Nat) (N M : Int) (Bx : Option Addr) (m d : Nat) (x : List Int) (hx : RdI w Bx m d x) (hm : m ≤ maxLen) (C : Option Addr) (m2 d2 : Nat) (y : List Int) (hy : RdI w C m2 d2 y) (hm2 : m2 ≤ maxLen) (hw : n ≤ 403) (h7 : m ≤ 70) (h8 : m2 ≤ 70) (hN : -100000000 ≤ N) (hN2 : N ≤ 100000000) (X1 X2 : Int) (E1 : Hid (∀ x t q, endV P l a b true = .tuple #[.int .i64 x, .bool t, .int .i64 q] → x = X1 ∧ t = true ∧ q = 0)) (E2 : Hid (∀ x t q, endV P l a b false = .tuple #[.int .i64 x, .bool t, .int .i64 q] → x = X2 ∧ t = false ∧ q = 0)) (Z : List Int) (hZ : Z.length ≤ 60) (za zb : Int) (hza : Z[a]? = some za) (hzb : Z[b]? = some zb) (z1 : -1000000000000 ≤ za) (z2 : za ≤ 1000000000000) (z3 : -1000000000000 ≤ zb) (z4 : zb ≤ 1000000000000) (hzz : zb - za = N) (E3 : Hid (attainV P l a b N = (Z, true, 0))) (E4 : Hid (keepsV P l Z = (true, 0))) (r1 : N ≤ X1) (E5 : Hid (keepsV P l x = (false, 1))) (E6 : Hid (checkPathV P l a b M y = (false, 0))) :
    Calls Try.prog 12 #[.agg #[.int .i64 P, .slice A n k], .int .i64 (a : Int), .int .i64 (b : Int), .int .i64 N, .int .i64 M, .slice Bx m d, .slice C m2 d2] w fun e w' => e = .returned (.bool true) ∧ Below w.heap.size w w' := by
  have g1 : decide (N ≤ X1) = true := decide_eq_true r1
  have HZA := Lib.hid hza; have HZB := Lib.hid hzb; clear hza hzb
  go_enter Try.func12, Try.ntmps12
  have bel_1 := Lib.hid (show Below w.heap.size w w from Below.refl _ w)
  have x_2 := Lib.hid (hx)
  clear hx
  have y_3 := Lib.hid (hy)
  clear hy
  have rd_4 := Lib.hid (hr)
  clear hr
  have bel_5 := Lib.hid (Below.alloc bel_1.out (bel_1.out.size) (.cells #[.int .i64 P, .slice A n k] 24))
  clear bel_1
  have x_6 := Lib.hid (RdI.alloc x_2.out (.cells #[.int .i64 P, .slice A n k] 24))
  clear x_2
  have y_7 := Lib.hid (RdI.alloc y_3.out (.cells #[.int .i64 P, .slice A n k] 24))
  clear y_3
  have rd_8 := Lib.hid (RdB.alloc rd_4.out (.cells #[.int .i64 P, .slice A n k] 24))
  clear rd_4
  have srd_9 := Lib.hid (Blk.new w 24 #[.int .i64 P, .slice A n k])
  have hc := (show Calls Try.prog 18 #[.agg #[.int .i64 P, .slice A n k]] ((w.alloc (.cells #[.int .i64 P, .slice A n k] 24))) fun e w' => e = .returned (.bool true) ∧ Below ((w.alloc (.cells #[.int .i64 P, .slice A n k] 24))).heap.size ((w.alloc (.cells #[.int .i64 P, .slice A n k] 24))) w' from by have h := wide_any P A n k ((w.alloc (.cells #[.int .i64 P, .slice A n k] 24))); rw [show decide (n ≤ 403) = true from by simpa using hw] at h; exact h)
  have HC := Lib.hid hc; clear hc
  go_wp2_with fail
  refine HC.out.mono ?_
  rintro e w_10 ⟨rfl, hb⟩
  clear HC
  have bel_11 := Lib.hid (Below.trans bel_5.out (Below.mono hb (bel_5.out.size)))
  clear bel_5
  have x_12 := Lib.hid (RdI.below x_6.out hb)
  clear x_6
  have y_13 := Lib.hid (RdI.below y_7.out hb)
  clear y_7
  have rd_14 := Lib.hid (RdB.below rd_8.out hb)
  clear rd_8
  have srd_15 := Lib.hid (Blk.keep srd_9.out hb)
  clear srd_9
  clear hb
  have z_16 : (w_10).cell? ⟨w.heap.size, 0, none⟩ = some (.int .i64 P) := Blk.cell srd_15.out 0
  have z_17 : (w_10).cell? ⟨w.heap.size, 1, none⟩ = some (.slice A n k) := Blk.cell srd_15.out 1
  go_wp2_with fail
  refine (Greatest_any P a b A n k l _ rd_14.out hn).mono ?_
  rintro e w_18 ⟨x_, t_, q_, rfl, hv_, hb⟩
  clear z_16 z_17
  have bel_19 := Lib.hid (Below.trans bel_11.out (Below.mono hb (bel_11.out.size)))
  clear bel_11
  have x_20 := Lib.hid (RdI.below x_12.out hb)
  clear x_12
  have y_21 := Lib.hid (RdI.below y_13.out hb)
  clear y_13
  have rd_22 := Lib.hid (RdB.below rd_14.out hb)
  clear rd_14
  have srd_23 := Lib.hid (Blk.keep srd_15.out hb)
  clear srd_15
  clear hb
  obtain ⟨rfl, rfl, rfl⟩ := E1.out _ _ _ hv_; clear hv_
  have z_24 : (w_18).cell? ⟨w.heap.size, 0, none⟩ = some (.int .i64 P) := Blk.cell srd_23.out 0
  have z_25 : (w_18).cell? ⟨w.heap.size, 1, none⟩ = some (.slice A n k) := Blk.cell srd_23.out 1
  go_wp2_with fail
  refine (Least_any P a b A n k l _ rd_22.out hn).mono ?_
  rintro e w_26 ⟨x_, t_, q_, rfl, hv_, hb⟩
  clear z_24 z_25
  have bel_27 := Lib.hid (Below.trans bel_19.out (Below.mono hb (bel_19.out.size)))
  clear bel_19
  have x_28 := Lib.hid (RdI.below x_20.out hb)
  clear x_20
  have y_29 := Lib.hid (RdI.below y_21.out hb)
  clear y_21
  have rd_30 := Lib.hid (RdB.below rd_22.out hb)
  clear rd_22
  have srd_31 := Lib.hid (Blk.keep srd_23.out hb)
  clear srd_23
  clear hb
  obtain ⟨rfl, rfl, rfl⟩ := E2.out _ _ _ hv_; clear hv_
  have z_32 : (w_26).cell? ⟨w.heap.size, 0, none⟩ = some (.int .i64 P) := Blk.cell srd_31.out 0
  have z_33 : (w_26).cell? ⟨w.heap.size, 1, none⟩ = some (.slice A n k) := Blk.cell srd_31.out 1
  have hc := Attain_any P a b N A n k l _ rd_30.out hn
  rw [E3.out] at hc
  unfold RetI at hc; dsimp only at hc
  have HC := Lib.hid hc; clear hc
  go_wp2_with fail
  refine HC.out.mono ?_
  rintro e w_34 ⟨Az, nz, cz, rfl, ho, hb⟩
  clear HC
  clear z_32 z_33
  have bel_35 := Lib.hid (Below.trans bel_27.out (Below.mono hb (bel_27.out.size)))
  clear bel_27
  have x_36 := Lib.hid (RdI.below x_28.out hb)
  clear x_28
  have y_37 := Lib.hid (RdI.below y_29.out hb)
  clear y_29
  have rd_38 := Lib.hid (RdB.below rd_30.out hb)
  clear rd_30
  have srd_39 := Lib.hid (Blk.keep srd_31.out hb)
  clear srd_31
  have z_40 := Lib.hid ((OwnI.rd ho).1)
  obtain rfl : nz = Z.length := z_40.out.len.symm
  clear ho hb
  have z_41 : (w_34).cell? ⟨w.heap.size, 0, none⟩ = some (.int .i64 P) := Blk.cell srd_39.out 0
  have z_42 : (w_34).cell? ⟨w.heap.size, 1, none⟩ = some (.slice A n k) := Blk.cell srd_39.out 1
  obtain ⟨bz, oz, hAz⟩ := rdI_some z_40.out HZA.out
  subst hAz
  have hc := Keeps_any P A (some ⟨bz, oz, none⟩) n k Z.length cz l Z _ rd_38.out hn z_40.out (by unfold maxLen; omega)
  rw [E4.out] at hc
  dsimp only at hc
  have HC := Lib.hid hc; clear hc
  go_wp2_with fail
  refine HC.out.mono ?_
  rintro e w_43 ⟨rfl, hb⟩
  clear HC
  clear z_41 z_42
  have bel_44 := Lib.hid (Below.trans bel_35.out (Below.mono hb (bel_35.out.size)))
  clear bel_35
  have x_45 := Lib.hid (RdI.below x_36.out hb)
  clear x_36
  have y_46 := Lib.hid (RdI.below y_37.out hb)
  clear y_37
  have rd_47 := Lib.hid (RdB.below rd_38.out hb)
  clear rd_38
  have srd_48 := Lib.hid (Blk.keep srd_39.out hb)
  clear srd_39
  have z_49 := Lib.hid (RdI.below z_40.out hb)
  clear z_40
  clear hb
  have z_50 : (w_43).cell? ⟨w.heap.size, 0, none⟩ = some (.int .i64 P) := Blk.cell srd_48.out 0
  have z_51 : (w_43).cell? ⟨w.heap.size, 1, none⟩ = some (.slice A n k) := Blk.cell srd_48.out 1
  go_wp2_with fail
  obtain ⟨ca, cl⟩ := rdI_at z_49.out HZA.out
  have cb := (rdI_at z_49.out HZB.out).1
  have hnz := (List.getElem?_eq_some_iff.1 HZA.out).1
  have hnzb := (List.getElem?_eq_some_iff.1 HZB.out).1
  have hne : decide (zb - za ≠ N) = false := decide_eq_false (by omega)
  go_quiet (fail)
  clear ca cb cl hne
  clear z_50 z_51
  have bel_52 := Lib.hid (bdrewN bel_44.out nq)
  clear bel_44
  have x_53 := Lib.hid (rdI_drewN x_45.out nq)
  clear x_45
  have y_54 := Lib.hid (rdI_drewN y_46.out nq)
  clear y_46
  have rd_55 := Lib.hid (rdB_drewN rd_47.out nq)
  clear rd_47
  have srd_56 := Lib.hid (blk_drewN srd_48.out nq)
  clear srd_48
  have z_57 := Lib.hid (rdI_drewN z_49.out nq)
  clear z_49
  have z_58 : ((World.drewN w_43 nq)).cell? ⟨w.heap.size, 0, none⟩ = some (.int .i64 P) := Blk.cell srd_56.out 0
  have z_59 : ((World.drewN w_43 nq)).cell? ⟨w.heap.size, 1, none⟩ = some (.slice A n k) := Blk.cell srd_56.out 1
  have hc := Keeps_any P A Bx n k m d l x _ rd_55.out hn x_53.out hm
  rw [E5.out] at hc
  dsimp only at hc
  have HC := Lib.hid hc; clear hc
  go_wp2_with fail
  refine HC.out.mono ?_
  rintro e w_60 ⟨rfl, hb⟩
  clear HC
  clear z_58 z_59
  have bel_61 := Lib.hid (Below.trans bel_52.out (Below.mono hb (bel_52.out.size)))
  clear bel_52
  have x_62 := Lib.hid (RdI.below x_53.out hb)
  clear x_53
  have y_63 := Lib.hid (RdI.below y_54.out hb)
  clear y_54
  have rd_64 := Lib.hid (RdB.below rd_55.out hb)
  clear rd_55
  have srd_65 := Lib.hid (Blk.keep srd_56.out hb)
  clear srd_56
  have z_66 := Lib.hid (RdI.below z_57.out hb)
  clear z_57
  clear hb
  have z_67 : (w_60).cell? ⟨w.heap.size, 0, none⟩ = some (.int .i64 P) := Blk.cell srd_65.out 0
  have z_68 : (w_60).cell? ⟨w.heap.size, 1, none⟩ = some (.slice A n k) := Blk.cell srd_65.out 1
  have hc := CheckPath_any P a b M A C n k m2 d2 l y _ rd_64.out hn y_63.out hm2
  rw [E6.out] at hc
  dsimp only at hc
  have HC := Lib.hid hc; clear hc
  go_wp2_with fail
  refine HC.out.mono ?_
  rintro e w_69 ⟨rfl, hb⟩
  clear HC
  clear z_67 z_68
  have bel_70 := Lib.hid (Below.trans bel_61.out (Below.mono hb (bel_61.out.size)))
  clear bel_61
  have x_71 := Lib.hid (RdI.below x_62.out hb)
  clear x_62
  have y_72 := Lib.hid (RdI.below y_63.out hb)
  clear y_63
  have rd_73 := Lib.hid (RdB.below rd_64.out hb)
  clear rd_64
  have srd_74 := Lib.hid (Blk.keep srd_65.out hb)
  clear srd_65
  have z_75 := Lib.hid (RdI.below z_66.out hb)
  clear z_66
  clear hb
  have z_76 : (w_69).cell? ⟨w.heap.size, 0, none⟩ = some (.int .i64 P) := Blk.cell srd_74.out 0
  have z_77 : (w_69).cell? ⟨w.heap.size, 1, none⟩ = some (.slice A n k) := Blk.cell srd_74.out 1
  go_wp2_with fail
  go_quiet (fail)
  clear z_76 z_77
  have bel_78 := Lib.hid (bdrewN bel_70.out nq)
  clear bel_70
  have x_79 := Lib.hid (rdI_drewN x_71.out nq)
  clear x_71
  have y_80 := Lib.hid (rdI_drewN y_72.out nq)
  clear y_72
  have rd_81 := Lib.hid (rdB_drewN rd_73.out nq)
  clear rd_73
  have srd_82 := Lib.hid (blk_drewN srd_74.out nq)
  clear srd_74
  have z_83 := Lib.hid (rdI_drewN z_75.out nq)
  clear z_75
  have z_84 : ((World.drewN w_69 nq)).cell? ⟨w.heap.size, 0, none⟩ = some (.int .i64 P) := Blk.cell srd_82.out 0
  have z_85 : ((World.drewN w_69 nq)).cell? ⟨w.heap.size, 1, none⟩ = some (.slice A n k) := Blk.cell srd_82.out 1
  go_wp2_with fail
  refine (alive_ok _).mono ?_
  rintro e w_86 ⟨rfl, hb⟩
  clear z_84 z_85
  have bel_87 := Lib.hid (Below.trans bel_78.out (Below.mono hb (bel_78.out.size)))
  clear bel_78
  have x_88 := Lib.hid (RdI.below x_79.out hb)
  clear x_79
  have y_89 := Lib.hid (RdI.below y_80.out hb)
  clear y_80
  have rd_90 := Lib.hid (RdB.below rd_81.out hb)
  clear rd_81
  have srd_91 := Lib.hid (Blk.keep srd_82.out hb)
  clear srd_82
  have z_92 := Lib.hid (RdI.below z_83.out hb)
  clear z_83
  clear hb
  go_wp2
  go_ret
  exact ⟨rfl, bel_87.out⟩

set_option maxRecDepth 100000 in
set_option maxHeartbeats 8000000 in
theorem sh_101_F1_0 (P : Int) (A : Option Addr) (n k : Nat) (l : List Bnd) (w : World) (hr : RdB w A n k l) (hn : n ≤ maxLen) (a b : Nat) (N M : Int) (Bx : Option Addr) (m d : Nat) (x : List Int) (hx : RdI w Bx m d x) (hm : m ≤ maxLen) (C : Option Addr) (m2 d2 : Nat) (y : List Int) (hy : RdI w C m2 d2 y) (hm2 : m2 ≤ maxLen) (hw : n ≤ 403) (h7 : m ≤ 70) (h8 : m2 ≤ 70) (hN : -100000000 ≤ N) (hN2 : N ≤ 100000000) (X1 X2 : Int) (E1 : Hid (∀ x t q, endV P l a b true = .tuple #[.int .i64 x, .bool t, .int .i64 q] → x = X1 ∧ t = false ∧ q = 0)) (E2 : Hid (∀ x t q, endV P l a b false = .tuple #[.int .i64 x, .bool t, .int .i64 q] → x = X2 ∧ t = true ∧ q = 0)) (Z : List Int) (hZ : Z.length ≤ 60) (za zb : Int) (hza : Z[a]? = some za) (hzb : Z[b]? = some zb) (z1 : -1000000000000 ≤ za) (z2 : za ≤ 1000000000000) (z3 : -1000000000000 ≤ zb) (z4 : zb ≤ 1000000000000) (hzz : zb - za = N) (E3 : Hid (attainV P l a b N = (Z, true, 0))) (E4 : Hid (keepsV P l Z = (true, 0))) (r2 : X2 ≤ N) (E5 : Hid (keepsV P l x = (false, 1))) (E6 : Hid (checkPathV P l a b M y = (false, 0))) :
    Calls Try.prog 12 #[.agg #[.int .i64 P, .slice A n k], .int .i64 (a : Int), .int .i64 (b : Int), .int .i64 N, .int .i64 M, .slice Bx m d, .slice C m2 d2] w fun e w' => e = .returned (.bool true) ∧ Below w.heap.size w w' := by
  have g2 : decide (X2 ≤ N) = true := decide_eq_true r2
  have HZA := Lib.hid hza; have HZB := Lib.hid hzb; clear hza hzb
  go_enter Try.func12, Try.ntmps12
  have bel_1 := Lib.hid (show Below w.heap.size w w from Below.refl _ w)
  have x_2 := Lib.hid (hx)
  clear hx
  have y_3 := Lib.hid (hy)
  clear hy
  have rd_4 := Lib.hid (hr)
  clear hr
  have bel_5 := Lib.hid (Below.alloc bel_1.out (bel_1.out.size) (.cells #[.int .i64 P, .slice A n k] 24))
  clear bel_1
  have x_6 := Lib.hid (RdI.alloc x_2.out (.cells #[.int .i64 P, .slice A n k] 24))
  clear x_2
  have y_7 := Lib.hid (RdI.alloc y_3.out (.cells #[.int .i64 P, .slice A n k] 24))
  clear y_3
  have rd_8 := Lib.hid (RdB.alloc rd_4.out (.cells #[.int .i64 P, .slice A n k] 24))
  clear rd_4
  have srd_9 := Lib.hid (Blk.new w 24 #[.int .i64 P, .slice A n k])
  have hc := (show Calls Try.prog 18 #[.agg #[.int .i64 P, .slice A n k]] ((w.alloc (.cells #[.int .i64 P, .slice A n k] 24))) fun e w' => e = .returned (.bool true) ∧ Below ((w.alloc (.cells #[.int .i64 P, .slice A n k] 24))).heap.size ((w.alloc (.cells #[.int .i64 P, .slice A n k] 24))) w' from by have h := wide_any P A n k ((w.alloc (.cells #[.int .i64 P, .slice A n k] 24))); rw [show decide (n ≤ 403) = true from by simpa using hw] at h; exact h)
  have HC := Lib.hid hc; clear hc
  go_wp2_with fail
  refine HC.out.mono ?_
  rintro e w_10 ⟨rfl, hb⟩
  clear HC
  have bel_11 := Lib.hid (Below.trans bel_5.out (Below.mono hb (bel_5.out.size)))
  clear bel_5
  have x_12 := Lib.hid (RdI.below x_6.out hb)
  clear x_6
  have y_13 := Lib.hid (RdI.below y_7.out hb)
  clear y_7
  have rd_14 := Lib.hid (RdB.below rd_8.out hb)
  clear rd_8
  have srd_15 := Lib.hid (Blk.keep srd_9.out hb)
  clear srd_9
  clear hb
  have z_16 : (w_10).cell? ⟨w.heap.size, 0, none⟩ = some (.int .i64 P) := Blk.cell srd_15.out 0
  have z_17 : (w_10).cell? ⟨w.heap.size, 1, none⟩ = some (.slice A n k) := Blk.cell srd_15.out 1
  go_wp2_with fail
  refine (Greatest_any P a b A n k l _ rd_14.out hn).mono ?_
  rintro e w_18 ⟨x_, t_, q_, rfl, hv_, hb⟩
  clear z_16 z_17
  have bel_19 := Lib.hid (Below.trans bel_11.out (Below.mono hb (bel_11.out.size)))
  clear bel_11
  have x_20 := Lib.hid (RdI.below x_12.out hb)
  clear x_12
  have y_21 := Lib.hid (RdI.below y_13.out hb)
  clear y_13
  have rd_22 := Lib.hid (RdB.below rd_14.out hb)
  clear rd_14
  have srd_23 := Lib.hid (Blk.keep srd_15.out hb)
  clear srd_15
  clear hb
  obtain ⟨rfl, rfl, rfl⟩ := E1.out _ _ _ hv_; clear hv_
  have z_24 : (w_18).cell? ⟨w.heap.size, 0, none⟩ = some (.int .i64 P) := Blk.cell srd_23.out 0
  have z_25 : (w_18).cell? ⟨w.heap.size, 1, none⟩ = some (.slice A n k) := Blk.cell srd_23.out 1
  go_wp2_with fail
  refine (Least_any P a b A n k l _ rd_22.out hn).mono ?_
  rintro e w_26 ⟨x_, t_, q_, rfl, hv_, hb⟩
  clear z_24 z_25
  have bel_27 := Lib.hid (Below.trans bel_19.out (Below.mono hb (bel_19.out.size)))
  clear bel_19
  have x_28 := Lib.hid (RdI.below x_20.out hb)
  clear x_20
  have y_29 := Lib.hid (RdI.below y_21.out hb)
  clear y_21
  have rd_30 := Lib.hid (RdB.below rd_22.out hb)
  clear rd_22
  have srd_31 := Lib.hid (Blk.keep srd_23.out hb)
  clear srd_23
  clear hb
  obtain ⟨rfl, rfl, rfl⟩ := E2.out _ _ _ hv_; clear hv_
  have z_32 : (w_26).cell? ⟨w.heap.size, 0, none⟩ = some (.int .i64 P) := Blk.cell srd_31.out 0
  have z_33 : (w_26).cell? ⟨w.heap.size, 1, none⟩ = some (.slice A n k) := Blk.cell srd_31.out 1
  have hc := Attain_any P a b N A n k l _ rd_30.out hn
  rw [E3.out] at hc
  unfold RetI at hc; dsimp only at hc
  have HC := Lib.hid hc; clear hc
  go_wp2_with fail
  refine HC.out.mono ?_
  rintro e w_34 ⟨Az, nz, cz, rfl, ho, hb⟩
  clear HC
  clear z_32 z_33
  have bel_35 := Lib.hid (Below.trans bel_27.out (Below.mono hb (bel_27.out.size)))
  clear bel_27
  have x_36 := Lib.hid (RdI.below x_28.out hb)
  clear x_28
  have y_37 := Lib.hid (RdI.below y_29.out hb)
  clear y_29
  have rd_38 := Lib.hid (RdB.below rd_30.out hb)
  clear rd_30
  have srd_39 := Lib.hid (Blk.keep srd_31.out hb)
  clear srd_31
  have z_40 := Lib.hid ((OwnI.rd ho).1)
  obtain rfl : nz = Z.length := z_40.out.len.symm
  clear ho hb
  have z_41 : (w_34).cell? ⟨w.heap.size, 0, none⟩ = some (.int .i64 P) := Blk.cell srd_39.out 0
  have z_42 : (w_34).cell? ⟨w.heap.size, 1, none⟩ = some (.slice A n k) := Blk.cell srd_39.out 1
  obtain ⟨bz, oz, hAz⟩ := rdI_some z_40.out HZA.out
  subst hAz
  have hc := Keeps_any P A (some ⟨bz, oz, none⟩) n k Z.length cz l Z _ rd_38.out hn z_40.out (by unfold maxLen; omega)
  rw [E4.out] at hc
  dsimp only at hc
  have HC := Lib.hid hc; clear hc
  go_wp2_with fail
  refine HC.out.mono ?_
  rintro e w_43 ⟨rfl, hb⟩
  clear HC
  clear z_41 z_42
  have bel_44 := Lib.hid (Below.trans bel_35.out (Below.mono hb (bel_35.out.size)))
  clear bel_35
  have x_45 := Lib.hid (RdI.below x_36.out hb)
  clear x_36
  have y_46 := Lib.hid (RdI.below y_37.out hb)
  clear y_37
  have rd_47 := Lib.hid (RdB.below rd_38.out hb)
  clear rd_38
  have srd_48 := Lib.hid (Blk.keep srd_39.out hb)
  clear srd_39
  have z_49 := Lib.hid (RdI.below z_40.out hb)
  clear z_40
  clear hb
  have z_50 : (w_43).cell? ⟨w.heap.size, 0, none⟩ = some (.int .i64 P) := Blk.cell srd_48.out 0
  have z_51 : (w_43).cell? ⟨w.heap.size, 1, none⟩ = some (.slice A n k) := Blk.cell srd_48.out 1
  go_wp2_with fail
  obtain ⟨ca, cl⟩ := rdI_at z_49.out HZA.out
  have cb := (rdI_at z_49.out HZB.out).1
  have hnz := (List.getElem?_eq_some_iff.1 HZA.out).1
  have hnzb := (List.getElem?_eq_some_iff.1 HZB.out).1
  have hne : decide (zb - za ≠ N) = false := decide_eq_false (by omega)
  go_quiet (fail)
  clear ca cb cl hne
  clear z_50 z_51
  have bel_52 := Lib.hid (bdrewN bel_44.out nq)
  clear bel_44
  have x_53 := Lib.hid (rdI_drewN x_45.out nq)
  clear x_45
  have y_54 := Lib.hid (rdI_drewN y_46.out nq)
  clear y_46
  have rd_55 := Lib.hid (rdB_drewN rd_47.out nq)
  clear rd_47
  have srd_56 := Lib.hid (blk_drewN srd_48.out nq)
  clear srd_48
  have z_57 := Lib.hid (rdI_drewN z_49.out nq)
  clear z_49
  have z_58 : ((World.drewN w_43 nq)).cell? ⟨w.heap.size, 0, none⟩ = some (.int .i64 P) := Blk.cell srd_56.out 0
  have z_59 : ((World.drewN w_43 nq)).cell? ⟨w.heap.size, 1, none⟩ = some (.slice A n k) := Blk.cell srd_56.out 1
  have hc := Keeps_any P A Bx n k m d l x _ rd_55.out hn x_53.out hm
  rw [E5.out] at hc
  dsimp only at hc
  have HC := Lib.hid hc; clear hc
  go_wp2_with fail
  refine HC.out.mono ?_
  rintro e w_60 ⟨rfl, hb⟩
  clear HC
  clear z_58 z_59
  have bel_61 := Lib.hid (Below.trans bel_52.out (Below.mono hb (bel_52.out.size)))
  clear bel_52
  have x_62 := Lib.hid (RdI.below x_53.out hb)
  clear x_53
  have y_63 := Lib.hid (RdI.below y_54.out hb)
  clear y_54
  have rd_64 := Lib.hid (RdB.below rd_55.out hb)
  clear rd_55
  have srd_65 := Lib.hid (Blk.keep srd_56.out hb)
  clear srd_56
  have z_66 := Lib.hid (RdI.below z_57.out hb)
  clear z_57
  clear hb
  have z_67 : (w_60).cell? ⟨w.heap.size, 0, none⟩ = some (.int .i64 P) := Blk.cell srd_65.out 0
  have z_68 : (w_60).cell? ⟨w.heap.size, 1, none⟩ = some (.slice A n k) := Blk.cell srd_65.out 1
  have hc := CheckPath_any P a b M A C n k m2 d2 l y _ rd_64.out hn y_63.out hm2
  rw [E6.out] at hc
  dsimp only at hc
  have HC := Lib.hid hc; clear hc
  go_wp2_with fail
  refine HC.out.mono ?_
  rintro e w_69 ⟨rfl, hb⟩
  clear HC
  clear z_67 z_68
  have bel_70 := Lib.hid (Below.trans bel_61.out (Below.mono hb (bel_61.out.size)))
  clear bel_61
  have x_71 := Lib.hid (RdI.below x_62.out hb)
  clear x_62
  have y_72 := Lib.hid (RdI.below y_63.out hb)
  clear y_63
  have rd_73 := Lib.hid (RdB.below rd_64.out hb)
  clear rd_64
  have srd_74 := Lib.hid (Blk.keep srd_65.out hb)
  clear srd_65
  have z_75 := Lib.hid (RdI.below z_66.out hb)
  clear z_66
  clear hb
  have z_76 : (w_69).cell? ⟨w.heap.size, 0, none⟩ = some (.int .i64 P) := Blk.cell srd_74.out 0
  have z_77 : (w_69).cell? ⟨w.heap.size, 1, none⟩ = some (.slice A n k) := Blk.cell srd_74.out 1
  go_wp2_with fail
  go_quiet (fail)
  clear z_76 z_77
  have bel_78 := Lib.hid (bdrewN bel_70.out nq)
  clear bel_70
  have x_79 := Lib.hid (rdI_drewN x_71.out nq)
  clear x_71
  have y_80 := Lib.hid (rdI_drewN y_72.out nq)
  clear y_72
  have rd_81 := Lib.hid (rdB_drewN rd_73.out nq)
  clear rd_73
  have srd_82 := Lib.hid (blk_drewN srd_74.out nq)
  clear srd_74
  have z_83 := Lib.hid (rdI_drewN z_75.out nq)
  clear z_75
  have z_84 : ((World.drewN w_69 nq)).cell? ⟨w.heap.size, 0, none⟩ = some (.int .i64 P) := Blk.cell srd_82.out 0
  have z_85 : ((World.drewN w_69 nq)).cell? ⟨w.heap.size, 1, none⟩ = some (.slice A n k) := Blk.cell srd_82.out 1
  go_wp2_with fail
  refine (alive_ok _).mono ?_
  rintro e w_86 ⟨rfl, hb⟩
  clear z_84 z_85
  have bel_87 := Lib.hid (Below.trans bel_78.out (Below.mono hb (bel_78.out.size)))
  clear bel_78
  have x_88 := Lib.hid (RdI.below x_79.out hb)
  clear x_79
  have y_89 := Lib.hid (RdI.below y_80.out hb)
  clear y_80
  have rd_90 := Lib.hid (RdB.below rd_81.out hb)
  clear rd_81
  have srd_91 := Lib.hid (Blk.keep srd_82.out hb)
  clear srd_82
  have z_92 := Lib.hid (RdI.below z_83.out hb)
  clear z_83
  clear hb
  go_wp2
  go_ret
  exact ⟨rfl, bel_87.out⟩

set_option maxRecDepth 100000 in
set_option maxHeartbeats 8000000 in
theorem sh_100_F1_0 (P : Int) (A : Option Addr) (n k : Nat) (l : List Bnd) (w : World) (hr : RdB w A n k l) (hn : n ≤ maxLen) (a b : Nat) (N M : Int) (Bx : Option Addr) (m d : Nat) (x : List Int) (hx : RdI w Bx m d x) (hm : m ≤ maxLen) (C : Option Addr) (m2 d2 : Nat) (y : List Int) (hy : RdI w C m2 d2 y) (hm2 : m2 ≤ maxLen) (hw : n ≤ 403) (h7 : m ≤ 70) (h8 : m2 ≤ 70) (hN : -100000000 ≤ N) (hN2 : N ≤ 100000000) (X1 X2 : Int) (E1 : Hid (∀ x t q, endV P l a b true = .tuple #[.int .i64 x, .bool t, .int .i64 q] → x = X1 ∧ t = false ∧ q = 0)) (E2 : Hid (∀ x t q, endV P l a b false = .tuple #[.int .i64 x, .bool t, .int .i64 q] → x = X2 ∧ t = false ∧ q = 0)) (Z : List Int) (hZ : Z.length ≤ 60) (za zb : Int) (hza : Z[a]? = some za) (hzb : Z[b]? = some zb) (z1 : -1000000000000 ≤ za) (z2 : za ≤ 1000000000000) (z3 : -1000000000000 ≤ zb) (z4 : zb ≤ 1000000000000) (hzz : zb - za = N) (E3 : Hid (attainV P l a b N = (Z, true, 0))) (E4 : Hid (keepsV P l Z = (true, 0))) (E5 : Hid (keepsV P l x = (false, 1))) (E6 : Hid (checkPathV P l a b M y = (false, 0))) :
    Calls Try.prog 12 #[.agg #[.int .i64 P, .slice A n k], .int .i64 (a : Int), .int .i64 (b : Int), .int .i64 N, .int .i64 M, .slice Bx m d, .slice C m2 d2] w fun e w' => e = .returned (.bool true) ∧ Below w.heap.size w w' := by
  have HZA := Lib.hid hza; have HZB := Lib.hid hzb; clear hza hzb
  go_enter Try.func12, Try.ntmps12
  have bel_1 := Lib.hid (show Below w.heap.size w w from Below.refl _ w)
  have x_2 := Lib.hid (hx)
  clear hx
  have y_3 := Lib.hid (hy)
  clear hy
  have rd_4 := Lib.hid (hr)
  clear hr
  have bel_5 := Lib.hid (Below.alloc bel_1.out (bel_1.out.size) (.cells #[.int .i64 P, .slice A n k] 24))
  clear bel_1
  have x_6 := Lib.hid (RdI.alloc x_2.out (.cells #[.int .i64 P, .slice A n k] 24))
  clear x_2
  have y_7 := Lib.hid (RdI.alloc y_3.out (.cells #[.int .i64 P, .slice A n k] 24))
  clear y_3
  have rd_8 := Lib.hid (RdB.alloc rd_4.out (.cells #[.int .i64 P, .slice A n k] 24))
  clear rd_4
  have srd_9 := Lib.hid (Blk.new w 24 #[.int .i64 P, .slice A n k])
  have hc := (show Calls Try.prog 18 #[.agg #[.int .i64 P, .slice A n k]] ((w.alloc (.cells #[.int .i64 P, .slice A n k] 24))) fun e w' => e = .returned (.bool true) ∧ Below ((w.alloc (.cells #[.int .i64 P, .slice A n k] 24))).heap.size ((w.alloc (.cells #[.int .i64 P, .slice A n k] 24))) w' from by have h := wide_any P A n k ((w.alloc (.cells #[.int .i64 P, .slice A n k] 24))); rw [show decide (n ≤ 403) = true from by simpa using hw] at h; exact h)
  have HC := Lib.hid hc; clear hc
  go_wp2_with fail
  refine HC.out.mono ?_
  rintro e w_10 ⟨rfl, hb⟩
  clear HC
  have bel_11 := Lib.hid (Below.trans bel_5.out (Below.mono hb (bel_5.out.size)))
  clear bel_5
  have x_12 := Lib.hid (RdI.below x_6.out hb)
  clear x_6
  have y_13 := Lib.hid (RdI.below y_7.out hb)
  clear y_7
  have rd_14 := Lib.hid (RdB.below rd_8.out hb)
  clear rd_8
  have srd_15 := Lib.hid (Blk.keep srd_9.out hb)
  clear srd_9
  clear hb
  have z_16 : (w_10).cell? ⟨w.heap.size, 0, none⟩ = some (.int .i64 P) := Blk.cell srd_15.out 0
  have z_17 : (w_10).cell? ⟨w.heap.size, 1, none⟩ = some (.slice A n k) := Blk.cell srd_15.out 1
  go_wp2_with fail
  refine (Greatest_any P a b A n k l _ rd_14.out hn).mono ?_
  rintro e w_18 ⟨x_, t_, q_, rfl, hv_, hb⟩
  clear z_16 z_17
  have bel_19 := Lib.hid (Below.trans bel_11.out (Below.mono hb (bel_11.out.size)))
  clear bel_11
  have x_20 := Lib.hid (RdI.below x_12.out hb)
  clear x_12
  have y_21 := Lib.hid (RdI.below y_13.out hb)
  clear y_13
  have rd_22 := Lib.hid (RdB.below rd_14.out hb)
  clear rd_14
  have srd_23 := Lib.hid (Blk.keep srd_15.out hb)
  clear srd_15
  clear hb
  obtain ⟨rfl, rfl, rfl⟩ := E1.out _ _ _ hv_; clear hv_
  have z_24 : (w_18).cell? ⟨w.heap.size, 0, none⟩ = some (.int .i64 P) := Blk.cell srd_23.out 0
  have z_25 : (w_18).cell? ⟨w.heap.size, 1, none⟩ = some (.slice A n k) := Blk.cell srd_23.out 1
  go_wp2_with fail
  refine (Least_any P a b A n k l _ rd_22.out hn).mono ?_
  rintro e w_26 ⟨x_, t_, q_, rfl, hv_, hb⟩
  clear z_24 z_25
  have bel_27 := Lib.hid (Below.trans bel_19.out (Below.mono hb (bel_19.out.size)))
  clear bel_19
  have x_28 := Lib.hid (RdI.below x_20.out hb)
  clear x_20
  have y_29 := Lib.hid (RdI.below y_21.out hb)
  clear y_21
  have rd_30 := Lib.hid (RdB.below rd_22.out hb)
  clear rd_22
  have srd_31 := Lib.hid (Blk.keep srd_23.out hb)
  clear srd_23
  clear hb
  obtain ⟨rfl, rfl, rfl⟩ := E2.out _ _ _ hv_; clear hv_
  have z_32 : (w_26).cell? ⟨w.heap.size, 0, none⟩ = some (.int .i64 P) := Blk.cell srd_31.out 0
  have z_33 : (w_26).cell? ⟨w.heap.size, 1, none⟩ = some (.slice A n k) := Blk.cell srd_31.out 1
  have hc := Attain_any P a b N A n k l _ rd_30.out hn
  rw [E3.out] at hc
  unfold RetI at hc; dsimp only at hc
  have HC := Lib.hid hc; clear hc
  go_wp2_with fail
  refine HC.out.mono ?_
  rintro e w_34 ⟨Az, nz, cz, rfl, ho, hb⟩
  clear HC
  clear z_32 z_33
  have bel_35 := Lib.hid (Below.trans bel_27.out (Below.mono hb (bel_27.out.size)))
  clear bel_27
  have x_36 := Lib.hid (RdI.below x_28.out hb)
  clear x_28
  have y_37 := Lib.hid (RdI.below y_29.out hb)
  clear y_29
  have rd_38 := Lib.hid (RdB.below rd_30.out hb)
  clear rd_30
  have srd_39 := Lib.hid (Blk.keep srd_31.out hb)
  clear srd_31
  have z_40 := Lib.hid ((OwnI.rd ho).1)
  obtain rfl : nz = Z.length := z_40.out.len.symm
  clear ho hb
  have z_41 : (w_34).cell? ⟨w.heap.size, 0, none⟩ = some (.int .i64 P) := Blk.cell srd_39.out 0
  have z_42 : (w_34).cell? ⟨w.heap.size, 1, none⟩ = some (.slice A n k) := Blk.cell srd_39.out 1
  obtain ⟨bz, oz, hAz⟩ := rdI_some z_40.out HZA.out
  subst hAz
  have hc := Keeps_any P A (some ⟨bz, oz, none⟩) n k Z.length cz l Z _ rd_38.out hn z_40.out (by unfold maxLen; omega)
  rw [E4.out] at hc
  dsimp only at hc
  have HC := Lib.hid hc; clear hc
  go_wp2_with fail
  refine HC.out.mono ?_
  rintro e w_43 ⟨rfl, hb⟩
  clear HC
  clear z_41 z_42
  have bel_44 := Lib.hid (Below.trans bel_35.out (Below.mono hb (bel_35.out.size)))
  clear bel_35
  have x_45 := Lib.hid (RdI.below x_36.out hb)
  clear x_36
  have y_46 := Lib.hid (RdI.below y_37.out hb)
  clear y_37
  have rd_47 := Lib.hid (RdB.below rd_38.out hb)
  clear rd_38
  have srd_48 := Lib.hid (Blk.keep srd_39.out hb)
  clear srd_39
  have z_49 := Lib.hid (RdI.below z_40.out hb)
  clear z_40
  clear hb
  have z_50 : (w_43).cell? ⟨w.heap.size, 0, none⟩ = some (.int .i64 P) := Blk.cell srd_48.out 0
  have z_51 : (w_43).cell? ⟨w.heap.size, 1, none⟩ = some (.slice A n k) := Blk.cell srd_48.out 1
  go_wp2_with fail
  obtain ⟨ca, cl⟩ := rdI_at z_49.out HZA.out
  have cb := (rdI_at z_49.out HZB.out).1
  have hnz := (List.getElem?_eq_some_iff.1 HZA.out).1
  have hnzb := (List.getElem?_eq_some_iff.1 HZB.out).1
  have hne : decide (zb - za ≠ N) = false := decide_eq_false (by omega)
  go_quiet (fail)
  clear ca cb cl hne
  clear z_50 z_51
  have bel_52 := Lib.hid (bdrewN bel_44.out nq)
  clear bel_44
  have x_53 := Lib.hid (rdI_drewN x_45.out nq)
  clear x_45
  have y_54 := Lib.hid (rdI_drewN y_46.out nq)
  clear y_46
  have rd_55 := Lib.hid (rdB_drewN rd_47.out nq)
  clear rd_47
  have srd_56 := Lib.hid (blk_drewN srd_48.out nq)
  clear srd_48
  have z_57 := Lib.hid (rdI_drewN z_49.out nq)
  clear z_49
  have z_58 : ((World.drewN w_43 nq)).cell? ⟨w.heap.size, 0, none⟩ = some (.int .i64 P) := Blk.cell srd_56.out 0
  have z_59 : ((World.drewN w_43 nq)).cell? ⟨w.heap.size, 1, none⟩ = some (.slice A n k) := Blk.cell srd_56.out 1
  have hc := Keeps_any P A Bx n k m d l x _ rd_55.out hn x_53.out hm
  rw [E5.out] at hc
  dsimp only at hc
  have HC := Lib.hid hc; clear hc
  go_wp2_with fail
  refine HC.out.mono ?_
  rintro e w_60 ⟨rfl, hb⟩
  clear HC
  clear z_58 z_59
  have bel_61 := Lib.hid (Below.trans bel_52.out (Below.mono hb (bel_52.out.size)))
  clear bel_52
  have x_62 := Lib.hid (RdI.below x_53.out hb)
  clear x_53
  have y_63 := Lib.hid (RdI.below y_54.out hb)
  clear y_54
  have rd_64 := Lib.hid (RdB.below rd_55.out hb)
  clear rd_55
  have srd_65 := Lib.hid (Blk.keep srd_56.out hb)
  clear srd_56
  have z_66 := Lib.hid (RdI.below z_57.out hb)
  clear z_57
  clear hb
  have z_67 : (w_60).cell? ⟨w.heap.size, 0, none⟩ = some (.int .i64 P) := Blk.cell srd_65.out 0
  have z_68 : (w_60).cell? ⟨w.heap.size, 1, none⟩ = some (.slice A n k) := Blk.cell srd_65.out 1
  have hc := CheckPath_any P a b M A C n k m2 d2 l y _ rd_64.out hn y_63.out hm2
  rw [E6.out] at hc
  dsimp only at hc
  have HC := Lib.hid hc; clear hc
  go_wp2_with fail
  refine HC.out.mono ?_
  rintro e w_69 ⟨rfl, hb⟩
  clear HC
  clear z_67 z_68
  have bel_70 := Lib.hid (Below.trans bel_61.out (Below.mono hb (bel_61.out.size)))
  clear bel_61
  have x_71 := Lib.hid (RdI.below x_62.out hb)
  clear x_62
  have y_72 := Lib.hid (RdI.below y_63.out hb)
  clear y_63
  have rd_73 := Lib.hid (RdB.below rd_64.out hb)
  clear rd_64
  have srd_74 := Lib.hid (Blk.keep srd_65.out hb)
  clear srd_65
  have z_75 := Lib.hid (RdI.below z_66.out hb)
  clear z_66
  clear hb
  have z_76 : (w_69).cell? ⟨w.heap.size, 0, none⟩ = some (.int .i64 P) := Blk.cell srd_74.out 0
  have z_77 : (w_69).cell? ⟨w.heap.size, 1, none⟩ = some (.slice A n k) := Blk.cell srd_74.out 1
  go_wp2_with fail
  go_quiet (fail)
  clear z_76 z_77
  have bel_78 := Lib.hid (bdrewN bel_70.out nq)
  clear bel_70
  have x_79 := Lib.hid (rdI_drewN x_71.out nq)
  clear x_71
  have y_80 := Lib.hid (rdI_drewN y_72.out nq)
  clear y_72
  have rd_81 := Lib.hid (rdB_drewN rd_73.out nq)
  clear rd_73
  have srd_82 := Lib.hid (blk_drewN srd_74.out nq)
  clear srd_74
  have z_83 := Lib.hid (rdI_drewN z_75.out nq)
  clear z_75
  have z_84 : ((World.drewN w_69 nq)).cell? ⟨w.heap.size, 0, none⟩ = some (.int .i64 P) := Blk.cell srd_82.out 0
  have z_85 : ((World.drewN w_69 nq)).cell? ⟨w.heap.size, 1, none⟩ = some (.slice A n k) := Blk.cell srd_82.out 1
  go_wp2_with fail
  refine (alive_ok _).mono ?_
  rintro e w_86 ⟨rfl, hb⟩
  clear z_84 z_85
  have bel_87 := Lib.hid (Below.trans bel_78.out (Below.mono hb (bel_78.out.size)))
  clear bel_78
  have x_88 := Lib.hid (RdI.below x_79.out hb)
  clear x_79
  have y_89 := Lib.hid (RdI.below y_80.out hb)
  clear y_80
  have rd_90 := Lib.hid (RdB.below rd_81.out hb)
  clear rd_81
  have srd_91 := Lib.hid (Blk.keep srd_82.out hb)
  clear srd_82
  have z_92 := Lib.hid (RdI.below z_83.out hb)
  clear z_83
  clear hb
  go_wp2
  go_ret
  exact ⟨rfl, bel_87.out⟩

set_option maxRecDepth 100000 in
set_option maxHeartbeats 8000000 in
theorem sh_011a_F0_1 (P : Int) (A : Option Addr) (n k : Nat) (l : List Bnd) (w : World) (hr : RdB w A n k l) (hn : n ≤ maxLen) (a b : Nat) (N M : Int) (Bx : Option Addr) (m d : Nat) (x : List Int) (hx : RdI w Bx m d x) (hm : m ≤ maxLen) (C : Option Addr) (m2 d2 : Nat) (y : List Int) (hy : RdI w C m2 d2 y) (hm2 : m2 ≤ maxLen) (hw : n ≤ 403) (h7 : m ≤ 70) (h8 : m2 ≤ 70) (hN : -100000000 ≤ N) (hN2 : N ≤ 100000000) (X1 X2 : Int) (E1 : Hid (∀ x t q, endV P l a b true = .tuple #[.int .i64 x, .bool t, .int .i64 q] → x = X1 ∧ t = true ∧ q = 0)) (E2 : Hid (∀ x t q, endV P l a b false = .tuple #[.int .i64 x, .bool t, .int .i64 q] → x = X2 ∧ t = true ∧ q = 0)) (E3 : Hid (attainV P l a b N = ([], false, 0))) (r1 : X1 < N) (E5 : Hid (keepsV P l x = (false, 0))) (E6 : Hid (checkPathV P l a b M y = (true, 0))) (s1 : X1 ≤ M) :
    Calls Try.prog 12 #[.agg #[.int .i64 P, .slice A n k], .int .i64 (a : Int), .int .i64 (b : Int), .int .i64 N, .int .i64 M, .slice Bx m d, .slice C m2 d2] w fun e w' => e = .returned (.bool true) ∧ Below w.heap.size w w' := by
  have g1 : decide (N ≤ X1) = false := decide_eq_false (by omega)
  have g6 : decide (X1 ≤ M) = true := decide_eq_true s1
  go_enter Try.func12, Try.ntmps12
  have bel_1 := Lib.hid (show Below w.heap.size w w from Below.refl _ w)
  have x_2 := Lib.hid (hx)
  clear hx
  have y_3 := Lib.hid (hy)
  clear hy
  have rd_4 := Lib.hid (hr)
  clear hr
  have bel_5 := Lib.hid (Below.alloc bel_1.out (bel_1.out.size) (.cells #[.int .i64 P, .slice A n k] 24))
  clear bel_1
  have x_6 := Lib.hid (RdI.alloc x_2.out (.cells #[.int .i64 P, .slice A n k] 24))
  clear x_2
  have y_7 := Lib.hid (RdI.alloc y_3.out (.cells #[.int .i64 P, .slice A n k] 24))
  clear y_3
  have rd_8 := Lib.hid (RdB.alloc rd_4.out (.cells #[.int .i64 P, .slice A n k] 24))
  clear rd_4
  have srd_9 := Lib.hid (Blk.new w 24 #[.int .i64 P, .slice A n k])
  have hc := (show Calls Try.prog 18 #[.agg #[.int .i64 P, .slice A n k]] ((w.alloc (.cells #[.int .i64 P, .slice A n k] 24))) fun e w' => e = .returned (.bool true) ∧ Below ((w.alloc (.cells #[.int .i64 P, .slice A n k] 24))).heap.size ((w.alloc (.cells #[.int .i64 P, .slice A n k] 24))) w' from by have h := wide_any P A n k ((w.alloc (.cells #[.int .i64 P, .slice A n k] 24))); rw [show decide (n ≤ 403) = true from by simpa using hw] at h; exact h)
  have HC := Lib.hid hc; clear hc
  go_wp2_with fail
  refine HC.out.mono ?_
  rintro e w_10 ⟨rfl, hb⟩
  clear HC
  have bel_11 := Lib.hid (Below.trans bel_5.out (Below.mono hb (bel_5.out.size)))
  clear bel_5
  have x_12 := Lib.hid (RdI.below x_6.out hb)
  clear x_6
  have y_13 := Lib.hid (RdI.below y_7.out hb)
  clear y_7
  have rd_14 := Lib.hid (RdB.below rd_8.out hb)
  clear rd_8
  have srd_15 := Lib.hid (Blk.keep srd_9.out hb)
  clear srd_9
  clear hb
  have z_16 : (w_10).cell? ⟨w.heap.size, 0, none⟩ = some (.int .i64 P) := Blk.cell srd_15.out 0
  have z_17 : (w_10).cell? ⟨w.heap.size, 1, none⟩ = some (.slice A n k) := Blk.cell srd_15.out 1
  go_wp2_with fail
  refine (Greatest_any P a b A n k l _ rd_14.out hn).mono ?_
  rintro e w_18 ⟨x_, t_, q_, rfl, hv_, hb⟩
  clear z_16 z_17
  have bel_19 := Lib.hid (Below.trans bel_11.out (Below.mono hb (bel_11.out.size)))
  clear bel_11
  have x_20 := Lib.hid (RdI.below x_12.out hb)
  clear x_12
  have y_21 := Lib.hid (RdI.below y_13.out hb)
  clear y_13
  have rd_22 := Lib.hid (RdB.below rd_14.out hb)
  clear rd_14
  have srd_23 := Lib.hid (Blk.keep srd_15.out hb)
  clear srd_15
  clear hb
  obtain ⟨rfl, rfl, rfl⟩ := E1.out _ _ _ hv_; clear hv_
  have z_24 : (w_18).cell? ⟨w.heap.size, 0, none⟩ = some (.int .i64 P) := Blk.cell srd_23.out 0
  have z_25 : (w_18).cell? ⟨w.heap.size, 1, none⟩ = some (.slice A n k) := Blk.cell srd_23.out 1
  go_wp2_with fail
  refine (Least_any P a b A n k l _ rd_22.out hn).mono ?_
  rintro e w_26 ⟨x_, t_, q_, rfl, hv_, hb⟩
  clear z_24 z_25
  have bel_27 := Lib.hid (Below.trans bel_19.out (Below.mono hb (bel_19.out.size)))
  clear bel_19
  have x_28 := Lib.hid (RdI.below x_20.out hb)
  clear x_20
  have y_29 := Lib.hid (RdI.below y_21.out hb)
  clear y_21
  have rd_30 := Lib.hid (RdB.below rd_22.out hb)
  clear rd_22
  have srd_31 := Lib.hid (Blk.keep srd_23.out hb)
  clear srd_23
  clear hb
  obtain ⟨rfl, rfl, rfl⟩ := E2.out _ _ _ hv_; clear hv_
  have z_32 : (w_26).cell? ⟨w.heap.size, 0, none⟩ = some (.int .i64 P) := Blk.cell srd_31.out 0
  have z_33 : (w_26).cell? ⟨w.heap.size, 1, none⟩ = some (.slice A n k) := Blk.cell srd_31.out 1
  have hc := Attain_any P a b N A n k l _ rd_30.out hn
  rw [E3.out] at hc
  unfold RetI at hc; dsimp only at hc
  have HC := Lib.hid hc; clear hc
  go_wp2_with fail
  refine HC.out.mono ?_
  rintro e w_34 ⟨Az, nz, cz, rfl, ho, hb⟩
  clear HC
  clear z_32 z_33
  have bel_35 := Lib.hid (Below.trans bel_27.out (Below.mono hb (bel_27.out.size)))
  clear bel_27
  have x_36 := Lib.hid (RdI.below x_28.out hb)
  clear x_28
  have y_37 := Lib.hid (RdI.below y_29.out hb)
  clear y_29
  have rd_38 := Lib.hid (RdB.below rd_30.out hb)
  clear rd_30
  have srd_39 := Lib.hid (Blk.keep srd_31.out hb)
  clear srd_31
  have z_40 := Lib.hid ((OwnI.rd ho).1)
  obtain rfl : nz = 0 := z_40.out.len.symm
  clear ho hb
  have z_41 : (w_34).cell? ⟨w.heap.size, 0, none⟩ = some (.int .i64 P) := Blk.cell srd_39.out 0
  have z_42 : (w_34).cell? ⟨w.heap.size, 1, none⟩ = some (.slice A n k) := Blk.cell srd_39.out 1
  have hc := Keeps_any P A Bx n k m d l x _ rd_38.out hn x_36.out hm
  rw [E5.out] at hc
  dsimp only at hc
  have HC := Lib.hid hc; clear hc
  go_wp2_with fail
  refine HC.out.mono ?_
  rintro e w_43 ⟨rfl, hb⟩
  clear HC
  clear z_41 z_42
  have bel_44 := Lib.hid (Below.trans bel_35.out (Below.mono hb (bel_35.out.size)))
  clear bel_35
  have x_45 := Lib.hid (RdI.below x_36.out hb)
  clear x_36
  have y_46 := Lib.hid (RdI.below y_37.out hb)
  clear y_37
  have rd_47 := Lib.hid (RdB.below rd_38.out hb)
  clear rd_38
  have srd_48 := Lib.hid (Blk.keep srd_39.out hb)
  clear srd_39
  have z_49 := Lib.hid (RdI.below z_40.out hb)
  clear z_40
  clear hb
  have z_50 : (w_43).cell? ⟨w.heap.size, 0, none⟩ = some (.int .i64 P) := Blk.cell srd_48.out 0
  have z_51 : (w_43).cell? ⟨w.heap.size, 1, none⟩ = some (.slice A n k) := Blk.cell srd_48.out 1
  have hc := CheckPath_any P a b M A C n k m2 d2 l y _ rd_47.out hn y_46.out hm2
  rw [E6.out] at hc
  dsimp only at hc
  have HC := Lib.hid hc; clear hc
  go_wp2_with fail
  refine HC.out.mono ?_
  rintro e w_52 ⟨rfl, hb⟩
  clear HC
  clear z_50 z_51
  have bel_53 := Lib.hid (Below.trans bel_44.out (Below.mono hb (bel_44.out.size)))
  clear bel_44
  have x_54 := Lib.hid (RdI.below x_45.out hb)
  clear x_45
  have y_55 := Lib.hid (RdI.below y_46.out hb)
  clear y_46
  have rd_56 := Lib.hid (RdB.below rd_47.out hb)
  clear rd_47
  have srd_57 := Lib.hid (Blk.keep srd_48.out hb)
  clear srd_48
  have z_58 := Lib.hid (RdI.below z_49.out hb)
  clear z_49
  clear hb
  have z_59 : (w_52).cell? ⟨w.heap.size, 0, none⟩ = some (.int .i64 P) := Blk.cell srd_57.out 0
  have z_60 : (w_52).cell? ⟨w.heap.size, 1, none⟩ = some (.slice A n k) := Blk.cell srd_57.out 1
  go_wp2_with fail
  go_quiet (fail)
  clear z_59 z_60
  have bel_61 := Lib.hid (bdrewN bel_53.out nq)
  clear bel_53
  have x_62 := Lib.hid (rdI_drewN x_54.out nq)
  clear x_54
  have y_63 := Lib.hid (rdI_drewN y_55.out nq)
  clear y_55
  have rd_64 := Lib.hid (rdB_drewN rd_56.out nq)
  clear rd_56
  have srd_65 := Lib.hid (blk_drewN srd_57.out nq)
  clear srd_57
  have z_66 := Lib.hid (rdI_drewN z_58.out nq)
  clear z_58
  have z_67 : ((World.drewN w_52 nq)).cell? ⟨w.heap.size, 0, none⟩ = some (.int .i64 P) := Blk.cell srd_65.out 0
  have z_68 : ((World.drewN w_52 nq)).cell? ⟨w.heap.size, 1, none⟩ = some (.slice A n k) := Blk.cell srd_65.out 1
  go_wp2_with fail
  refine (alive_ok _).mono ?_
  rintro e w_69 ⟨rfl, hb⟩
  clear z_67 z_68
  have bel_70 := Lib.hid (Below.trans bel_61.out (Below.mono hb (bel_61.out.size)))
  clear bel_61
  have x_71 := Lib.hid (RdI.below x_62.out hb)
  clear x_62
  have y_72 := Lib.hid (RdI.below y_63.out hb)
  clear y_63
  have rd_73 := Lib.hid (RdB.below rd_64.out hb)
  clear rd_64
  have srd_74 := Lib.hid (Blk.keep srd_65.out hb)
  clear srd_65
  have z_75 := Lib.hid (RdI.below z_66.out hb)
  clear z_66
  clear hb
  go_wp2
  go_ret
  exact ⟨rfl, bel_70.out⟩

set_option maxRecDepth 100000 in
set_option maxHeartbeats 8000000 in
theorem sh_011a_F1_0 (P : Int) (A : Option Addr) (n k : Nat) (l : List Bnd) (w : World) (hr : RdB w A n k l) (hn : n ≤ maxLen) (a b : Nat) (N M : Int) (Bx : Option Addr) (m d : Nat) (x : List Int) (hx : RdI w Bx m d x) (hm : m ≤ maxLen) (C : Option Addr) (m2 d2 : Nat) (y : List Int) (hy : RdI w C m2 d2 y) (hm2 : m2 ≤ maxLen) (hw : n ≤ 403) (h7 : m ≤ 70) (h8 : m2 ≤ 70) (hN : -100000000 ≤ N) (hN2 : N ≤ 100000000) (X1 X2 : Int) (E1 : Hid (∀ x t q, endV P l a b true = .tuple #[.int .i64 x, .bool t, .int .i64 q] → x = X1 ∧ t = true ∧ q = 0)) (E2 : Hid (∀ x t q, endV P l a b false = .tuple #[.int .i64 x, .bool t, .int .i64 q] → x = X2 ∧ t = true ∧ q = 0)) (E3 : Hid (attainV P l a b N = ([], false, 0))) (r1 : X1 < N) (E5 : Hid (keepsV P l x = (false, 1))) (E6 : Hid (checkPathV P l a b M y = (false, 0))) :
    Calls Try.prog 12 #[.agg #[.int .i64 P, .slice A n k], .int .i64 (a : Int), .int .i64 (b : Int), .int .i64 N, .int .i64 M, .slice Bx m d, .slice C m2 d2] w fun e w' => e = .returned (.bool true) ∧ Below w.heap.size w w' := by
  have g1 : decide (N ≤ X1) = false := decide_eq_false (by omega)
  go_enter Try.func12, Try.ntmps12
  have bel_1 := Lib.hid (show Below w.heap.size w w from Below.refl _ w)
  have x_2 := Lib.hid (hx)
  clear hx
  have y_3 := Lib.hid (hy)
  clear hy
  have rd_4 := Lib.hid (hr)
  clear hr
  have bel_5 := Lib.hid (Below.alloc bel_1.out (bel_1.out.size) (.cells #[.int .i64 P, .slice A n k] 24))
  clear bel_1
  have x_6 := Lib.hid (RdI.alloc x_2.out (.cells #[.int .i64 P, .slice A n k] 24))
  clear x_2
  have y_7 := Lib.hid (RdI.alloc y_3.out (.cells #[.int .i64 P, .slice A n k] 24))
  clear y_3
  have rd_8 := Lib.hid (RdB.alloc rd_4.out (.cells #[.int .i64 P, .slice A n k] 24))
  clear rd_4
  have srd_9 := Lib.hid (Blk.new w 24 #[.int .i64 P, .slice A n k])
  have hc := (show Calls Try.prog 18 #[.agg #[.int .i64 P, .slice A n k]] ((w.alloc (.cells #[.int .i64 P, .slice A n k] 24))) fun e w' => e = .returned (.bool true) ∧ Below ((w.alloc (.cells #[.int .i64 P, .slice A n k] 24))).heap.size ((w.alloc (.cells #[.int .i64 P, .slice A n k] 24))) w' from by have h := wide_any P A n k ((w.alloc (.cells #[.int .i64 P, .slice A n k] 24))); rw [show decide (n ≤ 403) = true from by simpa using hw] at h; exact h)
  have HC := Lib.hid hc; clear hc
  go_wp2_with fail
  refine HC.out.mono ?_
  rintro e w_10 ⟨rfl, hb⟩
  clear HC
  have bel_11 := Lib.hid (Below.trans bel_5.out (Below.mono hb (bel_5.out.size)))
  clear bel_5
  have x_12 := Lib.hid (RdI.below x_6.out hb)
  clear x_6
  have y_13 := Lib.hid (RdI.below y_7.out hb)
  clear y_7
  have rd_14 := Lib.hid (RdB.below rd_8.out hb)
  clear rd_8
  have srd_15 := Lib.hid (Blk.keep srd_9.out hb)
  clear srd_9
  clear hb
  have z_16 : (w_10).cell? ⟨w.heap.size, 0, none⟩ = some (.int .i64 P) := Blk.cell srd_15.out 0
  have z_17 : (w_10).cell? ⟨w.heap.size, 1, none⟩ = some (.slice A n k) := Blk.cell srd_15.out 1
  go_wp2_with fail
  refine (Greatest_any P a b A n k l _ rd_14.out hn).mono ?_
  rintro e w_18 ⟨x_, t_, q_, rfl, hv_, hb⟩
  clear z_16 z_17
  have bel_19 := Lib.hid (Below.trans bel_11.out (Below.mono hb (bel_11.out.size)))
  clear bel_11
  have x_20 := Lib.hid (RdI.below x_12.out hb)
  clear x_12
  have y_21 := Lib.hid (RdI.below y_13.out hb)
  clear y_13
  have rd_22 := Lib.hid (RdB.below rd_14.out hb)
  clear rd_14
  have srd_23 := Lib.hid (Blk.keep srd_15.out hb)
  clear srd_15
  clear hb
  obtain ⟨rfl, rfl, rfl⟩ := E1.out _ _ _ hv_; clear hv_
  have z_24 : (w_18).cell? ⟨w.heap.size, 0, none⟩ = some (.int .i64 P) := Blk.cell srd_23.out 0
  have z_25 : (w_18).cell? ⟨w.heap.size, 1, none⟩ = some (.slice A n k) := Blk.cell srd_23.out 1
  go_wp2_with fail
  refine (Least_any P a b A n k l _ rd_22.out hn).mono ?_
  rintro e w_26 ⟨x_, t_, q_, rfl, hv_, hb⟩
  clear z_24 z_25
  have bel_27 := Lib.hid (Below.trans bel_19.out (Below.mono hb (bel_19.out.size)))
  clear bel_19
  have x_28 := Lib.hid (RdI.below x_20.out hb)
  clear x_20
  have y_29 := Lib.hid (RdI.below y_21.out hb)
  clear y_21
  have rd_30 := Lib.hid (RdB.below rd_22.out hb)
  clear rd_22
  have srd_31 := Lib.hid (Blk.keep srd_23.out hb)
  clear srd_23
  clear hb
  obtain ⟨rfl, rfl, rfl⟩ := E2.out _ _ _ hv_; clear hv_
  have z_32 : (w_26).cell? ⟨w.heap.size, 0, none⟩ = some (.int .i64 P) := Blk.cell srd_31.out 0
  have z_33 : (w_26).cell? ⟨w.heap.size, 1, none⟩ = some (.slice A n k) := Blk.cell srd_31.out 1
  have hc := Attain_any P a b N A n k l _ rd_30.out hn
  rw [E3.out] at hc
  unfold RetI at hc; dsimp only at hc
  have HC := Lib.hid hc; clear hc
  go_wp2_with fail
  refine HC.out.mono ?_
  rintro e w_34 ⟨Az, nz, cz, rfl, ho, hb⟩
  clear HC
  clear z_32 z_33
  have bel_35 := Lib.hid (Below.trans bel_27.out (Below.mono hb (bel_27.out.size)))
  clear bel_27
  have x_36 := Lib.hid (RdI.below x_28.out hb)
  clear x_28
  have y_37 := Lib.hid (RdI.below y_29.out hb)
  clear y_29
  have rd_38 := Lib.hid (RdB.below rd_30.out hb)
  clear rd_30
  have srd_39 := Lib.hid (Blk.keep srd_31.out hb)
  clear srd_31
  have z_40 := Lib.hid ((OwnI.rd ho).1)
  obtain rfl : nz = 0 := z_40.out.len.symm
  clear ho hb
  have z_41 : (w_34).cell? ⟨w.heap.size, 0, none⟩ = some (.int .i64 P) := Blk.cell srd_39.out 0
  have z_42 : (w_34).cell? ⟨w.heap.size, 1, none⟩ = some (.slice A n k) := Blk.cell srd_39.out 1
  have hc := Keeps_any P A Bx n k m d l x _ rd_38.out hn x_36.out hm
  rw [E5.out] at hc
  dsimp only at hc
  have HC := Lib.hid hc; clear hc
  go_wp2_with fail
  refine HC.out.mono ?_
  rintro e w_43 ⟨rfl, hb⟩
  clear HC
  clear z_41 z_42
  have bel_44 := Lib.hid (Below.trans bel_35.out (Below.mono hb (bel_35.out.size)))
  clear bel_35
  have x_45 := Lib.hid (RdI.below x_36.out hb)
  clear x_36
  have y_46 := Lib.hid (RdI.below y_37.out hb)
  clear y_37
  have rd_47 := Lib.hid (RdB.below rd_38.out hb)
  clear rd_38
  have srd_48 := Lib.hid (Blk.keep srd_39.out hb)
  clear srd_39
  have z_49 := Lib.hid (RdI.below z_40.out hb)
  clear z_40
  clear hb
  have z_50 : (w_43).cell? ⟨w.heap.size, 0, none⟩ = some (.int .i64 P) := Blk.cell srd_48.out 0
  have z_51 : (w_43).cell? ⟨w.heap.size, 1, none⟩ = some (.slice A n k) := Blk.cell srd_48.out 1
  have hc := CheckPath_any P a b M A C n k m2 d2 l y _ rd_47.out hn y_46.out hm2
  rw [E6.out] at hc
  dsimp only at hc
  have HC := Lib.hid hc; clear hc
  go_wp2_with fail
  refine HC.out.mono ?_
  rintro e w_52 ⟨rfl, hb⟩
  clear HC
  clear z_50 z_51
  have bel_53 := Lib.hid (Below.trans bel_44.out (Below.mono hb (bel_44.out.size)))
  clear bel_44
  have x_54 := Lib.hid (RdI.below x_45.out hb)
  clear x_45
  have y_55 := Lib.hid (RdI.below y_46.out hb)
  clear y_46
  have rd_56 := Lib.hid (RdB.below rd_47.out hb)
  clear rd_47
  have srd_57 := Lib.hid (Blk.keep srd_48.out hb)
  clear srd_48
  have z_58 := Lib.hid (RdI.below z_49.out hb)
  clear z_49
  clear hb
  have z_59 : (w_52).cell? ⟨w.heap.size, 0, none⟩ = some (.int .i64 P) := Blk.cell srd_57.out 0
  have z_60 : (w_52).cell? ⟨w.heap.size, 1, none⟩ = some (.slice A n k) := Blk.cell srd_57.out 1
  go_wp2_with fail
  go_quiet (fail)
  clear z_59 z_60
  have bel_61 := Lib.hid (bdrewN bel_53.out nq)
  clear bel_53
  have x_62 := Lib.hid (rdI_drewN x_54.out nq)
  clear x_54
  have y_63 := Lib.hid (rdI_drewN y_55.out nq)
  clear y_55
  have rd_64 := Lib.hid (rdB_drewN rd_56.out nq)
  clear rd_56
  have srd_65 := Lib.hid (blk_drewN srd_57.out nq)
  clear srd_57
  have z_66 := Lib.hid (rdI_drewN z_58.out nq)
  clear z_58
  have z_67 : ((World.drewN w_52 nq)).cell? ⟨w.heap.size, 0, none⟩ = some (.int .i64 P) := Blk.cell srd_65.out 0
  have z_68 : ((World.drewN w_52 nq)).cell? ⟨w.heap.size, 1, none⟩ = some (.slice A n k) := Blk.cell srd_65.out 1
  go_wp2_with fail
  refine (alive_ok _).mono ?_
  rintro e w_69 ⟨rfl, hb⟩
  clear z_67 z_68
  have bel_70 := Lib.hid (Below.trans bel_61.out (Below.mono hb (bel_61.out.size)))
  clear bel_61
  have x_71 := Lib.hid (RdI.below x_62.out hb)
  clear x_62
  have y_72 := Lib.hid (RdI.below y_63.out hb)
  clear y_63
  have rd_73 := Lib.hid (RdB.below rd_64.out hb)
  clear rd_64
  have srd_74 := Lib.hid (Blk.keep srd_65.out hb)
  clear srd_65
  have z_75 := Lib.hid (RdI.below z_66.out hb)
  clear z_66
  clear hb
  go_wp2
  go_ret
  exact ⟨rfl, bel_70.out⟩

set_option maxRecDepth 100000 in
set_option maxHeartbeats 8000000 in
theorem sh_010a_F0_1 (P : Int) (A : Option Addr) (n k : Nat) (l : List Bnd) (w : World) (hr : RdB w A n k l) (hn : n ≤ maxLen) (a b : Nat) (N M : Int) (Bx : Option Addr) (m d : Nat) (x : List Int) (hx : RdI w Bx m d x) (hm : m ≤ maxLen) (C : Option Addr) (m2 d2 : Nat) (y : List Int) (hy : RdI w C m2 d2 y) (hm2 : m2 ≤ maxLen) (hw : n ≤ 403) (h7 : m ≤ 70) (h8 : m2 ≤ 70) (hN : -100000000 ≤ N) (hN2 : N ≤ 100000000) (X1 X2 : Int) (E1 : Hid (∀ x t q, endV P l a b true = .tuple #[.int .i64 x, .bool t, .int .i64 q] → x = X1 ∧ t = true ∧ q = 0)) (E2 : Hid (∀ x t q, endV P l a b false = .tuple #[.int .i64 x, .bool t, .int .i64 q] → x = X2 ∧ t = false ∧ q = 0)) (E3 : Hid (attainV P l a b N = ([], false, 0))) (r1 : X1 < N) (E5 : Hid (keepsV P l x = (false, 0))) (E6 : Hid (checkPathV P l a b M y = (true, 0))) (s1 : X1 ≤ M) :
    Calls Try.prog 12 #[.agg #[.int .i64 P, .slice A n k], .int .i64 (a : Int), .int .i64 (b : Int), .int .i64 N, .int .i64 M, .slice Bx m d, .slice C m2 d2] w fun e w' => e = .returned (.bool true) ∧ Below w.heap.size w w' := by
  have g1 : decide (N ≤ X1) = false := decide_eq_false (by omega)
  have g6 : decide (X1 ≤ M) = true := decide_eq_true s1
  go_enter Try.func12, Try.ntmps12
  have bel_1 := Lib.hid (show Below w.heap.size w w from Below.refl _ w)
  have x_2 := Lib.hid (hx)
  clear hx
  have y_3 := Lib.hid (hy)
  clear hy
  have rd_4 := Lib.hid (hr)
  clear hr
  have bel_5 := Lib.hid (Below.alloc bel_1.out (bel_1.out.size) (.cells #[.int .i64 P, .slice A n k] 24))
  clear bel_1
  have x_6 := Lib.hid (RdI.alloc x_2.out (.cells #[.int .i64 P, .slice A n k] 24))
  clear x_2
  have y_7 := Lib.hid (RdI.alloc y_3.out (.cells #[.int .i64 P, .slice A n k] 24))
  clear y_3
  have rd_8 := Lib.hid (RdB.alloc rd_4.out (.cells #[.int .i64 P, .slice A n k] 24))
  clear rd_4
  have srd_9 := Lib.hid (Blk.new w 24 #[.int .i64 P, .slice A n k])
  have hc := (show Calls Try.prog 18 #[.agg #[.int .i64 P, .slice A n k]] ((w.alloc (.cells #[.int .i64 P, .slice A n k] 24))) fun e w' => e = .returned (.bool true) ∧ Below ((w.alloc (.cells #[.int .i64 P, .slice A n k] 24))).heap.size ((w.alloc (.cells #[.int .i64 P, .slice A n k] 24))) w' from by have h := wide_any P A n k ((w.alloc (.cells #[.int .i64 P, .slice A n k] 24))); rw [show decide (n ≤ 403) = true from by simpa using hw] at h; exact h)
  have HC := Lib.hid hc; clear hc
  go_wp2_with fail
  refine HC.out.mono ?_
  rintro e w_10 ⟨rfl, hb⟩
  clear HC
  have bel_11 := Lib.hid (Below.trans bel_5.out (Below.mono hb (bel_5.out.size)))
  clear bel_5
  have x_12 := Lib.hid (RdI.below x_6.out hb)
  clear x_6
  have y_13 := Lib.hid (RdI.below y_7.out hb)
  clear y_7
  have rd_14 := Lib.hid (RdB.below rd_8.out hb)
  clear rd_8
  have srd_15 := Lib.hid (Blk.keep srd_9.out hb)
  clear srd_9
  clear hb
  have z_16 : (w_10).cell? ⟨w.heap.size, 0, none⟩ = some (.int .i64 P) := Blk.cell srd_15.out 0
  have z_17 : (w_10).cell? ⟨w.heap.size, 1, none⟩ = some (.slice A n k) := Blk.cell srd_15.out 1
  go_wp2_with fail
  refine (Greatest_any P a b A n k l _ rd_14.out hn).mono ?_
  rintro e w_18 ⟨x_, t_, q_, rfl, hv_, hb⟩
  clear z_16 z_17
  have bel_19 := Lib.hid (Below.trans bel_11.out (Below.mono hb (bel_11.out.size)))
  clear bel_11
  have x_20 := Lib.hid (RdI.below x_12.out hb)
  clear x_12
  have y_21 := Lib.hid (RdI.below y_13.out hb)
  clear y_13
  have rd_22 := Lib.hid (RdB.below rd_14.out hb)
  clear rd_14
  have srd_23 := Lib.hid (Blk.keep srd_15.out hb)
  clear srd_15
  clear hb
  obtain ⟨rfl, rfl, rfl⟩ := E1.out _ _ _ hv_; clear hv_
  have z_24 : (w_18).cell? ⟨w.heap.size, 0, none⟩ = some (.int .i64 P) := Blk.cell srd_23.out 0
  have z_25 : (w_18).cell? ⟨w.heap.size, 1, none⟩ = some (.slice A n k) := Blk.cell srd_23.out 1
  go_wp2_with fail
  refine (Least_any P a b A n k l _ rd_22.out hn).mono ?_
  rintro e w_26 ⟨x_, t_, q_, rfl, hv_, hb⟩
  clear z_24 z_25
  have bel_27 := Lib.hid (Below.trans bel_19.out (Below.mono hb (bel_19.out.size)))
  clear bel_19
  have x_28 := Lib.hid (RdI.below x_20.out hb)
  clear x_20
  have y_29 := Lib.hid (RdI.below y_21.out hb)
  clear y_21
  have rd_30 := Lib.hid (RdB.below rd_22.out hb)
  clear rd_22
  have srd_31 := Lib.hid (Blk.keep srd_23.out hb)
  clear srd_23
  clear hb
  obtain ⟨rfl, rfl, rfl⟩ := E2.out _ _ _ hv_; clear hv_
  have z_32 : (w_26).cell? ⟨w.heap.size, 0, none⟩ = some (.int .i64 P) := Blk.cell srd_31.out 0
  have z_33 : (w_26).cell? ⟨w.heap.size, 1, none⟩ = some (.slice A n k) := Blk.cell srd_31.out 1
  have hc := Attain_any P a b N A n k l _ rd_30.out hn
  rw [E3.out] at hc
  unfold RetI at hc; dsimp only at hc
  have HC := Lib.hid hc; clear hc
  go_wp2_with fail
  refine HC.out.mono ?_
  rintro e w_34 ⟨Az, nz, cz, rfl, ho, hb⟩
  clear HC
  clear z_32 z_33
  have bel_35 := Lib.hid (Below.trans bel_27.out (Below.mono hb (bel_27.out.size)))
  clear bel_27
  have x_36 := Lib.hid (RdI.below x_28.out hb)
  clear x_28
  have y_37 := Lib.hid (RdI.below y_29.out hb)
  clear y_29
  have rd_38 := Lib.hid (RdB.below rd_30.out hb)
  clear rd_30
  have srd_39 := Lib.hid (Blk.keep srd_31.out hb)
  clear srd_31
  have z_40 := Lib.hid ((OwnI.rd ho).1)
  obtain rfl : nz = 0 := z_40.out.len.symm
  clear ho hb
  have z_41 : (w_34).cell? ⟨w.heap.size, 0, none⟩ = some (.int .i64 P) := Blk.cell srd_39.out 0
  have z_42 : (w_34).cell? ⟨w.heap.size, 1, none⟩ = some (.slice A n k) := Blk.cell srd_39.out 1
  have hc := Keeps_any P A Bx n k m d l x _ rd_38.out hn x_36.out hm
  rw [E5.out] at hc
  dsimp only at hc
  have HC := Lib.hid hc; clear hc
  go_wp2_with fail
  refine HC.out.mono ?_
  rintro e w_43 ⟨rfl, hb⟩
  clear HC
  clear z_41 z_42
  have bel_44 := Lib.hid (Below.trans bel_35.out (Below.mono hb (bel_35.out.size)))
  clear bel_35
  have x_45 := Lib.hid (RdI.below x_36.out hb)
  clear x_36
  have y_46 := Lib.hid (RdI.below y_37.out hb)
  clear y_37
  have rd_47 := Lib.hid (RdB.below rd_38.out hb)
  clear rd_38
  have srd_48 := Lib.hid (Blk.keep srd_39.out hb)
  clear srd_39
  have z_49 := Lib.hid (RdI.below z_40.out hb)
  clear z_40
  clear hb
  have z_50 : (w_43).cell? ⟨w.heap.size, 0, none⟩ = some (.int .i64 P) := Blk.cell srd_48.out 0
  have z_51 : (w_43).cell? ⟨w.heap.size, 1, none⟩ = some (.slice A n k) := Blk.cell srd_48.out 1
  have hc := CheckPath_any P a b M A C n k m2 d2 l y _ rd_47.out hn y_46.out hm2
  rw [E6.out] at hc
  dsimp only at hc
  have HC := Lib.hid hc; clear hc
  go_wp2_with fail
  refine HC.out.mono ?_
  rintro e w_52 ⟨rfl, hb⟩
  clear HC
  clear z_50 z_51
  have bel_53 := Lib.hid (Below.trans bel_44.out (Below.mono hb (bel_44.out.size)))
  clear bel_44
  have x_54 := Lib.hid (RdI.below x_45.out hb)
  clear x_45
  have y_55 := Lib.hid (RdI.below y_46.out hb)
  clear y_46
  have rd_56 := Lib.hid (RdB.below rd_47.out hb)
  clear rd_47
  have srd_57 := Lib.hid (Blk.keep srd_48.out hb)
  clear srd_48
  have z_58 := Lib.hid (RdI.below z_49.out hb)
  clear z_49
  clear hb
  have z_59 : (w_52).cell? ⟨w.heap.size, 0, none⟩ = some (.int .i64 P) := Blk.cell srd_57.out 0
  have z_60 : (w_52).cell? ⟨w.heap.size, 1, none⟩ = some (.slice A n k) := Blk.cell srd_57.out 1
  go_wp2_with fail
  go_quiet (fail)
  clear z_59 z_60
  have bel_61 := Lib.hid (bdrewN bel_53.out nq)
  clear bel_53
  have x_62 := Lib.hid (rdI_drewN x_54.out nq)
  clear x_54
  have y_63 := Lib.hid (rdI_drewN y_55.out nq)
  clear y_55
  have rd_64 := Lib.hid (rdB_drewN rd_56.out nq)
  clear rd_56
  have srd_65 := Lib.hid (blk_drewN srd_57.out nq)
  clear srd_57
  have z_66 := Lib.hid (rdI_drewN z_58.out nq)
  clear z_58
  have z_67 : ((World.drewN w_52 nq)).cell? ⟨w.heap.size, 0, none⟩ = some (.int .i64 P) := Blk.cell srd_65.out 0
  have z_68 : ((World.drewN w_52 nq)).cell? ⟨w.heap.size, 1, none⟩ = some (.slice A n k) := Blk.cell srd_65.out 1
  go_wp2_with fail
  refine (alive_ok _).mono ?_
  rintro e w_69 ⟨rfl, hb⟩
  clear z_67 z_68
  have bel_70 := Lib.hid (Below.trans bel_61.out (Below.mono hb (bel_61.out.size)))
  clear bel_61
  have x_71 := Lib.hid (RdI.below x_62.out hb)
  clear x_62
  have y_72 := Lib.hid (RdI.below y_63.out hb)
  clear y_63
  have rd_73 := Lib.hid (RdB.below rd_64.out hb)
  clear rd_64
  have srd_74 := Lib.hid (Blk.keep srd_65.out hb)
  clear srd_65
  have z_75 := Lib.hid (RdI.below z_66.out hb)
  clear z_66
  clear hb
  go_wp2
  go_ret
  exact ⟨rfl, bel_70.out⟩

set_option maxRecDepth 100000 in
set_option maxHeartbeats 8000000 in
theorem sh_010a_F1_0 (P : Int) (A : Option Addr) (n k : Nat) (l : List Bnd) (w : World) (hr : RdB w A n k l) (hn : n ≤ maxLen) (a b : Nat) (N M : Int) (Bx : Option Addr) (m d : Nat) (x : List Int) (hx : RdI w Bx m d x) (hm : m ≤ maxLen) (C : Option Addr) (m2 d2 : Nat) (y : List Int) (hy : RdI w C m2 d2 y) (hm2 : m2 ≤ maxLen) (hw : n ≤ 403) (h7 : m ≤ 70) (h8 : m2 ≤ 70) (hN : -100000000 ≤ N) (hN2 : N ≤ 100000000) (X1 X2 : Int) (E1 : Hid (∀ x t q, endV P l a b true = .tuple #[.int .i64 x, .bool t, .int .i64 q] → x = X1 ∧ t = true ∧ q = 0)) (E2 : Hid (∀ x t q, endV P l a b false = .tuple #[.int .i64 x, .bool t, .int .i64 q] → x = X2 ∧ t = false ∧ q = 0)) (E3 : Hid (attainV P l a b N = ([], false, 0))) (r1 : X1 < N) (E5 : Hid (keepsV P l x = (false, 1))) (E6 : Hid (checkPathV P l a b M y = (false, 0))) :
    Calls Try.prog 12 #[.agg #[.int .i64 P, .slice A n k], .int .i64 (a : Int), .int .i64 (b : Int), .int .i64 N, .int .i64 M, .slice Bx m d, .slice C m2 d2] w fun e w' => e = .returned (.bool true) ∧ Below w.heap.size w w' := by
  have g1 : decide (N ≤ X1) = false := decide_eq_false (by omega)
  go_enter Try.func12, Try.ntmps12
  have bel_1 := Lib.hid (show Below w.heap.size w w from Below.refl _ w)
  have x_2 := Lib.hid (hx)
  clear hx
  have y_3 := Lib.hid (hy)
  clear hy
  have rd_4 := Lib.hid (hr)
  clear hr
  have bel_5 := Lib.hid (Below.alloc bel_1.out (bel_1.out.size) (.cells #[.int .i64 P, .slice A n k] 24))
  clear bel_1
  have x_6 := Lib.hid (RdI.alloc x_2.out (.cells #[.int .i64 P, .slice A n k] 24))
  clear x_2
  have y_7 := Lib.hid (RdI.alloc y_3.out (.cells #[.int .i64 P, .slice A n k] 24))
  clear y_3
  have rd_8 := Lib.hid (RdB.alloc rd_4.out (.cells #[.int .i64 P, .slice A n k] 24))
  clear rd_4
  have srd_9 := Lib.hid (Blk.new w 24 #[.int .i64 P, .slice A n k])
  have hc := (show Calls Try.prog 18 #[.agg #[.int .i64 P, .slice A n k]] ((w.alloc (.cells #[.int .i64 P, .slice A n k] 24))) fun e w' => e = .returned (.bool true) ∧ Below ((w.alloc (.cells #[.int .i64 P, .slice A n k] 24))).heap.size ((w.alloc (.cells #[.int .i64 P, .slice A n k] 24))) w' from by have h := wide_any P A n k ((w.alloc (.cells #[.int .i64 P, .slice A n k] 24))); rw [show decide (n ≤ 403) = true from by simpa using hw] at h; exact h)
  have HC := Lib.hid hc; clear hc
  go_wp2_with fail
  refine HC.out.mono ?_
  rintro e w_10 ⟨rfl, hb⟩
  clear HC
  have bel_11 := Lib.hid (Below.trans bel_5.out (Below.mono hb (bel_5.out.size)))
  clear bel_5
  have x_12 := Lib.hid (RdI.below x_6.out hb)
  clear x_6
  have y_13 := Lib.hid (RdI.below y_7.out hb)
  clear y_7
  have rd_14 := Lib.hid (RdB.below rd_8.out hb)
  clear rd_8
  have srd_15 := Lib.hid (Blk.keep srd_9.out hb)
  clear srd_9
  clear hb
  have z_16 : (w_10).cell? ⟨w.heap.size, 0, none⟩ = some (.int .i64 P) := Blk.cell srd_15.out 0
  have z_17 : (w_10).cell? ⟨w.heap.size, 1, none⟩ = some (.slice A n k) := Blk.cell srd_15.out 1
  go_wp2_with fail
  refine (Greatest_any P a b A n k l _ rd_14.out hn).mono ?_
  rintro e w_18 ⟨x_, t_, q_, rfl, hv_, hb⟩
  clear z_16 z_17
  have bel_19 := Lib.hid (Below.trans bel_11.out (Below.mono hb (bel_11.out.size)))
  clear bel_11
  have x_20 := Lib.hid (RdI.below x_12.out hb)
  clear x_12
  have y_21 := Lib.hid (RdI.below y_13.out hb)
  clear y_13
  have rd_22 := Lib.hid (RdB.below rd_14.out hb)
  clear rd_14
  have srd_23 := Lib.hid (Blk.keep srd_15.out hb)
  clear srd_15
  clear hb
  obtain ⟨rfl, rfl, rfl⟩ := E1.out _ _ _ hv_; clear hv_
  have z_24 : (w_18).cell? ⟨w.heap.size, 0, none⟩ = some (.int .i64 P) := Blk.cell srd_23.out 0
  have z_25 : (w_18).cell? ⟨w.heap.size, 1, none⟩ = some (.slice A n k) := Blk.cell srd_23.out 1
  go_wp2_with fail
  refine (Least_any P a b A n k l _ rd_22.out hn).mono ?_
  rintro e w_26 ⟨x_, t_, q_, rfl, hv_, hb⟩
  clear z_24 z_25
  have bel_27 := Lib.hid (Below.trans bel_19.out (Below.mono hb (bel_19.out.size)))
  clear bel_19
  have x_28 := Lib.hid (RdI.below x_20.out hb)
  clear x_20
  have y_29 := Lib.hid (RdI.below y_21.out hb)
  clear y_21
  have rd_30 := Lib.hid (RdB.below rd_22.out hb)
  clear rd_22
  have srd_31 := Lib.hid (Blk.keep srd_23.out hb)
  clear srd_23
  clear hb
  obtain ⟨rfl, rfl, rfl⟩ := E2.out _ _ _ hv_; clear hv_
  have z_32 : (w_26).cell? ⟨w.heap.size, 0, none⟩ = some (.int .i64 P) := Blk.cell srd_31.out 0
  have z_33 : (w_26).cell? ⟨w.heap.size, 1, none⟩ = some (.slice A n k) := Blk.cell srd_31.out 1
  have hc := Attain_any P a b N A n k l _ rd_30.out hn
  rw [E3.out] at hc
  unfold RetI at hc; dsimp only at hc
  have HC := Lib.hid hc; clear hc
  go_wp2_with fail
  refine HC.out.mono ?_
  rintro e w_34 ⟨Az, nz, cz, rfl, ho, hb⟩
  clear HC
  clear z_32 z_33
  have bel_35 := Lib.hid (Below.trans bel_27.out (Below.mono hb (bel_27.out.size)))
  clear bel_27
  have x_36 := Lib.hid (RdI.below x_28.out hb)
  clear x_28
  have y_37 := Lib.hid (RdI.below y_29.out hb)
  clear y_29
  have rd_38 := Lib.hid (RdB.below rd_30.out hb)
  clear rd_30
  have srd_39 := Lib.hid (Blk.keep srd_31.out hb)
  clear srd_31
  have z_40 := Lib.hid ((OwnI.rd ho).1)
  obtain rfl : nz = 0 := z_40.out.len.symm
  clear ho hb
  have z_41 : (w_34).cell? ⟨w.heap.size, 0, none⟩ = some (.int .i64 P) := Blk.cell srd_39.out 0
  have z_42 : (w_34).cell? ⟨w.heap.size, 1, none⟩ = some (.slice A n k) := Blk.cell srd_39.out 1
  have hc := Keeps_any P A Bx n k m d l x _ rd_38.out hn x_36.out hm
  rw [E5.out] at hc
  dsimp only at hc
  have HC := Lib.hid hc; clear hc
  go_wp2_with fail
  refine HC.out.mono ?_
  rintro e w_43 ⟨rfl, hb⟩
  clear HC
  clear z_41 z_42
  have bel_44 := Lib.hid (Below.trans bel_35.out (Below.mono hb (bel_35.out.size)))
  clear bel_35
  have x_45 := Lib.hid (RdI.below x_36.out hb)
  clear x_36
  have y_46 := Lib.hid (RdI.below y_37.out hb)
  clear y_37
  have rd_47 := Lib.hid (RdB.below rd_38.out hb)
  clear rd_38
  have srd_48 := Lib.hid (Blk.keep srd_39.out hb)
  clear srd_39
  have z_49 := Lib.hid (RdI.below z_40.out hb)
  clear z_40
  clear hb
  have z_50 : (w_43).cell? ⟨w.heap.size, 0, none⟩ = some (.int .i64 P) := Blk.cell srd_48.out 0
  have z_51 : (w_43).cell? ⟨w.heap.size, 1, none⟩ = some (.slice A n k) := Blk.cell srd_48.out 1
  have hc := CheckPath_any P a b M A C n k m2 d2 l y _ rd_47.out hn y_46.out hm2
  rw [E6.out] at hc
  dsimp only at hc
  have HC := Lib.hid hc; clear hc
  go_wp2_with fail
  refine HC.out.mono ?_
  rintro e w_52 ⟨rfl, hb⟩
  clear HC
  clear z_50 z_51
  have bel_53 := Lib.hid (Below.trans bel_44.out (Below.mono hb (bel_44.out.size)))
  clear bel_44
  have x_54 := Lib.hid (RdI.below x_45.out hb)
  clear x_45
  have y_55 := Lib.hid (RdI.below y_46.out hb)
  clear y_46
  have rd_56 := Lib.hid (RdB.below rd_47.out hb)
  clear rd_47
  have srd_57 := Lib.hid (Blk.keep srd_48.out hb)
  clear srd_48
  have z_58 := Lib.hid (RdI.below z_49.out hb)
  clear z_49
  clear hb
  have z_59 : (w_52).cell? ⟨w.heap.size, 0, none⟩ = some (.int .i64 P) := Blk.cell srd_57.out 0
  have z_60 : (w_52).cell? ⟨w.heap.size, 1, none⟩ = some (.slice A n k) := Blk.cell srd_57.out 1
  go_wp2_with fail
  go_quiet (fail)
  clear z_59 z_60
  have bel_61 := Lib.hid (bdrewN bel_53.out nq)
  clear bel_53
  have x_62 := Lib.hid (rdI_drewN x_54.out nq)
  clear x_54
  have y_63 := Lib.hid (rdI_drewN y_55.out nq)
  clear y_55
  have rd_64 := Lib.hid (rdB_drewN rd_56.out nq)
  clear rd_56
  have srd_65 := Lib.hid (blk_drewN srd_57.out nq)
  clear srd_57
  have z_66 := Lib.hid (rdI_drewN z_58.out nq)
  clear z_58
  have z_67 : ((World.drewN w_52 nq)).cell? ⟨w.heap.size, 0, none⟩ = some (.int .i64 P) := Blk.cell srd_65.out 0
  have z_68 : ((World.drewN w_52 nq)).cell? ⟨w.heap.size, 1, none⟩ = some (.slice A n k) := Blk.cell srd_65.out 1
  go_wp2_with fail
  refine (alive_ok _).mono ?_
  rintro e w_69 ⟨rfl, hb⟩
  clear z_67 z_68
  have bel_70 := Lib.hid (Below.trans bel_61.out (Below.mono hb (bel_61.out.size)))
  clear bel_61
  have x_71 := Lib.hid (RdI.below x_62.out hb)
  clear x_62
  have y_72 := Lib.hid (RdI.below y_63.out hb)
  clear y_63
  have rd_73 := Lib.hid (RdB.below rd_64.out hb)
  clear rd_64
  have srd_74 := Lib.hid (Blk.keep srd_65.out hb)
  clear srd_65
  have z_75 := Lib.hid (RdI.below z_66.out hb)
  clear z_66
  clear hb
  go_wp2
  go_ret
  exact ⟨rfl, bel_70.out⟩

set_option maxRecDepth 100000 in
set_option maxHeartbeats 8000000 in
theorem sh_011b_F0_1 (P : Int) (A : Option Addr) (n k : Nat) (l : List Bnd) (w : World) (hr : RdB w A n k l) (hn : n ≤ maxLen) (a b : Nat) (N M : Int) (Bx : Option Addr) (m d : Nat) (x : List Int) (hx : RdI w Bx m d x) (hm : m ≤ maxLen) (C : Option Addr) (m2 d2 : Nat) (y : List Int) (hy : RdI w C m2 d2 y) (hm2 : m2 ≤ maxLen) (hw : n ≤ 403) (h7 : m ≤ 70) (h8 : m2 ≤ 70) (hN : -100000000 ≤ N) (hN2 : N ≤ 100000000) (X1 X2 : Int) (E1 : Hid (∀ x t q, endV P l a b true = .tuple #[.int .i64 x, .bool t, .int .i64 q] → x = X1 ∧ t = true ∧ q = 0)) (E2 : Hid (∀ x t q, endV P l a b false = .tuple #[.int .i64 x, .bool t, .int .i64 q] → x = X2 ∧ t = true ∧ q = 0)) (E3 : Hid (attainV P l a b N = ([], false, 0))) (r1 : N ≤ X1) (r2 : N < X2) (E5 : Hid (keepsV P l x = (false, 0))) (E6 : Hid (checkPathV P l a b M y = (true, 0))) (s1 : X1 ≤ M) :
    Calls Try.prog 12 #[.agg #[.int .i64 P, .slice A n k], .int .i64 (a : Int), .int .i64 (b : Int), .int .i64 N, .int .i64 M, .slice Bx m d, .slice C m2 d2] w fun e w' => e = .returned (.bool true) ∧ Below w.heap.size w w' := by
  have g1 : decide (N ≤ X1) = true := decide_eq_true r1
  have g2 : decide (X2 ≤ N) = false := decide_eq_false (by omega)
  have g6 : decide (X1 ≤ M) = true := decide_eq_true s1
  go_enter Try.func12, Try.ntmps12
  have bel_1 := Lib.hid (show Below w.heap.size w w from Below.refl _ w)
  have x_2 := Lib.hid (hx)
  clear hx
  have y_3 := Lib.hid (hy)
  clear hy
  have rd_4 := Lib.hid (hr)
  clear hr
  have bel_5 := Lib.hid (Below.alloc bel_1.out (bel_1.out.size) (.cells #[.int .i64 P, .slice A n k] 24))
  clear bel_1
  have x_6 := Lib.hid (RdI.alloc x_2.out (.cells #[.int .i64 P, .slice A n k] 24))
  clear x_2
  have y_7 := Lib.hid (RdI.alloc y_3.out (.cells #[.int .i64 P, .slice A n k] 24))
  clear y_3
  have rd_8 := Lib.hid (RdB.alloc rd_4.out (.cells #[.int .i64 P, .slice A n k] 24))
  clear rd_4
  have srd_9 := Lib.hid (Blk.new w 24 #[.int .i64 P, .slice A n k])
  have hc := (show Calls Try.prog 18 #[.agg #[.int .i64 P, .slice A n k]] ((w.alloc (.cells #[.int .i64 P, .slice A n k] 24))) fun e w' => e = .returned (.bool true) ∧ Below ((w.alloc (.cells #[.int .i64 P, .slice A n k] 24))).heap.size ((w.alloc (.cells #[.int .i64 P, .slice A n k] 24))) w' from by have h := wide_any P A n k ((w.alloc (.cells #[.int .i64 P, .slice A n k] 24))); rw [show decide (n ≤ 403) = true from by simpa using hw] at h; exact h)
  have HC := Lib.hid hc; clear hc
  go_wp2_with fail
  refine HC.out.mono ?_
  rintro e w_10 ⟨rfl, hb⟩
  clear HC
  have bel_11 := Lib.hid (Below.trans bel_5.out (Below.mono hb (bel_5.out.size)))
  clear bel_5
  have x_12 := Lib.hid (RdI.below x_6.out hb)
  clear x_6
  have y_13 := Lib.hid (RdI.below y_7.out hb)
  clear y_7
  have rd_14 := Lib.hid (RdB.below rd_8.out hb)
  clear rd_8
  have srd_15 := Lib.hid (Blk.keep srd_9.out hb)
  clear srd_9
  clear hb
  have z_16 : (w_10).cell? ⟨w.heap.size, 0, none⟩ = some (.int .i64 P) := Blk.cell srd_15.out 0
  have z_17 : (w_10).cell? ⟨w.heap.size, 1, none⟩ = some (.slice A n k) := Blk.cell srd_15.out 1
  go_wp2_with fail
  refine (Greatest_any P a b A n k l _ rd_14.out hn).mono ?_
  rintro e w_18 ⟨x_, t_, q_, rfl, hv_, hb⟩
  clear z_16 z_17
  have bel_19 := Lib.hid (Below.trans bel_11.out (Below.mono hb (bel_11.out.size)))
  clear bel_11
  have x_20 := Lib.hid (RdI.below x_12.out hb)
  clear x_12
  have y_21 := Lib.hid (RdI.below y_13.out hb)
  clear y_13
  have rd_22 := Lib.hid (RdB.below rd_14.out hb)
  clear rd_14
  have srd_23 := Lib.hid (Blk.keep srd_15.out hb)
  clear srd_15
  clear hb
  obtain ⟨rfl, rfl, rfl⟩ := E1.out _ _ _ hv_; clear hv_
  have z_24 : (w_18).cell? ⟨w.heap.size, 0, none⟩ = some (.int .i64 P) := Blk.cell srd_23.out 0
  have z_25 : (w_18).cell? ⟨w.heap.size, 1, none⟩ = some (.slice A n k) := Blk.cell srd_23.out 1
  go_wp2_with fail
  refine (Least_any P a b A n k l _ rd_22.out hn).mono ?_
  rintro e w_26 ⟨x_, t_, q_, rfl, hv_, hb⟩
  clear z_24 z_25
  have bel_27 := Lib.hid (Below.trans bel_19.out (Below.mono hb (bel_19.out.size)))
  clear bel_19
  have x_28 := Lib.hid (RdI.below x_20.out hb)
  clear x_20
  have y_29 := Lib.hid (RdI.below y_21.out hb)
  clear y_21
  have rd_30 := Lib.hid (RdB.below rd_22.out hb)
  clear rd_22
  have srd_31 := Lib.hid (Blk.keep srd_23.out hb)
  clear srd_23
  clear hb
  obtain ⟨rfl, rfl, rfl⟩ := E2.out _ _ _ hv_; clear hv_
  have z_32 : (w_26).cell? ⟨w.heap.size, 0, none⟩ = some (.int .i64 P) := Blk.cell srd_31.out 0
  have z_33 : (w_26).cell? ⟨w.heap.size, 1, none⟩ = some (.slice A n k) := Blk.cell srd_31.out 1
  have hc := Attain_any P a b N A n k l _ rd_30.out hn
  rw [E3.out] at hc
  unfold RetI at hc; dsimp only at hc
  have HC := Lib.hid hc; clear hc
  go_wp2_with fail
  refine HC.out.mono ?_
  rintro e w_34 ⟨Az, nz, cz, rfl, ho, hb⟩
  clear HC
  clear z_32 z_33
  have bel_35 := Lib.hid (Below.trans bel_27.out (Below.mono hb (bel_27.out.size)))
  clear bel_27
  have x_36 := Lib.hid (RdI.below x_28.out hb)
  clear x_28
  have y_37 := Lib.hid (RdI.below y_29.out hb)
  clear y_29
  have rd_38 := Lib.hid (RdB.below rd_30.out hb)
  clear rd_30
  have srd_39 := Lib.hid (Blk.keep srd_31.out hb)
  clear srd_31
  have z_40 := Lib.hid ((OwnI.rd ho).1)
  obtain rfl : nz = 0 := z_40.out.len.symm
  clear ho hb
  have z_41 : (w_34).cell? ⟨w.heap.size, 0, none⟩ = some (.int .i64 P) := Blk.cell srd_39.out 0
  have z_42 : (w_34).cell? ⟨w.heap.size, 1, none⟩ = some (.slice A n k) := Blk.cell srd_39.out 1
  have hc := Keeps_any P A Bx n k m d l x _ rd_38.out hn x_36.out hm
  rw [E5.out] at hc
  dsimp only at hc
  have HC := Lib.hid hc; clear hc
  go_wp2_with fail
  refine HC.out.mono ?_
  rintro e w_43 ⟨rfl, hb⟩
  clear HC
  clear z_41 z_42
  have bel_44 := Lib.hid (Below.trans bel_35.out (Below.mono hb (bel_35.out.size)))
  clear bel_35
  have x_45 := Lib.hid (RdI.below x_36.out hb)
  clear x_36
  have y_46 := Lib.hid (RdI.below y_37.out hb)
  clear y_37
  have rd_47 := Lib.hid (RdB.below rd_38.out hb)
  clear rd_38
  have srd_48 := Lib.hid (Blk.keep srd_39.out hb)
  clear srd_39
  have z_49 := Lib.hid (RdI.below z_40.out hb)
  clear z_40
  clear hb
  have z_50 : (w_43).cell? ⟨w.heap.size, 0, none⟩ = some (.int .i64 P) := Blk.cell srd_48.out 0
  have z_51 : (w_43).cell? ⟨w.heap.size, 1, none⟩ = some (.slice A n k) := Blk.cell srd_48.out 1
  have hc := CheckPath_any P a b M A C n k m2 d2 l y _ rd_47.out hn y_46.out hm2
  rw [E6.out] at hc
  dsimp only at hc
  have HC := Lib.hid hc; clear hc
  go_wp2_with fail
  refine HC.out.mono ?_
  rintro e w_52 ⟨rfl, hb⟩
  clear HC
  clear z_50 z_51
  have bel_53 := Lib.hid (Below.trans bel_44.out (Below.mono hb (bel_44.out.size)))
  clear bel_44
  have x_54 := Lib.hid (RdI.below x_45.out hb)
  clear x_45
  have y_55 := Lib.hid (RdI.below y_46.out hb)
  clear y_46
  have rd_56 := Lib.hid (RdB.below rd_47.out hb)
  clear rd_47
  have srd_57 := Lib.hid (Blk.keep srd_48.out hb)
  clear srd_48
  have z_58 := Lib.hid (RdI.below z_49.out hb)
  clear z_49
  clear hb
  have z_59 : (w_52).cell? ⟨w.heap.size, 0, none⟩ = some (.int .i64 P) := Blk.cell srd_57.out 0
  have z_60 : (w_52).cell? ⟨w.heap.size, 1, none⟩ = some (.slice A n k) := Blk.cell srd_57.out 1
  go_wp2_with fail
  go_quiet (fail)
  clear z_59 z_60
  have bel_61 := Lib.hid (bdrewN bel_53.out nq)
  clear bel_53
  have x_62 := Lib.hid (rdI_drewN x_54.out nq)
  clear x_54
  have y_63 := Lib.hid (rdI_drewN y_55.out nq)
  clear y_55
  have rd_64 := Lib.hid (rdB_drewN rd_56.out nq)
  clear rd_56
  have srd_65 := Lib.hid (blk_drewN srd_57.out nq)
  clear srd_57
  have z_66 := Lib.hid (rdI_drewN z_58.out nq)
  clear z_58
  have z_67 : ((World.drewN w_52 nq)).cell? ⟨w.heap.size, 0, none⟩ = some (.int .i64 P) := Blk.cell srd_65.out 0
  have z_68 : ((World.drewN w_52 nq)).cell? ⟨w.heap.size, 1, none⟩ = some (.slice A n k) := Blk.cell srd_65.out 1
  go_wp2_with fail
  refine (alive_ok _).mono ?_
  rintro e w_69 ⟨rfl, hb⟩
  clear z_67 z_68
  have bel_70 := Lib.hid (Below.trans bel_61.out (Below.mono hb (bel_61.out.size)))
  clear bel_61
  have x_71 := Lib.hid (RdI.below x_62.out hb)
  clear x_62
  have y_72 := Lib.hid (RdI.below y_63.out hb)
  clear y_63
  have rd_73 := Lib.hid (RdB.below rd_64.out hb)
  clear rd_64
  have srd_74 := Lib.hid (Blk.keep srd_65.out hb)
  clear srd_65
  have z_75 := Lib.hid (RdI.below z_66.out hb)
  clear z_66
  clear hb
  go_wp2
  go_ret
  exact ⟨rfl, bel_70.out⟩

set_option maxRecDepth 100000 in
set_option maxHeartbeats 8000000 in
theorem sh_011b_F1_0 (P : Int) (A : Option Addr) (n k : Nat) (l : List Bnd) (w : World) (hr : RdB w A n k l) (hn : n ≤ maxLen) (a b : Nat) (N M : Int) (Bx : Option Addr) (m d : Nat) (x : List Int) (hx : RdI w Bx m d x) (hm : m ≤ maxLen) (C : Option Addr) (m2 d2 : Nat) (y : List Int) (hy : RdI w C m2 d2 y) (hm2 : m2 ≤ maxLen) (hw : n ≤ 403) (h7 : m ≤ 70) (h8 : m2 ≤ 70) (hN : -100000000 ≤ N) (hN2 : N ≤ 100000000) (X1 X2 : Int) (E1 : Hid (∀ x t q, endV P l a b true = .tuple #[.int .i64 x, .bool t, .int .i64 q] → x = X1 ∧ t = true ∧ q = 0)) (E2 : Hid (∀ x t q, endV P l a b false = .tuple #[.int .i64 x, .bool t, .int .i64 q] → x = X2 ∧ t = true ∧ q = 0)) (E3 : Hid (attainV P l a b N = ([], false, 0))) (r1 : N ≤ X1) (r2 : N < X2) (E5 : Hid (keepsV P l x = (false, 1))) (E6 : Hid (checkPathV P l a b M y = (false, 0))) :
    Calls Try.prog 12 #[.agg #[.int .i64 P, .slice A n k], .int .i64 (a : Int), .int .i64 (b : Int), .int .i64 N, .int .i64 M, .slice Bx m d, .slice C m2 d2] w fun e w' => e = .returned (.bool true) ∧ Below w.heap.size w w' := by
  have g1 : decide (N ≤ X1) = true := decide_eq_true r1
  have g2 : decide (X2 ≤ N) = false := decide_eq_false (by omega)
  go_enter Try.func12, Try.ntmps12
  have bel_1 := Lib.hid (show Below w.heap.size w w from Below.refl _ w)
  have x_2 := Lib.hid (hx)
  clear hx
  have y_3 := Lib.hid (hy)
  clear hy
  have rd_4 := Lib.hid (hr)
  clear hr
  have bel_5 := Lib.hid (Below.alloc bel_1.out (bel_1.out.size) (.cells #[.int .i64 P, .slice A n k] 24))
  clear bel_1
  have x_6 := Lib.hid (RdI.alloc x_2.out (.cells #[.int .i64 P, .slice A n k] 24))
  clear x_2
  have y_7 := Lib.hid (RdI.alloc y_3.out (.cells #[.int .i64 P, .slice A n k] 24))
  clear y_3
  have rd_8 := Lib.hid (RdB.alloc rd_4.out (.cells #[.int .i64 P, .slice A n k] 24))
  clear rd_4
  have srd_9 := Lib.hid (Blk.new w 24 #[.int .i64 P, .slice A n k])
  have hc := (show Calls Try.prog 18 #[.agg #[.int .i64 P, .slice A n k]] ((w.alloc (.cells #[.int .i64 P, .slice A n k] 24))) fun e w' => e = .returned (.bool true) ∧ Below ((w.alloc (.cells #[.int .i64 P, .slice A n k] 24))).heap.size ((w.alloc (.cells #[.int .i64 P, .slice A n k] 24))) w' from by have h := wide_any P A n k ((w.alloc (.cells #[.int .i64 P, .slice A n k] 24))); rw [show decide (n ≤ 403) = true from by simpa using hw] at h; exact h)
  have HC := Lib.hid hc; clear hc
  go_wp2_with fail
  refine HC.out.mono ?_
  rintro e w_10 ⟨rfl, hb⟩
  clear HC
  have bel_11 := Lib.hid (Below.trans bel_5.out (Below.mono hb (bel_5.out.size)))
  clear bel_5
  have x_12 := Lib.hid (RdI.below x_6.out hb)
  clear x_6
  have y_13 := Lib.hid (RdI.below y_7.out hb)
  clear y_7
  have rd_14 := Lib.hid (RdB.below rd_8.out hb)
  clear rd_8
  have srd_15 := Lib.hid (Blk.keep srd_9.out hb)
  clear srd_9
  clear hb
  have z_16 : (w_10).cell? ⟨w.heap.size, 0, none⟩ = some (.int .i64 P) := Blk.cell srd_15.out 0
  have z_17 : (w_10).cell? ⟨w.heap.size, 1, none⟩ = some (.slice A n k) := Blk.cell srd_15.out 1
  go_wp2_with fail
  refine (Greatest_any P a b A n k l _ rd_14.out hn).mono ?_
  rintro e w_18 ⟨x_, t_, q_, rfl, hv_, hb⟩
  clear z_16 z_17
  have bel_19 := Lib.hid (Below.trans bel_11.out (Below.mono hb (bel_11.out.size)))
  clear bel_11
  have x_20 := Lib.hid (RdI.below x_12.out hb)
  clear x_12
  have y_21 := Lib.hid (RdI.below y_13.out hb)
  clear y_13
  have rd_22 := Lib.hid (RdB.below rd_14.out hb)
  clear rd_14
  have srd_23 := Lib.hid (Blk.keep srd_15.out hb)
  clear srd_15
  clear hb
  obtain ⟨rfl, rfl, rfl⟩ := E1.out _ _ _ hv_; clear hv_
  have z_24 : (w_18).cell? ⟨w.heap.size, 0, none⟩ = some (.int .i64 P) := Blk.cell srd_23.out 0
  have z_25 : (w_18).cell? ⟨w.heap.size, 1, none⟩ = some (.slice A n k) := Blk.cell srd_23.out 1
  go_wp2_with fail
  refine (Least_any P a b A n k l _ rd_22.out hn).mono ?_
  rintro e w_26 ⟨x_, t_, q_, rfl, hv_, hb⟩
  clear z_24 z_25
  have bel_27 := Lib.hid (Below.trans bel_19.out (Below.mono hb (bel_19.out.size)))
  clear bel_19
  have x_28 := Lib.hid (RdI.below x_20.out hb)
  clear x_20
  have y_29 := Lib.hid (RdI.below y_21.out hb)
  clear y_21
  have rd_30 := Lib.hid (RdB.below rd_22.out hb)
  clear rd_22
  have srd_31 := Lib.hid (Blk.keep srd_23.out hb)
  clear srd_23
  clear hb
  obtain ⟨rfl, rfl, rfl⟩ := E2.out _ _ _ hv_; clear hv_
  have z_32 : (w_26).cell? ⟨w.heap.size, 0, none⟩ = some (.int .i64 P) := Blk.cell srd_31.out 0
  have z_33 : (w_26).cell? ⟨w.heap.size, 1, none⟩ = some (.slice A n k) := Blk.cell srd_31.out 1
  have hc := Attain_any P a b N A n k l _ rd_30.out hn
  rw [E3.out] at hc
  unfold RetI at hc; dsimp only at hc
  have HC := Lib.hid hc; clear hc
  go_wp2_with fail
  refine HC.out.mono ?_
  rintro e w_34 ⟨Az, nz, cz, rfl, ho, hb⟩
  clear HC
  clear z_32 z_33
  have bel_35 := Lib.hid (Below.trans bel_27.out (Below.mono hb (bel_27.out.size)))
  clear bel_27
  have x_36 := Lib.hid (RdI.below x_28.out hb)
  clear x_28
  have y_37 := Lib.hid (RdI.below y_29.out hb)
  clear y_29
  have rd_38 := Lib.hid (RdB.below rd_30.out hb)
  clear rd_30
  have srd_39 := Lib.hid (Blk.keep srd_31.out hb)
  clear srd_31
  have z_40 := Lib.hid ((OwnI.rd ho).1)
  obtain rfl : nz = 0 := z_40.out.len.symm
  clear ho hb
  have z_41 : (w_34).cell? ⟨w.heap.size, 0, none⟩ = some (.int .i64 P) := Blk.cell srd_39.out 0
  have z_42 : (w_34).cell? ⟨w.heap.size, 1, none⟩ = some (.slice A n k) := Blk.cell srd_39.out 1
  have hc := Keeps_any P A Bx n k m d l x _ rd_38.out hn x_36.out hm
  rw [E5.out] at hc
  dsimp only at hc
  have HC := Lib.hid hc; clear hc
  go_wp2_with fail
  refine HC.out.mono ?_
  rintro e w_43 ⟨rfl, hb⟩
  clear HC
  clear z_41 z_42
  have bel_44 := Lib.hid (Below.trans bel_35.out (Below.mono hb (bel_35.out.size)))
  clear bel_35
  have x_45 := Lib.hid (RdI.below x_36.out hb)
  clear x_36
  have y_46 := Lib.hid (RdI.below y_37.out hb)
  clear y_37
  have rd_47 := Lib.hid (RdB.below rd_38.out hb)
  clear rd_38
  have srd_48 := Lib.hid (Blk.keep srd_39.out hb)
  clear srd_39
  have z_49 := Lib.hid (RdI.below z_40.out hb)
  clear z_40
  clear hb
  have z_50 : (w_43).cell? ⟨w.heap.size, 0, none⟩ = some (.int .i64 P) := Blk.cell srd_48.out 0
  have z_51 : (w_43).cell? ⟨w.heap.size, 1, none⟩ = some (.slice A n k) := Blk.cell srd_48.out 1
  have hc := CheckPath_any P a b M A C n k m2 d2 l y _ rd_47.out hn y_46.out hm2
  rw [E6.out] at hc
  dsimp only at hc
  have HC := Lib.hid hc; clear hc
  go_wp2_with fail
  refine HC.out.mono ?_
  rintro e w_52 ⟨rfl, hb⟩
  clear HC
  clear z_50 z_51
  have bel_53 := Lib.hid (Below.trans bel_44.out (Below.mono hb (bel_44.out.size)))
  clear bel_44
  have x_54 := Lib.hid (RdI.below x_45.out hb)
  clear x_45
  have y_55 := Lib.hid (RdI.below y_46.out hb)
  clear y_46
  have rd_56 := Lib.hid (RdB.below rd_47.out hb)
  clear rd_47
  have srd_57 := Lib.hid (Blk.keep srd_48.out hb)
  clear srd_48
  have z_58 := Lib.hid (RdI.below z_49.out hb)
  clear z_49
  clear hb
  have z_59 : (w_52).cell? ⟨w.heap.size, 0, none⟩ = some (.int .i64 P) := Blk.cell srd_57.out 0
  have z_60 : (w_52).cell? ⟨w.heap.size, 1, none⟩ = some (.slice A n k) := Blk.cell srd_57.out 1
  go_wp2_with fail
  go_quiet (fail)
  clear z_59 z_60
  have bel_61 := Lib.hid (bdrewN bel_53.out nq)
  clear bel_53
  have x_62 := Lib.hid (rdI_drewN x_54.out nq)
  clear x_54
  have y_63 := Lib.hid (rdI_drewN y_55.out nq)
  clear y_55
  have rd_64 := Lib.hid (rdB_drewN rd_56.out nq)
  clear rd_56
  have srd_65 := Lib.hid (blk_drewN srd_57.out nq)
  clear srd_57
  have z_66 := Lib.hid (rdI_drewN z_58.out nq)
  clear z_58
  have z_67 : ((World.drewN w_52 nq)).cell? ⟨w.heap.size, 0, none⟩ = some (.int .i64 P) := Blk.cell srd_65.out 0
  have z_68 : ((World.drewN w_52 nq)).cell? ⟨w.heap.size, 1, none⟩ = some (.slice A n k) := Blk.cell srd_65.out 1
  go_wp2_with fail
  refine (alive_ok _).mono ?_
  rintro e w_69 ⟨rfl, hb⟩
  clear z_67 z_68
  have bel_70 := Lib.hid (Below.trans bel_61.out (Below.mono hb (bel_61.out.size)))
  clear bel_61
  have x_71 := Lib.hid (RdI.below x_62.out hb)
  clear x_62
  have y_72 := Lib.hid (RdI.below y_63.out hb)
  clear y_63
  have rd_73 := Lib.hid (RdB.below rd_64.out hb)
  clear rd_64
  have srd_74 := Lib.hid (Blk.keep srd_65.out hb)
  clear srd_65
  have z_75 := Lib.hid (RdI.below z_66.out hb)
  clear z_66
  clear hb
  go_wp2
  go_ret
  exact ⟨rfl, bel_70.out⟩

set_option maxRecDepth 100000 in
set_option maxHeartbeats 8000000 in
theorem sh_001b_F1_0 (P : Int) (A : Option Addr) (n k : Nat) (l : List Bnd) (w : World) (hr : RdB w A n k l) (hn : n ≤ maxLen) (a b : Nat) (N M : Int) (Bx : Option Addr) (m d : Nat) (x : List Int) (hx : RdI w Bx m d x) (hm : m ≤ maxLen) (C : Option Addr) (m2 d2 : Nat) (y : List Int) (hy : RdI w C m2 d2 y) (hm2 : m2 ≤ maxLen) (hw : n ≤ 403) (h7 : m ≤ 70) (h8 : m2 ≤ 70) (hN : -100000000 ≤ N) (hN2 : N ≤ 100000000) (X1 X2 : Int) (E1 : Hid (∀ x t q, endV P l a b true = .tuple #[.int .i64 x, .bool t, .int .i64 q] → x = X1 ∧ t = false ∧ q = 0)) (E2 : Hid (∀ x t q, endV P l a b false = .tuple #[.int .i64 x, .bool t, .int .i64 q] → x = X2 ∧ t = true ∧ q = 0)) (E3 : Hid (attainV P l a b N = ([], false, 0))) (r2 : N < X2) (E5 : Hid (keepsV P l x = (false, 1))) (E6 : Hid (checkPathV P l a b M y = (false, 0))) :
    Calls Try.prog 12 #[.agg #[.int .i64 P, .slice A n k], .int .i64 (a : Int), .int .i64 (b : Int), .int .i64 N, .int .i64 M, .slice Bx m d, .slice C m2 d2] w fun e w' => e = .returned (.bool true) ∧ Below w.heap.size w w' := by
  have g2 : decide (X2 ≤ N) = false := decide_eq_false (by omega)
  go_enter Try.func12, Try.ntmps12
  have bel_1 := Lib.hid (show Below w.heap.size w w from Below.refl _ w)
  have x_2 := Lib.hid (hx)
  clear hx
  have y_3 := Lib.hid (hy)
  clear hy
  have rd_4 := Lib.hid (hr)
  clear hr
  have bel_5 := Lib.hid (Below.alloc bel_1.out (bel_1.out.size) (.cells #[.int .i64 P, .slice A n k] 24))
  clear bel_1
  have x_6 := Lib.hid (RdI.alloc x_2.out (.cells #[.int .i64 P, .slice A n k] 24))
  clear x_2
  have y_7 := Lib.hid (RdI.alloc y_3.out (.cells #[.int .i64 P, .slice A n k] 24))
  clear y_3
  have rd_8 := Lib.hid (RdB.alloc rd_4.out (.cells #[.int .i64 P, .slice A n k] 24))
  clear rd_4
  have srd_9 := Lib.hid (Blk.new w 24 #[.int .i64 P, .slice A n k])
  have hc := (show Calls Try.prog 18 #[.agg #[.int .i64 P, .slice A n k]] ((w.alloc (.cells #[.int .i64 P, .slice A n k] 24))) fun e w' => e = .returned (.bool true) ∧ Below ((w.alloc (.cells #[.int .i64 P, .slice A n k] 24))).heap.size ((w.alloc (.cells #[.int .i64 P, .slice A n k] 24))) w' from by have h := wide_any P A n k ((w.alloc (.cells #[.int .i64 P, .slice A n k] 24))); rw [show decide (n ≤ 403) = true from by simpa using hw] at h; exact h)
  have HC := Lib.hid hc; clear hc
  go_wp2_with fail
  refine HC.out.mono ?_
  rintro e w_10 ⟨rfl, hb⟩
  clear HC
  have bel_11 := Lib.hid (Below.trans bel_5.out (Below.mono hb (bel_5.out.size)))
  clear bel_5
  have x_12 := Lib.hid (RdI.below x_6.out hb)
  clear x_6
  have y_13 := Lib.hid (RdI.below y_7.out hb)
  clear y_7
  have rd_14 := Lib.hid (RdB.below rd_8.out hb)
  clear rd_8
  have srd_15 := Lib.hid (Blk.keep srd_9.out hb)
  clear srd_9
  clear hb
  have z_16 : (w_10).cell? ⟨w.heap.size, 0, none⟩ = some (.int .i64 P) := Blk.cell srd_15.out 0
  have z_17 : (w_10).cell? ⟨w.heap.size, 1, none⟩ = some (.slice A n k) := Blk.cell srd_15.out 1
  go_wp2_with fail
  refine (Greatest_any P a b A n k l _ rd_14.out hn).mono ?_
  rintro e w_18 ⟨x_, t_, q_, rfl, hv_, hb⟩
  clear z_16 z_17
  have bel_19 := Lib.hid (Below.trans bel_11.out (Below.mono hb (bel_11.out.size)))
  clear bel_11
  have x_20 := Lib.hid (RdI.below x_12.out hb)
  clear x_12
  have y_21 := Lib.hid (RdI.below y_13.out hb)
  clear y_13
  have rd_22 := Lib.hid (RdB.below rd_14.out hb)
  clear rd_14
  have srd_23 := Lib.hid (Blk.keep srd_15.out hb)
  clear srd_15
  clear hb
  obtain ⟨rfl, rfl, rfl⟩ := E1.out _ _ _ hv_; clear hv_
  have z_24 : (w_18).cell? ⟨w.heap.size, 0, none⟩ = some (.int .i64 P) := Blk.cell srd_23.out 0
  have z_25 : (w_18).cell? ⟨w.heap.size, 1, none⟩ = some (.slice A n k) := Blk.cell srd_23.out 1
  go_wp2_with fail
  refine (Least_any P a b A n k l _ rd_22.out hn).mono ?_
  rintro e w_26 ⟨x_, t_, q_, rfl, hv_, hb⟩
  clear z_24 z_25
  have bel_27 := Lib.hid (Below.trans bel_19.out (Below.mono hb (bel_19.out.size)))
  clear bel_19
  have x_28 := Lib.hid (RdI.below x_20.out hb)
  clear x_20
  have y_29 := Lib.hid (RdI.below y_21.out hb)
  clear y_21
  have rd_30 := Lib.hid (RdB.below rd_22.out hb)
  clear rd_22
  have srd_31 := Lib.hid (Blk.keep srd_23.out hb)
  clear srd_23
  clear hb
  obtain ⟨rfl, rfl, rfl⟩ := E2.out _ _ _ hv_; clear hv_
  have z_32 : (w_26).cell? ⟨w.heap.size, 0, none⟩ = some (.int .i64 P) := Blk.cell srd_31.out 0
  have z_33 : (w_26).cell? ⟨w.heap.size, 1, none⟩ = some (.slice A n k) := Blk.cell srd_31.out 1
  have hc := Attain_any P a b N A n k l _ rd_30.out hn
  rw [E3.out] at hc
  unfold RetI at hc; dsimp only at hc
  have HC := Lib.hid hc; clear hc
  go_wp2_with fail
  refine HC.out.mono ?_
  rintro e w_34 ⟨Az, nz, cz, rfl, ho, hb⟩
  clear HC
  clear z_32 z_33
  have bel_35 := Lib.hid (Below.trans bel_27.out (Below.mono hb (bel_27.out.size)))
  clear bel_27
  have x_36 := Lib.hid (RdI.below x_28.out hb)
  clear x_28
  have y_37 := Lib.hid (RdI.below y_29.out hb)
  clear y_29
  have rd_38 := Lib.hid (RdB.below rd_30.out hb)
  clear rd_30
  have srd_39 := Lib.hid (Blk.keep srd_31.out hb)
  clear srd_31
  have z_40 := Lib.hid ((OwnI.rd ho).1)
  obtain rfl : nz = 0 := z_40.out.len.symm
  clear ho hb
  have z_41 : (w_34).cell? ⟨w.heap.size, 0, none⟩ = some (.int .i64 P) := Blk.cell srd_39.out 0
  have z_42 : (w_34).cell? ⟨w.heap.size, 1, none⟩ = some (.slice A n k) := Blk.cell srd_39.out 1
  have hc := Keeps_any P A Bx n k m d l x _ rd_38.out hn x_36.out hm
  rw [E5.out] at hc
  dsimp only at hc
  have HC := Lib.hid hc; clear hc
  go_wp2_with fail
  refine HC.out.mono ?_
  rintro e w_43 ⟨rfl, hb⟩
  clear HC
  clear z_41 z_42
  have bel_44 := Lib.hid (Below.trans bel_35.out (Below.mono hb (bel_35.out.size)))
  clear bel_35
  have x_45 := Lib.hid (RdI.below x_36.out hb)
  clear x_36
  have y_46 := Lib.hid (RdI.below y_37.out hb)
  clear y_37
  have rd_47 := Lib.hid (RdB.below rd_38.out hb)
  clear rd_38
  have srd_48 := Lib.hid (Blk.keep srd_39.out hb)
  clear srd_39
  have z_49 := Lib.hid (RdI.below z_40.out hb)
  clear z_40
  clear hb
  have z_50 : (w_43).cell? ⟨w.heap.size, 0, none⟩ = some (.int .i64 P) := Blk.cell srd_48.out 0
  have z_51 : (w_43).cell? ⟨w.heap.size, 1, none⟩ = some (.slice A n k) := Blk.cell srd_48.out 1
  have hc := CheckPath_any P a b M A C n k m2 d2 l y _ rd_47.out hn y_46.out hm2
  rw [E6.out] at hc
  dsimp only at hc
  have HC := Lib.hid hc; clear hc
  go_wp2_with fail
  refine HC.out.mono ?_
  rintro e w_52 ⟨rfl, hb⟩
  clear HC
  clear z_50 z_51
  have bel_53 := Lib.hid (Below.trans bel_44.out (Below.mono hb (bel_44.out.size)))
  clear bel_44
  have x_54 := Lib.hid (RdI.below x_45.out hb)
  clear x_45
  have y_55 := Lib.hid (RdI.below y_46.out hb)
  clear y_46
  have rd_56 := Lib.hid (RdB.below rd_47.out hb)
  clear rd_47
  have srd_57 := Lib.hid (Blk.keep srd_48.out hb)
  clear srd_48
  have z_58 := Lib.hid (RdI.below z_49.out hb)
  clear z_49
  clear hb
  have z_59 : (w_52).cell? ⟨w.heap.size, 0, none⟩ = some (.int .i64 P) := Blk.cell srd_57.out 0
  have z_60 : (w_52).cell? ⟨w.heap.size, 1, none⟩ = some (.slice A n k) := Blk.cell srd_57.out 1
  go_wp2_with fail
  go_quiet (fail)
  clear z_59 z_60
  have bel_61 := Lib.hid (bdrewN bel_53.out nq)
  clear bel_53
  have x_62 := Lib.hid (rdI_drewN x_54.out nq)
  clear x_54
  have y_63 := Lib.hid (rdI_drewN y_55.out nq)
  clear y_55
  have rd_64 := Lib.hid (rdB_drewN rd_56.out nq)
  clear rd_56
  have srd_65 := Lib.hid (blk_drewN srd_57.out nq)
  clear srd_57
  have z_66 := Lib.hid (rdI_drewN z_58.out nq)
  clear z_58
  have z_67 : ((World.drewN w_52 nq)).cell? ⟨w.heap.size, 0, none⟩ = some (.int .i64 P) := Blk.cell srd_65.out 0
  have z_68 : ((World.drewN w_52 nq)).cell? ⟨w.heap.size, 1, none⟩ = some (.slice A n k) := Blk.cell srd_65.out 1
  go_wp2_with fail
  refine (alive_ok _).mono ?_
  rintro e w_69 ⟨rfl, hb⟩
  clear z_67 z_68
  have bel_70 := Lib.hid (Below.trans bel_61.out (Below.mono hb (bel_61.out.size)))
  clear bel_61
  have x_71 := Lib.hid (RdI.below x_62.out hb)
  clear x_62
  have y_72 := Lib.hid (RdI.below y_63.out hb)
  clear y_63
  have rd_73 := Lib.hid (RdB.below rd_64.out hb)
  clear rd_64
  have srd_74 := Lib.hid (Blk.keep srd_65.out hb)
  clear srd_65
  have z_75 := Lib.hid (RdI.below z_66.out hb)
  clear z_66
  clear hb
  go_wp2
  go_ret
  exact ⟨rfl, bel_70.out⟩
end Go.Proofs.Ythlnialipjihdaa
