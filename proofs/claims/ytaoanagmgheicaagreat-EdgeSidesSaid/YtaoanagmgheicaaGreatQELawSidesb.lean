import Derived.Shelf.SlSortCmp.NoneTotal
import Derived.Test.YtaoanagmgheicaaGreatQELongest
import Derived.Test.YtaoanagmgheicaaGreatQEBareb
import Derived.Test.YtaoanagmgheicaaGreatQMem
import Derived.Great.BuildSlice
import Derived.Laws.AppendOwnNone
import Derived.Test.YtaoanagmgheicaaGreatQOnw
import Derived.Test.YtaoanagmgheicaaGreatRows
import Derived.Test.YtaoanagmgheicaaGreatQEAlive
import Derived.Test.YtaoanagmgheicaaGreatQEOpen
import Derived.Test.YtaoanagmgheicaaGreatQERefBb
set_option maxHeartbeats 4000000
set_option linter.unusedSimpArgs false
set_option linter.unusedVariables false
namespace Go.Proofs.YtaoanagmgheicaaGreat
open Go.ChangeShapes Go.WideShapes Go.ChangeAt Go.RowKit
set_option maxRecDepth 100000
section
variable {H : Type} {enc : TypeId × Value → H} {W : World} {base : Nat} {sp : Nat → Bool} {held : Bool}
theorem one_stc {m : Nat} {cs : List Value} {x : DataW H × List MemPlace} (h : DataW.trod enc Tryz.prog W base sp held m 26 cs = some x) (hl : cs.length = 2) : ∃ b : Stc, cs = b.cells := by
 obtain ⟨y0, y1, k, -, -, h0, h1⟩ := trod_struct2 Tryz.underlying26 h
 match cs, hl with
 | [c0, c1], _ =>
  have k1 : Tryz.prog.cellsOf 3 = 1 := by kernel_rfl
  simp only [k1, List.drop_zero, List.take_succ_cons, List.take_zero, List.drop_succ_cons] at h0 h1
  obtain ⟨a0, e0, -, -⟩ := DataW.trod_int Tryz.underlying3 h0
  obtain ⟨a1, e1, -, -⟩ := DataW.trod_int Tryz.underlying3 h1
  simp only [List.cons.injEq, and_true] at e0 e1
  subst e0 e1
  exact ⟨⟨a0, a1⟩, rfl⟩
theorem open_stcs_ {m : Nat} {v : Value} {x : DataW H × List MemPlace} (h : DataW.trod enc Tryz.prog W base sp held m 81 [v] = some x) : ∃ A n c l, v = .slice A n c ∧ RdS W A n c l ∧ n ≤ maxLen := by
 have hC : Tryz.prog.cellsOf 26 = 2 := by kernel_rfl
 rcases Go.Deep.open_slice Tryz.underlying81 h with ⟨hcs, -⟩ | ⟨a, len, cap, m', n, D, Pl, hcs, hb, hl, hm, hmm, hx, hi⟩
 · simp only [List.cons.injEq, and_true] at hcs
   exact ⟨none, 0, 0, [], hcs, ⟨rfl, Nat.le_refl _, fun _ => ⟨rfl, rfl⟩, .inl rfl⟩, Nat.zero_le _⟩
 · simp only [List.cons.injEq, and_true] at hcs
   have hle : len ≤ m' := by rw [hmm]; split <;> omega
   rw [hC] at hi
   obtain ⟨X, hX⟩ := Go.Deep.choose_lt (α := Stc) (n := len) (p := fun i b => ∀ j, j < 2 → W.cell? (a.add (i * 2 + j)) = b.cells[j]?) (fun i hil => by
    obtain ⟨cs', g1, g2⟩ := hi i (by omega)
    obtain ⟨-, g3, g4⟩ := World.cells?_some g1
    obtain ⟨b, rfl⟩ := one_stc g2 g3
    refine ⟨b, fun j hj => ?_⟩
    have := g4 j hj
    rw [Go.Deep.add_add] at this
    exact this)
   refine ⟨some a, len, cap, (List.range len).map X, hcs, ⟨by simp, hl, (fun h => by cases h), ?_⟩, by omega⟩
   by_cases h0 : len = 0
   · subst h0; exact .inl rfl
   · obtain ⟨ab, ao, asp⟩ := a
     have z := hX 0 (by omega) 0 (by omega)
     have hs : asp = none := by simpa [Addr.add] using World.cell?_spot (z.trans (show (X 0).cells[0]? = some (.int .i64 (X 0).f) from rfl))
     subst hs
     have hlt : ab < W.heap.size := by simpa [Addr.add] using cell_low (z.trans (show (X 0).cells[0]? = some (.int .i64 (X 0).f) from rfl))
     refine .inr ⟨ab, ao, rfl, hlt, fun j u hu => ?_⟩
     have hj : j < len * 2 := by
      have := (List.getElem?_eq_some_iff.1 hu).1
      rw [scells_length] at this
      simpa using this
     have e : j / 2 * 2 + j % 2 = j := by omega
     have hlk : ((List.range len).map X)[j / 2]? = some (X (j / 2)) := by
      rw [List.getElem?_map, List.getElem?_range (by omega)]
      rfl
     have h1 := scells_get ((List.range len).map X) (j / 2) (j % 2) _ hlk (Nat.mod_lt _ (by omega))
     rw [e] at h1
     have h2 := hX (j / 2) (by omega) (j % 2) (Nat.mod_lt _ (by omega))
     rw [e, add_flat] at h2
     rw [h2, ← h1, hu]
theorem open_stcs {v : Value} {d : DataW H} {p : List MemPlace} {r : Reach} {b0 : Nat} (hv : Value.okWide Tryz.prog W r b0 81 v) (h : DataW.Trod enc Tryz.prog W base sp held 81 v d p) :
 ∃ A n c l, v = .slice A n c ∧ RdS W A n c l ∧ n ≤ maxLen := by
 obtain ⟨a, len, cap, rfl⟩ := okWide_slice Tryz.underlying81 hv
 obtain ⟨fuel, hf⟩ := h
 exact open_stcs_ (v := .slice a len cap) (by simpa [Value.cells] using hf)
theorem open_stc {r : Reach} {b0 : Nat} {v : Value} {d : DataW H} {p : List MemPlace} (hv : Value.okWide Tryz.prog W r b0 26 v) (h : DataW.Trod enc Tryz.prog W base sp held 26 v d p) :
 ∃ f t, v = .agg #[.int .i64 f, .int .i64 t] := by
 obtain ⟨v0, v1, y0, y1, m, rfl, -, -, h0, h1⟩ := Go.Joins.open_agg2 Tryz.underlying26 (by kernel_rfl) (by kernel_rfl) hv h
 obtain ⟨a0, e0, -, -⟩ := DataW.trod_int Tryz.underlying3 h0
 obtain ⟨a1, e1, -, -⟩ := DataW.trod_int Tryz.underlying3 h1
 simp only [List.cons.injEq, and_true] at e0 e1
 subst e0 e1
 exact ⟨a0, a1, rfl⟩
end
end Go.Proofs.YtaoanagmgheicaaGreat
set_option linter.unusedSimpArgs false
set_option linter.unusedVariables false
namespace Go.Proofs.YtaoanagmgheicaaGreat
open Go.RowKit
def fewB (n m : Nat) : Bool := (decide (n ≤ 40) || (decide (395 < n) && decide (n ≤ 405))) && (decide (m ≤ 40) || (decide (395 < m) && decide (m ≤ 405)))
set_option maxRecDepth 100000 in
theorem few3_any (c : Int) (A B : Option Addr) (n k m j : Nat) (w : World) :
 Calls Tryz.prog 16 #[.agg #[.int .i64 c, .slice A n k, .slice B m j]] w fun e w' => e = .returned (.bool (fewB n m)) ∧ Below w.heap.size w w' := by
 by_cases h1n : (n : Int) ≤ 40
 · skip
   by_cases h1m : (m : Int) ≤ 40
   · skip
     go_enter Tryz.func16, Tryz.ntmps16
     go_wp2
     go_ret
     exact ⟨ret_bool (by simp [fewB]; omega), (by (repeat (first | exact Below.refl _ _ | refine Below.drew ?_ | refine Below.alloc ?_ (by simp) _)))⟩
   · by_cases h2m : (395 : Int) < m
     · by_cases h3m : (m : Int) ≤ 405
       · skip
         go_enter Tryz.func16, Tryz.ntmps16
         go_wp2
         go_ret
         exact ⟨ret_bool (by simp [fewB]; omega), (by (repeat (first | exact Below.refl _ _ | refine Below.drew ?_ | refine Below.alloc ?_ (by simp) _)))⟩
       · skip
         go_enter Tryz.func16, Tryz.ntmps16
         go_wp2
         go_ret
         exact ⟨ret_bool (by simp [fewB]; omega), (by (repeat (first | exact Below.refl _ _ | refine Below.drew ?_ | refine Below.alloc ?_ (by simp) _)))⟩
     · skip
       go_enter Tryz.func16, Tryz.ntmps16
       go_wp2
       go_ret
       exact ⟨ret_bool (by simp [fewB]; omega), (by (repeat (first | exact Below.refl _ _ | refine Below.drew ?_ | refine Below.alloc ?_ (by simp) _)))⟩
 · by_cases h2n : (395 : Int) < n
   · by_cases h3n : (n : Int) ≤ 405
     · skip
       by_cases h1m : (m : Int) ≤ 40
       · skip
         go_enter Tryz.func16, Tryz.ntmps16
         go_wp2
         go_ret
         exact ⟨ret_bool (by simp [fewB]; omega), (by (repeat (first | exact Below.refl _ _ | refine Below.drew ?_ | refine Below.alloc ?_ (by simp) _)))⟩
       · by_cases h2m : (395 : Int) < m
         · by_cases h3m : (m : Int) ≤ 405
           · skip
             go_enter Tryz.func16, Tryz.ntmps16
             go_wp2
             go_ret
             exact ⟨ret_bool (by simp [fewB]; omega), (by (repeat (first | exact Below.refl _ _ | refine Below.drew ?_ | refine Below.alloc ?_ (by simp) _)))⟩
           · skip
             go_enter Tryz.func16, Tryz.ntmps16
             go_wp2
             go_ret
             exact ⟨ret_bool (by simp [fewB]; omega), (by (repeat (first | exact Below.refl _ _ | refine Below.drew ?_ | refine Below.alloc ?_ (by simp) _)))⟩
         · skip
           go_enter Tryz.func16, Tryz.ntmps16
           go_wp2
           go_ret
           exact ⟨ret_bool (by simp [fewB]; omega), (by (repeat (first | exact Below.refl _ _ | refine Below.drew ?_ | refine Below.alloc ?_ (by simp) _)))⟩
     · skip
       go_enter Tryz.func16, Tryz.ntmps16
       go_wp2
       go_ret
       exact ⟨ret_bool (by simp [fewB]; omega), (by (repeat (first | exact Below.refl _ _ | refine Below.drew ?_ | refine Below.alloc ?_ (by simp) _)))⟩
   · skip
     go_enter Tryz.func16, Tryz.ntmps16
     go_wp2
     go_ret
     exact ⟨ret_bool (by simp [fewB]; omega), (by (repeat (first | exact Below.refl _ _ | refine Below.drew ?_ | refine Below.alloc ?_ (by simp) _)))⟩
end Go.Proofs.YtaoanagmgheicaaGreat
set_option linter.unusedSimpArgs false
set_option linter.unusedVariables false
namespace Go.Proofs.YtaoanagmgheicaaGreat
open Go.RowKit
end Go.Proofs.YtaoanagmgheicaaGreat
/- The reference's CheckSystem. -/
namespace Go.Proofs.YtaoanagmgheicaaGreat
open Go.RowKit
end Go.Proofs.YtaoanagmgheicaaGreat
/- The reference's asked. -/
namespace Go.Proofs.YtaoanagmgheicaaGreat
open Go.RowKit
end Go.Proofs.YtaoanagmgheicaaGreat
/- The reference's copied. -/
namespace Go.Proofs.YtaoanagmgheicaaGreat
open Go.RowKit
end Go.Proofs.YtaoanagmgheicaaGreat
/- The reference's SameSystem. -/
namespace Go.Proofs.YtaoanagmgheicaaGreat
open Go.RowKit
theorem bdrew4 {B : Nat} {a w : World} (h : Below B a w) (n : Nat) : Below B a (w.drewN n) := h.trans ⟨rfl, rfl, rfl, Nat.le_refl _, fun _ _ => rfl⟩
end Go.Proofs.YtaoanagmgheicaaGreat
/- wide, small, three: what the laws of layer 1 begin with. -/
namespace Go.Proofs.YtaoanagmgheicaaGreat
open Go.RowKit
end Go.Proofs.YtaoanagmgheicaaGreat
set_option linter.unusedSimpArgs false
set_option linter.unusedVariables false
namespace Go.Proofs.YtaoanagmgheicaaGreat
open Go.ChangeShapes Go.WideShapes Go.ChangeAt Go.RowKit
set_option maxRecDepth 100000 in
theorem es_few (c : Int) (A B : Option Addr) (n k m j : Nat) (ws ts : List Bnd) (s1 s2 t1 t2 : Int) (S : Option Addr) (sn sk : Nat) (l : List Stc) (w : World) (h1 : RdB w A n k ws) (h2 : RdB w B m j ts) (hn : n ≤ maxLen) (hm : m ≤ maxLen) (hs : RdS w S sn sk l) (hsm : sn ≤ maxLen) (EF : Hid (fewB n m = false)) : Calls Tryz.prog 10 #[.agg #[.int .i64 c, .slice A n k, .slice B m j], .agg #[.int .i64 s1, .int .i64 s2], .agg #[.int .i64 t1, .int .i64 t2], .slice S sn sk] w fun e w' => e = .returned (.bool true) ∧ Below w.heap.size w w' := by
 go_enter Tryz.func10, Tryz.ntmps10
 obtain ⟨ba_1, b1_2, b2_3, bel_4⟩ := ent3 w #[.int .i64 c, .slice A n k, .slice B m j] 24 #[.int .i64 s1, .int .i64 s2] 26 #[.int .i64 t1, .int .i64 t2] 26
 have ra_5 := rI h1 bel_4
 have rb_6 := rI h2 bel_4
 have rs_7 := Lib.hid (RdS.below (hs) bel_4.out)
 clear h1 h2 hs
 obtain ⟨z_8, z_9, z_10⟩ := at3 ba_1
 obtain ⟨z_11, z_12⟩ := at2 b1_2
 obtain ⟨z_13, z_14⟩ := at2 b2_3
 have hc := few3_any c A B n k m j ((((w.alloc (.cells #[.int .i64 c, .slice A n k, .slice B m j] 24)).alloc (.cells #[.int .i64 s1, .int .i64 s2] 26)).alloc (.cells #[.int .i64 t1, .int .i64 t2] 26)))
 rw [EF.out] at hc
 try dsimp only at hc
 have HC := Lib.hid hc; clear hc
 go_wp2_with fail
 refine HC.out.mono ?_
 rintro e w_15 ⟨rfl, hb⟩
 clear HC
 clear z_8 z_9 z_10 z_11 z_12 z_13 z_14
 have hb_16 := Lib.hid hb
 clear hb
 replace ba_1 := kH ba_1 hb_16
 obtain ⟨z_17, z_18, z_19⟩ := at3 ba_1
 replace b1_2 := kH b1_2 hb_16
 obtain ⟨z_20, z_21⟩ := at2 b1_2
 replace b2_3 := kH b2_3 hb_16
 obtain ⟨z_22, z_23⟩ := at2 b2_3
 have hc := joined_any (w_15)
 have HC := Lib.hid hc; clear hc
 go_wp2_with fail
 refine HC.out.mono ?_
 rintro e w_24 ⟨rfl, hb⟩
 clear HC
 clear z_17 z_18 z_19 z_20 z_21 z_22 z_23
 have hb_25 := Lib.hid hb
 clear hb
 replace ba_1 := kH ba_1 hb_25
 obtain ⟨z_26, z_27, z_28⟩ := at3 ba_1
 replace b1_2 := kH b1_2 hb_25
 obtain ⟨z_29, z_30⟩ := at2 b1_2
 replace b2_3 := kH b2_3 hb_25
 obtain ⟨z_31, z_32⟩ := at2 b2_3
 go_wp2
 go_ret
 replace bel_4 := bH (bH bel_4 hb_16) hb_25
 exact ⟨rfl, bel_4.out⟩
set_option maxRecDepth 100000 in
theorem es_long (c : Int) (A B : Option Addr) (n k m j : Nat) (ws ts : List Bnd) (s1 s2 t1 t2 : Int) (S : Option Addr) (sn sk : Nat) (l : List Stc) (w : World) (h1 : RdB w A n k ws) (h2 : RdB w B m j ts) (hn : n ≤ maxLen) (hm : m ≤ maxLen) (hs : RdS w S sn sk l) (hsm : sn ≤ maxLen) (EF : Hid (fewB n m = true)) (hl : (110 : Int) < sn) : Calls Tryz.prog 10 #[.agg #[.int .i64 c, .slice A n k, .slice B m j], .agg #[.int .i64 s1, .int .i64 s2], .agg #[.int .i64 t1, .int .i64 t2], .slice S sn sk] w fun e w' => e = .returned (.bool true) ∧ Below w.heap.size w w' := by
 go_enter Tryz.func10, Tryz.ntmps10
 obtain ⟨ba_1, b1_2, b2_3, bel_4⟩ := ent3 w #[.int .i64 c, .slice A n k, .slice B m j] 24 #[.int .i64 s1, .int .i64 s2] 26 #[.int .i64 t1, .int .i64 t2] 26
 have ra_5 := rI h1 bel_4
 have rb_6 := rI h2 bel_4
 have rs_7 := Lib.hid (RdS.below (hs) bel_4.out)
 clear h1 h2 hs
 obtain ⟨z_8, z_9, z_10⟩ := at3 ba_1
 obtain ⟨z_11, z_12⟩ := at2 b1_2
 obtain ⟨z_13, z_14⟩ := at2 b2_3
 have hc := few3_any c A B n k m j ((((w.alloc (.cells #[.int .i64 c, .slice A n k, .slice B m j] 24)).alloc (.cells #[.int .i64 s1, .int .i64 s2] 26)).alloc (.cells #[.int .i64 t1, .int .i64 t2] 26)))
 rw [EF.out] at hc
 try dsimp only at hc
 have HC := Lib.hid hc; clear hc
 go_wp2_with fail
 refine HC.out.mono ?_
 rintro e w_15 ⟨rfl, hb⟩
 clear HC
 clear z_8 z_9 z_10 z_11 z_12 z_13 z_14
 have hb_16 := Lib.hid hb
 clear hb
 replace ba_1 := kH ba_1 hb_16
 obtain ⟨z_17, z_18, z_19⟩ := at3 ba_1
 replace b1_2 := kH b1_2 hb_16
 obtain ⟨z_20, z_21⟩ := at2 b1_2
 replace b2_3 := kH b2_3 hb_16
 obtain ⟨z_22, z_23⟩ := at2 b2_3
 have hc := joined_any (w_15)
 have HC := Lib.hid hc; clear hc
 go_wp2_with fail
 refine HC.out.mono ?_
 rintro e w_24 ⟨rfl, hb⟩
 clear HC
 clear z_17 z_18 z_19 z_20 z_21 z_22 z_23
 have hb_25 := Lib.hid hb
 clear hb
 replace ba_1 := kH ba_1 hb_25
 obtain ⟨z_26, z_27, z_28⟩ := at3 ba_1
 replace b1_2 := kH b1_2 hb_25
 obtain ⟨z_29, z_30⟩ := at2 b1_2
 replace b2_3 := kH b2_3 hb_25
 obtain ⟨z_31, z_32⟩ := at2 b2_3
 go_wp2
 go_ret
 replace bel_4 := bH (bH bel_4 hb_16) hb_25
 exact ⟨rfl, bel_4.out⟩
set_option maxRecDepth 100000 in
theorem es_main (c : Int) (A B : Option Addr) (n k m j : Nat) (ws ts : List Bnd) (s1 s2 t1 t2 : Int) (S : Option Addr) (sn sk : Nat) (l : List Stc) (w : World) (h1 : RdB w A n k ws) (h2 : RdB w B m j ts) (hn : n ≤ maxLen) (hm : m ≤ maxLen) (hs : RdS w S sn sk l) (hsm : sn ≤ maxLen) (EF : Hid (fewB n m = true)) (hl : ¬ (110 : Int) < sn) (q : Int) (hqq : (q != q) = false) (E1 : Hid (barE ⟨c, ws, ts⟩ l = q)) (Z1 : List Int) (L1 : Hid (barL ⟨c, ws, ts⟩ l = Z1)) (ov : Bool) (hoo : (ov != ov) = false) (EO : Hid (overB ⟨s1, s2⟩ ⟨t1, t2⟩ = ov)) (EO2 : Hid (overB ⟨t1, t2⟩ ⟨s1, s2⟩ = ov)) (q3 : Int) (E3 : Hid (barE ⟨c, ws, ts⟩ [⟨s1, s2⟩] = q3)) (Z3 : List Int) (L3 : Hid (barL ⟨c, ws, ts⟩ [⟨s1, s2⟩] = Z3)) (HOK : Hid (q3 = 0 → ¬ t1 < 0 → ¬ t2 ≤ t1 → ¬ c < t2 → c ≤ 16 ∧ ov = decide (((Z3.filter (inS ⟨t1, t2⟩)).length : Int) < t2 - t1))) : Calls Tryz.prog 10 #[.agg #[.int .i64 c, .slice A n k, .slice B m j], .agg #[.int .i64 s1, .int .i64 s2], .agg #[.int .i64 t1, .int .i64 t2], .slice S sn sk] w fun e w' => e = .returned (.bool true) ∧ Below w.heap.size w w' := by
 go_enter Tryz.func10, Tryz.ntmps10
 obtain ⟨ba_1, b1_2, b2_3, bel_4⟩ := ent3 w #[.int .i64 c, .slice A n k, .slice B m j] 24 #[.int .i64 s1, .int .i64 s2] 26 #[.int .i64 t1, .int .i64 t2] 26
 have ra_5 := rI h1 bel_4
 have rb_6 := rI h2 bel_4
 have rs_7 := Lib.hid (RdS.below (hs) bel_4.out)
 clear h1 h2 hs
 obtain ⟨z_8, z_9, z_10⟩ := at3 ba_1
 obtain ⟨z_11, z_12⟩ := at2 b1_2
 obtain ⟨z_13, z_14⟩ := at2 b2_3
 have hc := few3_any c A B n k m j ((((w.alloc (.cells #[.int .i64 c, .slice A n k, .slice B m j] 24)).alloc (.cells #[.int .i64 s1, .int .i64 s2] 26)).alloc (.cells #[.int .i64 t1, .int .i64 t2] 26)))
 rw [EF.out] at hc
 try dsimp only at hc
 have HC := Lib.hid hc; clear hc
 go_wp2_with fail
 refine HC.out.mono ?_
 rintro e w_15 ⟨rfl, hb⟩
 clear HC
 clear z_8 z_9 z_10 z_11 z_12 z_13 z_14
 have hb_16 := Lib.hid hb
 clear hb
 replace ba_1 := kH ba_1 hb_16
 obtain ⟨z_17, z_18, z_19⟩ := at3 ba_1
 replace b1_2 := kH b1_2 hb_16
 obtain ⟨z_20, z_21⟩ := at2 b1_2
 replace b2_3 := kH b2_3 hb_16
 obtain ⟨z_22, z_23⟩ := at2 b2_3
 replace ra_5 := rH ra_5 hb_16
 replace rb_6 := rH rb_6 hb_16
 replace rs_7 := Lib.hid (RdS.below (rs_7.out) hb_16.out)
 have hc := Bare_any c A B n k m j ws ts _ ra_5.out rb_6.out hn hm S sn sk l rs_7.out hsm
 rw [E1.out] at hc
 rw [L1.out] at hc
 try dsimp only at hc
 have HC := Lib.hid hc; clear hc
 go_wp2_with fail
 refine HC.out.mono ?_
 rintro e w_24 ⟨R1, rn1, rk1, rfl, ho1, hb⟩
 clear HC
 clear z_17 z_18 z_19 z_20 z_21 z_22 z_23
 have hb_25 := Lib.hid hb
 clear hb
 have hrd1 := OwnI.rd ho1; clear ho1
 have hmx1 := Nat.le_trans hrd1.1.cap hrd1.2
 have hrd1 := hrd1.1
 have z1_26 := Lib.hid (hrd1)
 clear hrd1
 replace ba_1 := kH ba_1 hb_25
 obtain ⟨z_27, z_28, z_29⟩ := at3 ba_1
 replace b1_2 := kH b1_2 hb_25
 obtain ⟨z_30, z_31⟩ := at2 b1_2
 replace b2_3 := kH b2_3 hb_25
 obtain ⟨z_32, z_33⟩ := at2 b2_3
 replace ra_5 := rH ra_5 hb_25
 replace rb_6 := rH rb_6 hb_25
 replace rs_7 := Lib.hid (RdS.below (rs_7.out) hb_25.out)
 have hc := rBare_any c A B n k m j ws ts _ ra_5.out rb_6.out hn hm S sn sk l rs_7.out hsm
 rw [E1.out] at hc
 rw [L1.out] at hc
 try dsimp only at hc
 have HC := Lib.hid hc; clear hc
 go_wp2_with fail
 refine HC.out.mono ?_
 rintro e w_34 ⟨R2, rn2, rk2, rfl, ho2, hb⟩
 clear HC
 clear z_27 z_28 z_29 z_30 z_31 z_32 z_33
 have hb_35 := Lib.hid hb
 clear hb
 have hrd2 := OwnI.rd ho2; clear ho2
 have hmx2 := Nat.le_trans hrd2.1.cap hrd2.2
 have hrd2 := hrd2.1
 have z2_36 := Lib.hid (hrd2)
 clear hrd2
 replace ba_1 := kH ba_1 hb_35
 obtain ⟨z_37, z_38, z_39⟩ := at3 ba_1
 replace b1_2 := kH b1_2 hb_35
 obtain ⟨z_40, z_41⟩ := at2 b1_2
 replace b2_3 := kH b2_3 hb_35
 obtain ⟨z_42, z_43⟩ := at2 b2_3
 have hc := Overlap_any s1 s2 t1 t2 (w_34)
 rw [EO.out] at hc
 try dsimp only at hc
 have HC := Lib.hid hc; clear hc
 go_wp2_with fail
 refine HC.out.mono ?_
 rintro e w_44 ⟨rfl, hb⟩
 clear HC
 clear z_37 z_38 z_39 z_40 z_41 z_42 z_43
 have hb_45 := Lib.hid hb
 clear hb
 replace ba_1 := kH ba_1 hb_45
 obtain ⟨z_46, z_47, z_48⟩ := at3 ba_1
 replace b1_2 := kH b1_2 hb_45
 obtain ⟨z_49, z_50⟩ := at2 b1_2
 replace b2_3 := kH b2_3 hb_45
 obtain ⟨z_51, z_52⟩ := at2 b2_3
 replace z1_26 := iH (iH z1_26 hb_35) hb_45
 replace z2_36 := iH z2_36 hb_45
 have hc := Same_any R1 R2 rn1 rk1 rn2 rk2 Z1 Z1 _ z1_26.out z2_36.out hmx1
 rw [decide_eq_true rfl] at hc
 try dsimp only at hc
 have HC := Lib.hid hc; clear hc
 go_wp2_with fail
 refine HC.out.mono ?_
 rintro e w_53 ⟨rfl, hb⟩
 clear HC
 clear z_46 z_47 z_48 z_49 z_50 z_51 z_52
 have hb_54 := Lib.hid hb
 clear hb
 replace ba_1 := kH ba_1 hb_54
 obtain ⟨z_55, z_56, z_57⟩ := at3 ba_1
 replace b1_2 := kH b1_2 hb_54
 obtain ⟨z_58, z_59⟩ := at2 b1_2
 replace b2_3 := kH b2_3 hb_54
 obtain ⟨z_60, z_61⟩ := at2 b2_3
 have hc := rOverlap_any s1 s2 t1 t2 (w_53)
 rw [EO.out] at hc
 try dsimp only at hc
 have HC := Lib.hid hc; clear hc
 go_wp2_with fail
 refine HC.out.mono ?_
 rintro e w_62 ⟨rfl, hb⟩
 clear HC
 clear z_55 z_56 z_57 z_58 z_59 z_60 z_61
 have hb_63 := Lib.hid hb
 clear hb
 replace ba_1 := kH ba_1 hb_63
 obtain ⟨z_64, z_65, z_66⟩ := at3 ba_1
 replace b1_2 := kH b1_2 hb_63
 obtain ⟨z_67, z_68⟩ := at2 b1_2
 replace b2_3 := kH b2_3 hb_63
 obtain ⟨z_69, z_70⟩ := at2 b2_3
 have hc := Overlap_any t1 t2 s1 s2 (w_62)
 rw [EO2.out] at hc
 try dsimp only at hc
 have HC := Lib.hid hc; clear hc
 go_wp2_with fail
 refine HC.out.mono ?_
 rintro e w_71 ⟨rfl, hb⟩
 clear HC
 clear z_64 z_65 z_66 z_67 z_68 z_69 z_70
 have hb_72 := Lib.hid hb
 clear hb
 replace ba_1 := kH ba_1 hb_72
 obtain ⟨z_73, z_74, z_75⟩ := at3 ba_1
 replace b1_2 := kH b1_2 hb_72
 obtain ⟨z_76, z_77⟩ := at2 b1_2
 replace b2_3 := kH b2_3 hb_72
 obtain ⟨z_78, z_79⟩ := at2 b2_3
 obtain ⟨o_, ho_⟩ : ∃ o, o = ((.cells #[.int .i64 s1, .int .i64 s2] 26) : Obj) := ⟨_, rfl⟩
 replace bel_4 := bA (bH (bH (bH (bH (bH (bH (bH bel_4 hb_16) hb_25) hb_35) hb_45) hb_54) hb_63) hb_72) o_
 replace ra_5 := rA (rH (rH (rH (rH (rH ra_5 hb_35) hb_45) hb_54) hb_63) hb_72) o_
 replace rb_6 := rA (rH (rH (rH (rH (rH rb_6 hb_35) hb_45) hb_54) hb_63) hb_72) o_
 replace rs_7 := Lib.hid (RdS.alloc ((Lib.hid (RdS.below (RdS.below (RdS.below (RdS.below (RdS.below (rs_7.out) hb_35.out) hb_45.out) hb_54.out) hb_63.out) hb_72.out)).out) (o_))
 replace ba_1 := kA ba_1 o_
 replace b1_2 := kA b1_2 o_
 replace b2_3 := kA b2_3 o_
 replace z1_26 := iA (iH (iH (iH z1_26 hb_54) hb_63) hb_72) o_
 replace z2_36 := iA (iH (iH (iH z2_36 hb_54) hb_63) hb_72) o_
 subst ho_
 have bl_80 := Lib.hid (Blk.new w_71 26 #[.int .i64 s1, .int .i64 s2])
 obtain ⟨z_81, z_82, z_83⟩ := at3 ba_1
 obtain ⟨z_84, z_85⟩ := at2 b1_2
 obtain ⟨z_86, z_87⟩ := at2 b2_3
 obtain ⟨z_88, z_89⟩ := at2 bl_80
 have hc := Bare_any c A B n k m j ws ts _ ra_5.out rb_6.out hn hm (some ⟨w_71.heap.size, 0, none⟩) 1 1 [⟨s1, s2⟩] (rdS_one bl_80.out) (by unfold maxLen; omega)
 rw [E3.out] at hc
 rw [L3.out] at hc
 try dsimp only at hc
 have HC := Lib.hid hc; clear hc
 go_wp2_with fail
 refine HC.out.mono ?_
 rintro e w_90 ⟨R3, rn3, rk3, rfl, ho3, hb⟩
 clear HC
 clear z_73 z_74 z_75 z_76 z_77 z_78 z_79 z_81 z_82 z_83 z_84 z_85 z_86 z_87 z_88 z_89
 have hb_91 := Lib.hid hb
 clear hb
 have hrd3 := OwnI.rd ho3; clear ho3
 have hmx3 := Nat.le_trans hrd3.1.cap hrd3.2
 have hrd3 := hrd3.1
 have z3_92 := Lib.hid (hrd3)
 clear hrd3
 replace ba_1 := kH ba_1 hb_91
 obtain ⟨z_93, z_94, z_95⟩ := at3 ba_1
 replace b1_2 := kH b1_2 hb_91
 obtain ⟨z_96, z_97⟩ := at2 b1_2
 replace b2_3 := kH b2_3 hb_91
 obtain ⟨z_98, z_99⟩ := at2 b2_3
 replace bl_80 := kH bl_80 hb_91
 obtain ⟨z_100, z_101⟩ := at2 bl_80
 replace bel_4 := bH bel_4 hb_91
 replace ra_5 := rH ra_5 hb_91
 replace rb_6 := rH rb_6 hb_91
 replace rs_7 := Lib.hid (RdS.below (rs_7.out) hb_91.out)
 replace z1_26 := iH z1_26 hb_91
 replace z2_36 := iH z2_36 hb_91
 by_cases h0 : q3 = 0
 · subst h0
   by_cases g1 : t1 < 0
   · skip
     have hc := joined_any (w_90)
     have HC := Lib.hid hc; clear hc
     go_wp2_with fail
     refine HC.out.mono ?_
     rintro e w_1102 ⟨rfl, hb⟩
     clear HC
     clear z_93 z_94 z_95 z_96 z_97 z_98 z_99 z_100 z_101
     have hb_1103 := Lib.hid hb
     clear hb
     replace ba_1 := kH ba_1 hb_1103
     obtain ⟨z_1104, z_1105, z_1106⟩ := at3 ba_1
     replace b1_2 := kH b1_2 hb_1103
     obtain ⟨z_1107, z_1108⟩ := at2 b1_2
     replace b2_3 := kH b2_3 hb_1103
     obtain ⟨z_1109, z_1110⟩ := at2 b2_3
     replace bl_80 := kH bl_80 hb_1103
     obtain ⟨z_1111, z_1112⟩ := at2 bl_80
     go_wp2
     go_ret
     replace bel_4 := bH bel_4 hb_1103
     exact ⟨rfl, bel_4.out⟩
   · by_cases g2 : t2 ≤ t1
     · skip
       have hc := joined_any (w_90)
       have HC := Lib.hid hc; clear hc
       go_wp2_with fail
       refine HC.out.mono ?_
       rintro e w_1102 ⟨rfl, hb⟩
       clear HC
       clear z_93 z_94 z_95 z_96 z_97 z_98 z_99 z_100 z_101
       have hb_1103 := Lib.hid hb
       clear hb
       replace ba_1 := kH ba_1 hb_1103
       obtain ⟨z_1104, z_1105, z_1106⟩ := at3 ba_1
       replace b1_2 := kH b1_2 hb_1103
       obtain ⟨z_1107, z_1108⟩ := at2 b1_2
       replace b2_3 := kH b2_3 hb_1103
       obtain ⟨z_1109, z_1110⟩ := at2 b2_3
       replace bl_80 := kH bl_80 hb_1103
       obtain ⟨z_1111, z_1112⟩ := at2 bl_80
       go_wp2
       go_ret
       replace bel_4 := bH bel_4 hb_1103
       exact ⟨rfl, bel_4.out⟩
     · by_cases g3 : c < t2
       · skip
         have hc := joined_any (w_90)
         have HC := Lib.hid hc; clear hc
         go_wp2_with fail
         refine HC.out.mono ?_
         rintro e w_1102 ⟨rfl, hb⟩
         clear HC
         clear z_93 z_94 z_95 z_96 z_97 z_98 z_99 z_100 z_101
         have hb_1103 := Lib.hid hb
         clear hb
         replace ba_1 := kH ba_1 hb_1103
         obtain ⟨z_1104, z_1105, z_1106⟩ := at3 ba_1
         replace b1_2 := kH b1_2 hb_1103
         obtain ⟨z_1107, z_1108⟩ := at2 b1_2
         replace b2_3 := kH b2_3 hb_1103
         obtain ⟨z_1109, z_1110⟩ := at2 b2_3
         replace bl_80 := kH bl_80 hb_1103
         obtain ⟨z_1111, z_1112⟩ := at2 bl_80
         go_wp2
         go_ret
         replace bel_4 := bH bel_4 hb_1103
         exact ⟨rfl, bel_4.out⟩
       · obtain ⟨g4, hfi⟩ := HOK.out rfl (by omega) (by omega) (by omega)
         have HFI := Lib.hid hfi; clear hfi HOK
         go_wp2
         clear z_93 z_94 z_95 z_96 z_97 z_98 z_99 z_100 z_101
         have hm3 := hmx3; unfold maxLen at hm3
         clear ra_5 rb_6 rs_7 ba_1 b1_2 z1_26 z2_36 bl_80
         go_loopw [16, 17] (fun fr i wr => ∃ q : Nat, q ≤ rn3 ∧ i = .int .i64 q ∧ fr = .int .i64 (((Z3.take q).filter (inS ⟨t1, t2⟩)).length : Nat) ∧ Below w_90.heap.size w_90 wr) (fun _ i _ => rn3 - (intOf i).toNat)
         case atStart => exact ⟨0, Nat.zero_le _, rfl, rfl, Below.refl _ _⟩
         case round =>
          obtain ⟨q, hq, rfl, rfl, hb⟩ := hrel
          have hz := RdI.below z3_92.out hb
          have hk := Blk.keep b2_3.out hb
          have hbe := (bel_4.out).trans (hb.mono (bel_4.out).size)
          have c0 := hk.cell 0; have c1 := hk.cell 1; have hkl := hk.lt
          simp only [List.getElem?_toArray, List.getElem?_cons_zero, List.getElem?_cons_succ] at c0 c1
          clear hk
          have HBE := Lib.hid hbe; clear hbe
          have hln := hz.len
          by_cases hlt : q < rn3
          · have hlt' : (q : Int) < rn3 := by omega
            obtain ⟨b, o, v, rfl, hbw, hx, e0⟩ := RdI.get hz hlt
            have htk : (Z3.take (q + 1)).filter (inS ⟨t1, t2⟩) = (Z3.take q).filter (inS ⟨t1, t2⟩) ++ (if inS ⟨t1, t2⟩ v then [v] else []) := by rw [List.take_add_one, hx, List.filter_append]; simp [List.filter_cons]
            have hfl : ((Z3.take q).filter (inS ⟨t1, t2⟩)).length ≤ q := Nat.le_trans (List.length_filter_le _ _) (by simp; omega)
            have HTK := Lib.hid htk; have HLN := Lib.hid hln; have HB := Lib.hid hb; clear htk hx hz hln hb
            obtain ⟨fr, hfr⟩ : ∃ fr, ((Z3.take q).filter (inS ⟨t1, t2⟩)).length = fr := ⟨_, rfl⟩
            rw [hfr] at hfl ⊢
            have HFR := Lib.hid hfr; clear hfr
            by_cases k1 : t1 ≤ v
            · by_cases k2 : v < t2
              · skip
                go_wp2_with fail
                go_quiet (fail)
                go_wp2
                go_roundw
                case rel => exact ⟨q + 1, by omega, by go_num, by rw [HTK.out, show inS ⟨t1, t2⟩ v = true by simp [inS, k1, k2] <;> omega]; simp [HFR.out], bdrew4 HB.out _⟩
                case measure => simp [intOf]; omega
              · skip
                go_wp2_with fail
                go_quiet (fail)
                go_wp2
                go_roundw
                case rel => exact ⟨q + 1, by omega, by go_num, by rw [HTK.out, show inS ⟨t1, t2⟩ v = false by simp [inS, k1, k2] <;> omega]; simp [HFR.out], bdrew4 HB.out _⟩
                case measure => simp [intOf]; omega
            · have k3 : v < t1 := by omega
              have k4 : decide (t1 ≤ v) = false := decide_eq_false k1
              go_wp2_with fail
              go_quiet (fail)
              go_wp2
              go_roundw
              case rel => exact ⟨q + 1, by omega, by go_num, by rw [HTK.out, show inS ⟨t1, t2⟩ v = false by simp [inS, k1] <;> omega]; simp [HFR.out], bdrew4 HB.out _⟩
              case measure => simp [intOf]; omega
          · obtain rfl : q = rn3 := by omega
            rw [List.take_of_length_le (by omega)]
            clear hz hb hln
            obtain ⟨fr, hfr⟩ : ∃ fr, (Z3.filter (inS ⟨t1, t2⟩)).length = fr := ⟨_, rfl⟩
            have HFI2 := HFI.out
            rw [hfr] at HFI2 ⊢
            clear hfr HFI
            go_wp2_with fail
            refine (joined_any _).mono ?_
            rintro e w9 ⟨rfl, hb⟩
            have BE := Lib.hid (HBE.out.trans (hb.mono HBE.out.size))
            have d0 := (hb.cell (p := ⟨_, 0, none⟩) hkl).trans c0; have d1 := (hb.cell (p := ⟨_, 1, none⟩) hkl).trans c1
            clear hb c0 c1
            by_cases hfr : (fr : Int) < t2 - t1
            · obtain rfl : ov = true := by rw [HFI2]; simp [hfr]
              clear HFI2
              have hd : decide ((fr : Int) < t2 - t1) = true := decide_eq_true hfr
              have hw : IntKind.i64.wrap (t2 - t1) = t2 - t1 := IntWalk.i64_in _ (by omega)
              go_wp2
              go_ret
              first | exact ⟨rfl, BE.out⟩ | exact ⟨ret_bool (by simp; omega), BE.out⟩ | exact ⟨ret_bool (by simp [hfr]), BE.out⟩ | exact ⟨ret_bool (by omega), BE.out⟩
            · obtain rfl : ov = false := by rw [HFI2]; simp [hfr]
              clear HFI2
              have hd : decide ((fr : Int) < t2 - t1) = false := decide_eq_false hfr
              have hw : IntKind.i64.wrap (t2 - t1) = t2 - t1 := IntWalk.i64_in _ (by omega)
              go_wp2
              go_ret
              first | exact ⟨rfl, BE.out⟩ | exact ⟨ret_bool (by simp; omega), BE.out⟩ | exact ⟨ret_bool (by simp [hfr]), BE.out⟩ | exact ⟨ret_bool (by omega), BE.out⟩
 · have hq3 : (q3 != 0) = true := by simpa using h0
   clear h0
   have hc := joined_any (w_90)
   have HC := Lib.hid hc; clear hc
   go_wp2_with fail
   refine HC.out.mono ?_
   rintro e w_1102 ⟨rfl, hb⟩
   clear HC
   clear z_93 z_94 z_95 z_96 z_97 z_98 z_99 z_100 z_101
   have hb_1103 := Lib.hid hb
   clear hb
   replace ba_1 := kH ba_1 hb_1103
   obtain ⟨z_1104, z_1105, z_1106⟩ := at3 ba_1
   replace b1_2 := kH b1_2 hb_1103
   obtain ⟨z_1107, z_1108⟩ := at2 b1_2
   replace b2_3 := kH b2_3 hb_1103
   obtain ⟨z_1109, z_1110⟩ := at2 b2_3
   replace bl_80 := kH bl_80 hb_1103
   obtain ⟨z_1111, z_1112⟩ := at2 bl_80
   go_wp2
   go_ret
   replace bel_4 := bH bel_4 hb_1103
   exact ⟨rfl, bel_4.out⟩
theorem barL_one {o : Otl} {s : Stc} (h : barE o [s] = 0) : chkO o = 0 ∧ isStr s.f s.t o.c = true ∧ barL o [s] = bareN [s] o.c.toNat := by
 have h0 := h
 unfold barE at h
 by_cases hc : chkO o = 0
 · rw [if_neg (by simpa using hc), if_neg (by simp)] at h
   refine ⟨hc, ?_, by unfold barL; rw [if_pos h0]⟩
   cases hs : isStr s.f s.t o.c
   · rw [if_neg (by simp [hs])] at h; cases h
   · rfl
 · rw [if_pos hc] at h; exact absurd h hc
set_option maxRecDepth 100000 in
theorem es_walk (w : World) (c : Int) (A : Option Addr) (n k : Nat) (B : Option Addr) (m j : Nat) (ws ts : List Bnd) (_ : (Lit.int .i64 c).wf = true) (h1 : RdB w A n k ws) (h2 : RdB w B m j ts) (hn : n ≤ maxLen) (hm : m ≤ maxLen) (s1 s2 t1 t2 : Int) (S : Option Addr) (sn sk : Nat) (l : List Stc) (hs : RdS w S sn sk l) (hsm : sn ≤ maxLen) : Calls Tryz.prog 10 #[.agg #[.int .i64 c, .slice A n k, .slice B m j], .agg #[.int .i64 s1, .int .i64 s2], .agg #[.int .i64 t1, .int .i64 t2], .slice S sn sk] w fun e w' => e = .returned (.bool true) ∧ Below w.heap.size w w' := by
 cases hf : fewB n m
 · exact es_few c A B n k m j ws ts s1 s2 t1 t2 S sn sk l w h1 h2 hn hm hs hsm (Lib.hid hf)
 · by_cases hl : (110 : Int) < sn
   · exact es_long c A B n k m j ws ts s1 s2 t1 t2 S sn sk l w h1 h2 hn hm hs hsm (Lib.hid hf) hl
   · obtain ⟨ov, hov⟩ : ∃ ov, overB ⟨s1, s2⟩ ⟨t1, t2⟩ = ov := ⟨_, rfl⟩
     have hov2 : overB ⟨t1, t2⟩ ⟨s1, s2⟩ = ov := by rw [over_comm]; exact hov
     refine es_main c A B n k m j ws ts s1 s2 t1 t2 S sn sk l w h1 h2 hn hm hs hsm (Lib.hid hf) hl _ (by simp) (Lib.hid rfl) _ (Lib.hid rfl) ov (by simp) (Lib.hid hov) (Lib.hid hov2) _ (Lib.hid rfl) _ (Lib.hid rfl) (Lib.hid fun h0 g1 g2 g3 => ?_)
     obtain ⟨b1, b2, b3⟩ := barL_one h0
     obtain ⟨c3, c16, -, -⟩ := chkO_ok b1
     have i1 := isStr_ok b2
     dsimp only at c3 c16 i1
     have hfi := free_iff (s := ⟨s1, s2⟩) (t := ⟨t1, t2⟩) (c := c.toNat) (by dsimp only; omega) (by dsimp only; omega)
     rw [hov] at hfi
     rw [b3]
     exact ⟨c16, hfi⟩
set_option maxRecDepth 100000 in
theorem edgeSides_lifted (os : Os) (started : os.Started) (H : Type) (enc : TypeId × Value → H) :
 ReturnsInHanded {} Tryz.checked os 10 .any (Rows.edgeSidesSpec.pre6 enc Tryz.prog Tryz.f10 Rows.edgeSidesRow.domain false) (Rows.edgeSidesSpec.post enc Tryz.prog Tryz.f10 false true false false) := by
 refine returnsInHanded_of_change (C := Tryz.checked) Law.own started (by kernel_rfl) Tryz.func10
  (ChangeSpec.witness6 (enc := enc) (C := Tryz.checked) false ⟨#[], #[.agg #[.int .i64 0, .slice none 0 0, .slice none 0 0], .agg #[.int .i64 0, .int .i64 0], .agg #[.int .i64 0, .int .i64 0], .slice none 0 0], []⟩ 8 (by kernel_rfl) (by kernel_rfl) (by kernel_rfl) (by kernel_rfl)) ?_
 intro W base args ds gs before hval0 hW hcnd _
 have hval : ∀ (j : Nat) t v, Tryz.f10.params[j]? = some t → args[j]? = some v → Value.okWide Tryz.prog W .any base t v := hval0
 have hW' := hW
 obtain ⟨p, q, hA0, hV, rfl, hfz, hnd⟩ := hW
 have hA : DataW.TrodAll enc Tryz.prog W 0 (fun _ => true) true Tryz.f10.params.toList args.toList ds p := hA0
 rw [Tryz.params10] at hA hval
 obtain ⟨v0, vs0, d0, ds0, p0, q0, hargs, rfl, rfl, h0, r0⟩ := trodAll_cons hA
 obtain ⟨v1, vs1, d1, ds1, p1, q1, rfl, rfl, rfl, h1, r1⟩ := trodAll_cons r0
 obtain ⟨v2, vs2, d2, ds2, p2, q2, rfl, rfl, rfl, h2, r2⟩ := trodAll_cons r1
 obtain ⟨v3, vs3, d3, ds3, p3, q3, rfl, rfl, rfl, h3, r3⟩ := trodAll_cons r2
 obtain ⟨rfl, rfl, rfl⟩ := trodAll_nil r3
 obtain rfl : args = #[v0, v1, v2, v3] := by cases args; simp_all
 obtain ⟨rfl, rfl⟩ := trodVars_none hV
 have k0 := h0
 have lt0 : ∀ x ∈ p0, x.block < W.heap.size := by obtain ⟨m, hm⟩ := k0; exact DataW.trod_lt m _ _ _ hm
 obtain ⟨c0, A0, n0, k0', B0, m0, j0, ws0, ts0, rfl, w0, ra0, rb0, xa0, xb0⟩ := open_outl (hval 0 24 v0 rfl rfl) h0
 have k1 := h1
 have lt1 : ∀ x ∈ p1, x.block < W.heap.size := by obtain ⟨m, hm⟩ := k1; exact DataW.trod_lt m _ _ _ hm
 obtain ⟨f1, t1, rfl⟩ := open_stc (hval 1 26 v1 rfl rfl) h1
 have k2 := h2
 have lt2 : ∀ x ∈ p2, x.block < W.heap.size := by obtain ⟨m, hm⟩ := k2; exact DataW.trod_lt m _ _ _ hm
 obtain ⟨f2, t2, rfl⟩ := open_stc (hval 2 26 v2 rfl rfl) h2
 have k3 := h3
 have lt3 : ∀ x ∈ p3, x.block < W.heap.size := by obtain ⟨m, hm⟩ := k3; exact DataW.trod_lt m _ _ _ hm
 obtain ⟨A3, n3, c3, l3, rfl, rd3, mx3⟩ := open_stcs (hval 3 81 v3 rfl rfl) h3
 clear hA0 hval0
 refine (es_walk W c0 A0 n0 k0' B0 m0 j0 ws0 ts0 w0 ra0 rb0 xa0 xb0 f1 t1 f2 t2 A3 n3 c3 l3 rd3 mx3).mono fun e W' ⟨he, bel⟩ => ?_
 subst he
 exact ⟨_, rfl, _, _, _, [], _, [], hW', trodAll_mk1 (shut_bool Tryz.underlying4 _), (trodAll_cons_mk (Below.trod Law.laidOut (by kernel_rfl) (of_decide_eq_true (by kernel_rfl)) k0 bel lt0) (trodAll_cons_mk (Below.trod Law.laidOut (by kernel_rfl) (of_decide_eq_true (by kernel_rfl)) k1 bel lt1) (trodAll_cons_mk (Below.trod Law.laidOut (by kernel_rfl) (of_decide_eq_true (by kernel_rfl)) k2 bel lt2) (trodAll_cons_mk (Below.trod Law.laidOut (by kernel_rfl) (of_decide_eq_true (by kernel_rfl)) k3 bel lt3) trodAll_mk0)))), rfl, bel.frame _, fun h => by cases h⟩
theorem edgeSides_over : Rows.edgeSidesRow.holds Tryz.pinned (OpenSpec.ofChange Rows.edgeSidesSpec) :=
 OpenClaim.holds_of_wide 10 Tryz.f10 rfl rfl rfl rfl rfl rfl rfl ⟨rfl, rfl, rfl, rfl, rfl⟩ rfl rfl rfl rfl rfl (by kernel_rfl) Tryz.func10 (by kernel_rfl)
  (of_decide_eq_true (by kernel_rfl)) (by unfold Func.isWrapper; first | (rw [if_pos (by decide +kernel)]; kernel_rfl) | (rw [if_neg (by decide +kernel)]; exact ⟨rfl, rfl⟩))
  (fun os started H enc _ => edgeSides_lifted os started H enc)
theorem edgeSides_proved : Rows.EdgeSidesSaid := edgeSides_over
end Go.Proofs.YtaoanagmgheicaaGreat
