import Derived.Shelf.SlSortCmp.NoneTotal
import Derived.Test.YtaoanagmgheicaaGreatQELongest
import Derived.Deep.DeepCutAuto
import Derived.Deep.OwnRows
import Derived.Laws.AppendOwnNone
import Derived.Lib.SmallJoins
import Derived.Maps.OwnIn
import Derived.Shelf.SlIterI.Nil
import Derived.Shelf.Slices.Reverse
import Derived.Shelf.SortM.Plain
import Derived.Shelf.SortM.SortNone
import Derived.Sort.OwnSortedInts
import Derived.Test.YtaoanagmgheicaaGreatQSet
import Derived.Test.YtaoanagmgheicaaGreatProg
import Derived.BigQuiet
import Derived.Deep.RegionHeld3
import Derived.Deep.WholeRow
import Derived.Lib.Hide
import Derived.OwnWalkIn
import Derived.WalkLawsBesides
import Derived.WalkSpells
import Derived.Test.YtaoanagmgheicaaGreatQMem
import Derived.Test.YtaoanagmgheicaaGreatRows
import Derived.Test.YtaoanagmgheicaaGreatQEAlive
import Derived.Test.YtaoanagmgheicaaGreatQEOpen
import Derived.Test.YtaoanagmgheicaaGreatWEFew
import Derived.Test.YtaoanagmgheicaaGreatWERefW
import Derived.Test.YtaoanagmgheicaaGreatWERefP
import Derived.Test.YtaoanagmgheicaaGreatWERefF
import Derived.Test.YtaoanagmgheicaaGreatWESameB
set_option maxHeartbeats 4000000
set_option linter.unusedSimpArgs false
set_option linter.unusedVariables false
namespace Go.Proofs.YtaoanagmgheicaaGreat
open Go.ChangeShapes Go.WideShapes Go.ChangeAt Go.RowKit
set_option maxRecDepth 100000
section
variable {H : Type} {enc : TypeId × Value → H} {W : World} {base : Nat} {sp : Nat → Bool} {held : Bool}
theorem open_nums_ {m : Nat} {v : Value} {x : DataW H × List MemPlace} (hf : DataW.trod enc Tryz.prog W base sp held m 31 [v] = some x) :
 ∃ A n c l, v = .slice A n c ∧ RdI W A n c l ∧ n ≤ maxLen ∧ ∀ x ∈ l, (Lit.int .i64 x).wf = true := by
 rcases open_ints Tryz.underlying31 Tryz.underlying3 (by kernel_rfl) hf with ⟨hcs, -⟩ | ⟨x, len, cap, zs, hcs, -, hl, hm, hz, -, hcell, hwz⟩
 · simp only [List.cons.injEq, and_true] at hcs
   subst hcs
   exact ⟨none, 0, 0, [], rfl, ⟨rfl, Nat.le_refl _, fun _ => ⟨rfl, rfl⟩, .inl rfl⟩, Nat.zero_le _, by simp⟩
 · simp only [List.cons.injEq, and_true] at hcs
   subst hcs
   have hle : len ≤ zs.length := by rw [hz]; split <;> omega
   refine ⟨some x, len, cap, zs.take len, rfl, ⟨by simp; omega, hl, (fun h => by cases h), ?_⟩, by omega, fun y hy => hwz y (List.mem_of_mem_take hy)⟩
   by_cases h0 : len = 0
   · subst h0; exact .inl rfl
   · obtain ⟨xb, xo, xs⟩ := x
     have z := hcell 0 (by omega)
     have hs : xs = none := by simpa [Addr.add] using World.cell?_spot z
     subst hs
     have hlt : xb < W.heap.size := by simpa [Addr.add] using cell_low z
     refine .inr ⟨xb, xo, rfl, hlt, fun j u hu => ?_⟩
     obtain ⟨y, hy, rfl⟩ := List.mem_map.1 (List.mem_of_getElem? hu)
     have hj : j < len := by
      have := (List.getElem?_eq_some_iff.1 hu).1
      simp at this; omega
     have h1 := hcell j (by omega)
     rw [add_flat] at h1
     rw [h1]
     rw [List.getElem?_map, List.getElem?_take, if_pos hj, List.getElem?_eq_getElem (by omega)] at hu
     simp only [Option.map_some, Option.some.injEq, Value.int.injEq, true_and] at hu
     rw [List.getD_eq_getElem?_getD, List.getElem?_eq_getElem (by omega)]
     simp [hu]
theorem open_flaw {r : Reach} {b0 : Nat} {v : Value} {d : DataW H} {p : List MemPlace} (hv : Value.okWide Tryz.prog W r b0 33 v) (h : DataW.Trod enc Tryz.prog W base sp held 33 v d p) :
 ∃ t A n c l, v = .agg #[.bool t, .slice A n c] ∧ RdI W A n c l ∧ n ≤ maxLen := by
 obtain ⟨v0, v1, y0, y1, m, rfl, -, -, h0, h1⟩ := Go.Joins.open_agg2 Tryz.underlying33 (by kernel_rfl) (by kernel_rfl) hv h
 obtain ⟨t, e0, -⟩ := DataW.trod_bool Tryz.underlying4 h0
 simp only [List.cons.injEq, and_true] at e0
 obtain ⟨A, n, c, l, rfl, hr, hm, -⟩ := open_nums_ h1
 exact ⟨t, A, n, c, l, by rw [e0], hr, hm⟩
end
end Go.Proofs.YtaoanagmgheicaaGreat
set_option linter.unusedSimpArgs false
set_option linter.unusedVariables false
namespace Go.Proofs.YtaoanagmgheicaaGreat
open Go.ChangeShapes Go.WideShapes Go.ChangeAt Go.RowKit
set_option maxRecDepth 100000
section
variable {H : Type} {enc : TypeId × Value → H} {W : World} {base : Nat} {sp : Nat → Bool} {held : Bool}
theorem open_pair {r : Reach} {b0 : Nat} {v : Value} {d : DataW H} {p : List MemPlace} (hv : Value.okWide Tryz.prog W r b0 28 v) (h : DataW.Trod enc Tryz.prog W base sp held 28 v d p) :
 ∃ f t m i, v = .agg #[.int .i64 f, .int .i64 t, .int .i64 m, .int .i64 i] := by
 obtain ⟨cs, rfl, hsz⟩ := okWide_struct Tryz.underlying28 hv
 obtain ⟨c0, c1, c2, c3, rfl⟩ := Go.Joins.array4 (hsz.trans (by kernel_rfl))
 obtain ⟨fuel, hf⟩ := h
 obtain ⟨y0, y1, fu, -, -, h0, h1⟩ := trod_struct2 Tryz.underlying28 hf
 have k2 : Tryz.prog.cellsOf 26 = 2 := by kernel_rfl
 have k1 : Tryz.prog.cellsOf 3 = 1 := by kernel_rfl
 simp only [Value.cells, k2, List.drop_zero, List.take_succ_cons, List.take_zero, List.drop_succ_cons] at h0 h1
 obtain ⟨z0, z1, f1, -, -, g0, g1⟩ := trod_struct2 Tryz.underlying26 h0
 obtain ⟨z2, z3, f2, -, -, g2, g3⟩ := trod_struct2 Tryz.underlying26 h1
 simp only [k1, List.drop_zero, List.take_succ_cons, List.take_zero, List.drop_succ_cons] at g0 g1 g2 g3
 obtain ⟨a0, e0, -, -⟩ := DataW.trod_int Tryz.underlying3 g0
 obtain ⟨a1, e1, -, -⟩ := DataW.trod_int Tryz.underlying3 g1
 obtain ⟨a2, e2, -, -⟩ := DataW.trod_int Tryz.underlying3 g2
 obtain ⟨a3, e3, -, -⟩ := DataW.trod_int Tryz.underlying3 g3
 simp only [List.cons.injEq, and_true] at e0 e1 e2 e3
 subst e0 e1 e2 e3
 exact ⟨a0, a1, a2, a3, rfl⟩
end
end Go.Proofs.YtaoanagmgheicaaGreat
set_option linter.unusedSimpArgs false
set_option linter.unusedVariables false
namespace Go.Proofs.YtaoanagmgheicaaGreat
open Go.ChangeShapes Go.WideShapes Go.ChangeAt Go.RowKit
set_option maxRecDepth 100000
section
variable {H : Type} {enc : TypeId × Value → H} {W : World} {base : Nat} {sp : Nat → Bool} {held : Bool}
theorem open_bound {r : Reach} {b0 : Nat} {v : Value} {d : DataW H} {p : List MemPlace} (hv : Value.okWide Tryz.prog W r b0 30 v) (h : DataW.Trod enc Tryz.prog W base sp held 30 v d p) :
 ∃ f t m i, v = .agg #[.int .i64 f, .int .i64 t, .int .i64 m, .int .i64 i] := by
 obtain ⟨v0, v1, v2, v3, y0, y1, y2, y3, m, rfl, -, -, h0, h1, h2, h3⟩ := Go.Joins.open_agg4 Tryz.underlying30 (by kernel_rfl) (by kernel_rfl) hv h
 obtain ⟨a0, e0, -, -⟩ := DataW.trod_int Tryz.underlying3 h0
 obtain ⟨a1, e1, -, -⟩ := DataW.trod_int Tryz.underlying3 h1
 obtain ⟨a2, e2, -, -⟩ := DataW.trod_int Tryz.underlying3 h2
 obtain ⟨a3, e3, -, -⟩ := DataW.trod_int Tryz.underlying3 h3
 simp only [List.cons.injEq, and_true] at e0 e1 e2 e3
 subst e0 e1 e2 e3
 exact ⟨a0, a1, a2, a3, rfl⟩
end
end Go.Proofs.YtaoanagmgheicaaGreat
set_option linter.unusedSimpArgs false
set_option linter.unusedVariables false
namespace Go.Proofs.YtaoanagmgheicaaGreat
structure Stc where
 f : Int
 t : Int
deriving DecidableEq, Inhabited
end Go.Proofs.YtaoanagmgheicaaGreat
set_option linter.unusedSimpArgs false
set_option linter.unusedVariables false
namespace Go.Proofs.YtaoanagmgheicaaGreat
open Go.RowKit
def Stc.cells (x : Stc) : List Value := [.int .i64 x.f, .int .i64 x.t]
def scells (l : List Stc) : List Value := l.flatMap Stc.cells
structure RdS (w : World) (A : Option Addr) (n c : Nat) (l : List Stc) : Prop where
 len : l.length = n
 cap : n ≤ c
 nil : A = none → n = 0 ∧ c = 0
 cells : Cells w A (scells l)
theorem RdS.alloc {w : World} {A : Option Addr} {n c : Nat} {l : List Stc} (h : RdS w A n c l) (o : Obj) : RdS (w.alloc o) A n c l := ⟨h.len, h.cap, h.nil, h.cells.alloc o⟩
theorem RdS.drew {w : World} {A : Option Addr} {n c : Nat} {l : List Stc} (h : RdS w A n c l) : RdS w.drew A n c l := ⟨h.len, h.cap, h.nil, h.cells.drew⟩
end Go.Proofs.YtaoanagmgheicaaGreat
set_option linter.unusedSimpArgs false
set_option linter.unusedVariables false
namespace Go.Proofs.YtaoanagmgheicaaGreat
open Go.ChangeShapes Go.WideShapes Go.ChangeAt Go.RowKit
theorem CheckOutline_is (c : Int) (A B : Option Addr) (n k m j : Nat) (ws ts : List Bnd) (w : World) (h1 : RdB w A n k ws) (h2 : RdB w B m j ts) (hn : n ≤ maxLen) (hm : m ≤ maxLen) {q : Int} (hq : chkO ⟨c, ws, ts⟩ = q) : Calls Tryz.prog 22 #[.agg #[.int .i64 c, .slice A n k, .slice B m j]] w fun e w' => e = .returned (.int .i64 q) ∧ Below w.heap.size w w' := by
 subst hq; exact CheckOutline_any c A B n k m j ws ts w h1 h2 hn hm
theorem rCheckOutline_is (c : Int) (A B : Option Addr) (n k m j : Nat) (ws ts : List Bnd) (w : World) (h1 : RdB w A n k ws) (h2 : RdB w B m j ts) (hn : n ≤ maxLen) (hm : m ≤ maxLen) {q : Int} (hq : chkO ⟨c, ws, ts⟩ = q) : Calls Tryz.prog 23 #[.agg #[.int .i64 c, .slice A n k, .slice B m j]] w fun e w' => e = .returned (.int .i64 q) ∧ Below w.heap.size w w' := by
 subst hq; exact rCheckOutline_any c A B n k m j ws ts w h1 h2 hn hm
theorem CheckPairing_is (c : Int) (A B : Option Addr) (n k m j : Nat) (ws ts : List Bnd) (d : Int) (C D : Option Addr) (n2 k2 m2 j2 : Nat) (ws2 ts2 : List Bnd) (p1 p2 p3 p4 : Int) (w : World) (h1 : RdB w A n k ws) (h2 : RdB w B m j ts) (hn : n ≤ maxLen) (hm : m ≤ maxLen) (h3 : RdB w C n2 k2 ws2) (h4 : RdB w D m2 j2 ts2) (hn2 : n2 ≤ maxLen) (hm2 : m2 ≤ maxLen) {q : Int} (hq : chkP ⟨c, ws, ts⟩ ⟨d, ws2, ts2⟩ ⟨p1, p2, p3, p4⟩ = q) : Calls Tryz.prog 24 #[.agg #[.int .i64 c, .slice A n k, .slice B m j], .agg #[.int .i64 d, .slice C n2 k2, .slice D m2 j2], .agg #[.int .i64 p1, .int .i64 p2, .int .i64 p3, .int .i64 p4]] w fun e w' => e = .returned (.int .i64 q) ∧ Below w.heap.size w w' := by
 subst hq; exact CheckPairing_any c A B n k m j ws ts d C D n2 k2 m2 j2 ws2 ts2 p1 p2 p3 p4 w h1 h2 hn hm h3 h4 hn2 hm2
theorem rCheckPairing_is (c : Int) (A B : Option Addr) (n k m j : Nat) (ws ts : List Bnd) (d : Int) (C D : Option Addr) (n2 k2 m2 j2 : Nat) (ws2 ts2 : List Bnd) (p1 p2 p3 p4 : Int) (w : World) (h1 : RdB w A n k ws) (h2 : RdB w B m j ts) (hn : n ≤ maxLen) (hm : m ≤ maxLen) (h3 : RdB w C n2 k2 ws2) (h4 : RdB w D m2 j2 ts2) (hn2 : n2 ≤ maxLen) (hm2 : m2 ≤ maxLen) {q : Int} (hq : chkP ⟨c, ws, ts⟩ ⟨d, ws2, ts2⟩ ⟨p1, p2, p3, p4⟩ = q) : Calls Tryz.prog 25 #[.agg #[.int .i64 c, .slice A n k, .slice B m j], .agg #[.int .i64 d, .slice C n2 k2, .slice D m2 j2], .agg #[.int .i64 p1, .int .i64 p2, .int .i64 p3, .int .i64 p4]] w fun e w' => e = .returned (.int .i64 q) ∧ Below w.heap.size w w' := by
 subst hq; exact rCheckPairing_any c A B n k m j ws ts d C D n2 k2 m2 j2 ws2 ts2 p1 p2 p3 p4 w h1 h2 hn hm h3 h4 hn2 hm2
set_option maxRecDepth 100000 in
theorem xo_a (c : Int) (A B : Option Addr) (n k m j : Nat) (ws ts : List Bnd) (d : Int) (C D : Option Addr) (n2 k2 m2 j2 : Nat) (ws2 ts2 : List Bnd) (p1 p2 p3 p4 : Int) (w : World) (h1 : RdB w A n k ws) (h2 : RdB w B m j ts) (hn : n ≤ maxLen) (hm : m ≤ maxLen) (h3 : RdB w C n2 k2 ws2) (h4 : RdB w D m2 j2 ts2) (hn2 : n2 ≤ maxLen) (hm2 : m2 ≤ maxLen) (u : Bool) (xf xt xm xi : Int) (t : Bool) (F : Option Addr) (fm fd : Nat) (x : List Int) (hf : RdI w F fm fd x) (hfm : fm ≤ maxLen) (F1 : Hid (fewB n m = false)) : Calls Tryz.prog 3 #[.agg #[.int .i64 c, .slice A n k, .slice B m j], .agg #[.int .i64 d, .slice C n2 k2, .slice D m2 j2], .agg #[.int .i64 p1, .int .i64 p2, .int .i64 p3, .int .i64 p4], .bool u, .agg #[.int .i64 xf, .int .i64 xt, .int .i64 xm, .int .i64 xi], .agg #[.bool t, .slice F fm fd]] w fun e w' => e = .returned (.bool true) ∧ Below w.heap.size w w' := by
 go_enter Tryz.func3, Tryz.ntmps3
 have bel_1 := Lib.hid (show Below w.heap.size w w from Below.refl _ w)
 have ra_2 := Lib.hid (h1)
 clear h1
 have rb_3 := Lib.hid (h2)
 clear h2
 have rc_4 := Lib.hid (h3)
 clear h3
 have rd_5 := Lib.hid (h4)
 clear h4
 have rf_6 := Lib.hid (hf)
 clear hf
 obtain ⟨o_, ho_⟩ : ∃ o, o = ((.cells #[.int .i64 c, .slice A n k, .slice B m j] 24) : Obj) := ⟨_, rfl⟩
 replace bel_1 := bA bel_1 o_
 replace ra_2 := rA ra_2 o_
 replace rb_3 := rA rb_3 o_
 replace rc_4 := rA rc_4 o_
 replace rd_5 := rA rd_5 o_
 replace rf_6 := iA rf_6 o_
 subst ho_
 have ba_7 := Lib.hid (Blk.new w 24 #[.int .i64 c, .slice A n k, .slice B m j])
 obtain ⟨o_, ho_⟩ : ∃ o, o = ((.cells #[.int .i64 d, .slice C n2 k2, .slice D m2 j2] 24) : Obj) := ⟨_, rfl⟩
 replace bel_1 := bA bel_1 o_
 replace ra_2 := rA ra_2 o_
 replace rb_3 := rA rb_3 o_
 replace rc_4 := rA rc_4 o_
 replace rd_5 := rA rd_5 o_
 replace rf_6 := iA rf_6 o_
 replace ba_7 := kA ba_7 o_
 subst ho_
 have nb_ := Blk.new (w.alloc (.cells #[.int .i64 c, .slice A n k, .slice B m j] 24)) 24 #[.int .i64 d, .slice C n2 k2, .slice D m2 j2]
 simp only [World.size_alloc] at nb_
 have bb_8 := Lib.hid nb_; clear nb_
 obtain ⟨o_, ho_⟩ : ∃ o, o = ((.cells #[.int .i64 p1, .int .i64 p2, .int .i64 p3, .int .i64 p4] 28) : Obj) := ⟨_, rfl⟩
 replace bel_1 := bA bel_1 o_
 replace ra_2 := rA ra_2 o_
 replace rb_3 := rA rb_3 o_
 replace rc_4 := rA rc_4 o_
 replace rd_5 := rA rd_5 o_
 replace rf_6 := iA rf_6 o_
 replace ba_7 := kA ba_7 o_
 replace bb_8 := kA bb_8 o_
 subst ho_
 have nb_ := Blk.new ((w.alloc (.cells #[.int .i64 c, .slice A n k, .slice B m j] 24)).alloc (.cells #[.int .i64 d, .slice C n2 k2, .slice D m2 j2] 24)) 28 #[.int .i64 p1, .int .i64 p2, .int .i64 p3, .int .i64 p4]
 simp only [World.size_alloc] at nb_
 have bp_9 := Lib.hid nb_; clear nb_
 obtain ⟨o_, ho_⟩ : ∃ o, o = ((.cells #[.int .i64 xf, .int .i64 xt, .int .i64 xm, .int .i64 xi] 30) : Obj) := ⟨_, rfl⟩
 replace bel_1 := bA bel_1 o_
 replace ra_2 := rA ra_2 o_
 replace rb_3 := rA rb_3 o_
 replace rc_4 := rA rc_4 o_
 replace rd_5 := rA rd_5 o_
 replace rf_6 := iA rf_6 o_
 replace ba_7 := kA ba_7 o_
 replace bb_8 := kA bb_8 o_
 replace bp_9 := kA bp_9 o_
 subst ho_
 have nb_ := Blk.new (((w.alloc (.cells #[.int .i64 c, .slice A n k, .slice B m j] 24)).alloc (.cells #[.int .i64 d, .slice C n2 k2, .slice D m2 j2] 24)).alloc (.cells #[.int .i64 p1, .int .i64 p2, .int .i64 p3, .int .i64 p4] 28)) 30 #[.int .i64 xf, .int .i64 xt, .int .i64 xm, .int .i64 xi]
 simp only [World.size_alloc] at nb_
 have bx_10 := Lib.hid nb_; clear nb_
 obtain ⟨o_, ho_⟩ : ∃ o, o = ((.cells #[.bool t, .slice F fm fd] 33) : Obj) := ⟨_, rfl⟩
 replace bel_1 := bA bel_1 o_
 replace ra_2 := rA ra_2 o_
 replace rb_3 := rA rb_3 o_
 replace rc_4 := rA rc_4 o_
 replace rd_5 := rA rd_5 o_
 replace rf_6 := iA rf_6 o_
 replace ba_7 := kA ba_7 o_
 replace bb_8 := kA bb_8 o_
 replace bp_9 := kA bp_9 o_
 replace bx_10 := kA bx_10 o_
 subst ho_
 have nb_ := Blk.new ((((w.alloc (.cells #[.int .i64 c, .slice A n k, .slice B m j] 24)).alloc (.cells #[.int .i64 d, .slice C n2 k2, .slice D m2 j2] 24)).alloc (.cells #[.int .i64 p1, .int .i64 p2, .int .i64 p3, .int .i64 p4] 28)).alloc (.cells #[.int .i64 xf, .int .i64 xt, .int .i64 xm, .int .i64 xi] 30)) 33 #[.bool t, .slice F fm fd]
 simp only [World.size_alloc] at nb_
 have bf_11 := Lib.hid nb_; clear nb_
 obtain ⟨z_12, z_13, z_14⟩ := at3 ba_7
 obtain ⟨z_15, z_16, z_17⟩ := at3 bb_8
 obtain ⟨z_18, z_19, z_20, z_21⟩ := at4 bp_9
 obtain ⟨z_22, z_23, z_24, z_25⟩ := at4 bx_10
 obtain ⟨z_26, z_27⟩ := at2 bf_11
 have hc := few3_any c A B n k m j ((((((w.alloc (.cells #[.int .i64 c, .slice A n k, .slice B m j] 24)).alloc (.cells #[.int .i64 d, .slice C n2 k2, .slice D m2 j2] 24)).alloc (.cells #[.int .i64 p1, .int .i64 p2, .int .i64 p3, .int .i64 p4] 28)).alloc (.cells #[.int .i64 xf, .int .i64 xt, .int .i64 xm, .int .i64 xi] 30)).alloc (.cells #[.bool t, .slice F fm fd] 33)))
 rw [F1.out] at hc
 try dsimp only at hc
 have HC := Lib.hid hc; clear hc
 go_wp2_with fail
 refine HC.out.mono ?_
 rintro e w_28 ⟨rfl, hb⟩
 clear HC
 clear z_12 z_13 z_14 z_15 z_16 z_17 z_18 z_19 z_20 z_21 z_22 z_23 z_24 z_25 z_26 z_27
 have hb_29 := Lib.hid hb
 clear hb
 replace ba_7 := kH ba_7 hb_29
 obtain ⟨z_30, z_31, z_32⟩ := at3 ba_7
 replace bb_8 := kH bb_8 hb_29
 obtain ⟨z_33, z_34, z_35⟩ := at3 bb_8
 replace bp_9 := kH bp_9 hb_29
 obtain ⟨z_36, z_37, z_38, z_39⟩ := at4 bp_9
 replace bx_10 := kH bx_10 hb_29
 obtain ⟨z_40, z_41, z_42, z_43⟩ := at4 bx_10
 replace bf_11 := kH bf_11 hb_29
 obtain ⟨z_44, z_45⟩ := at2 bf_11
 have hc := joined_any (w_28)
 have HC := Lib.hid hc; clear hc
 go_wp2_with fail
 refine HC.out.mono ?_
 rintro e w_46 ⟨rfl, hb⟩
 clear HC
 clear z_30 z_31 z_32 z_33 z_34 z_35 z_36 z_37 z_38 z_39 z_40 z_41 z_42 z_43 z_44 z_45
 have hb_47 := Lib.hid hb
 clear hb
 replace ba_7 := kH ba_7 hb_47
 obtain ⟨z_48, z_49, z_50⟩ := at3 ba_7
 replace bb_8 := kH bb_8 hb_47
 obtain ⟨z_51, z_52, z_53⟩ := at3 bb_8
 replace bp_9 := kH bp_9 hb_47
 obtain ⟨z_54, z_55, z_56, z_57⟩ := at4 bp_9
 replace bx_10 := kH bx_10 hb_47
 obtain ⟨z_58, z_59, z_60, z_61⟩ := at4 bx_10
 replace bf_11 := kH bf_11 hb_47
 obtain ⟨z_62, z_63⟩ := at2 bf_11
 go_wp2
 go_ret
 replace bel_1 := bH (bH bel_1 hb_29) hb_47
 exact ⟨rfl, bel_1.out⟩
set_option maxRecDepth 100000 in
theorem xo_b (c : Int) (A B : Option Addr) (n k m j : Nat) (ws ts : List Bnd) (d : Int) (C D : Option Addr) (n2 k2 m2 j2 : Nat) (ws2 ts2 : List Bnd) (p1 p2 p3 p4 : Int) (w : World) (h1 : RdB w A n k ws) (h2 : RdB w B m j ts) (hn : n ≤ maxLen) (hm : m ≤ maxLen) (h3 : RdB w C n2 k2 ws2) (h4 : RdB w D m2 j2 ts2) (hn2 : n2 ≤ maxLen) (hm2 : m2 ≤ maxLen) (u : Bool) (xf xt xm xi : Int) (t : Bool) (F : Option Addr) (fm fd : Nat) (x : List Int) (hf : RdI w F fm fd x) (hfm : fm ≤ maxLen) (F1 : Hid (fewB n m = true)) (F2 : Hid (fewB n2 m2 = false)) : Calls Tryz.prog 3 #[.agg #[.int .i64 c, .slice A n k, .slice B m j], .agg #[.int .i64 d, .slice C n2 k2, .slice D m2 j2], .agg #[.int .i64 p1, .int .i64 p2, .int .i64 p3, .int .i64 p4], .bool u, .agg #[.int .i64 xf, .int .i64 xt, .int .i64 xm, .int .i64 xi], .agg #[.bool t, .slice F fm fd]] w fun e w' => e = .returned (.bool true) ∧ Below w.heap.size w w' := by
 go_enter Tryz.func3, Tryz.ntmps3
 have bel_1 := Lib.hid (show Below w.heap.size w w from Below.refl _ w)
 have ra_2 := Lib.hid (h1)
 clear h1
 have rb_3 := Lib.hid (h2)
 clear h2
 have rc_4 := Lib.hid (h3)
 clear h3
 have rd_5 := Lib.hid (h4)
 clear h4
 have rf_6 := Lib.hid (hf)
 clear hf
 obtain ⟨o_, ho_⟩ : ∃ o, o = ((.cells #[.int .i64 c, .slice A n k, .slice B m j] 24) : Obj) := ⟨_, rfl⟩
 replace bel_1 := bA bel_1 o_
 replace ra_2 := rA ra_2 o_
 replace rb_3 := rA rb_3 o_
 replace rc_4 := rA rc_4 o_
 replace rd_5 := rA rd_5 o_
 replace rf_6 := iA rf_6 o_
 subst ho_
 have ba_7 := Lib.hid (Blk.new w 24 #[.int .i64 c, .slice A n k, .slice B m j])
 obtain ⟨o_, ho_⟩ : ∃ o, o = ((.cells #[.int .i64 d, .slice C n2 k2, .slice D m2 j2] 24) : Obj) := ⟨_, rfl⟩
 replace bel_1 := bA bel_1 o_
 replace ra_2 := rA ra_2 o_
 replace rb_3 := rA rb_3 o_
 replace rc_4 := rA rc_4 o_
 replace rd_5 := rA rd_5 o_
 replace rf_6 := iA rf_6 o_
 replace ba_7 := kA ba_7 o_
 subst ho_
 have nb_ := Blk.new (w.alloc (.cells #[.int .i64 c, .slice A n k, .slice B m j] 24)) 24 #[.int .i64 d, .slice C n2 k2, .slice D m2 j2]
 simp only [World.size_alloc] at nb_
 have bb_8 := Lib.hid nb_; clear nb_
 obtain ⟨o_, ho_⟩ : ∃ o, o = ((.cells #[.int .i64 p1, .int .i64 p2, .int .i64 p3, .int .i64 p4] 28) : Obj) := ⟨_, rfl⟩
 replace bel_1 := bA bel_1 o_
 replace ra_2 := rA ra_2 o_
 replace rb_3 := rA rb_3 o_
 replace rc_4 := rA rc_4 o_
 replace rd_5 := rA rd_5 o_
 replace rf_6 := iA rf_6 o_
 replace ba_7 := kA ba_7 o_
 replace bb_8 := kA bb_8 o_
 subst ho_
 have nb_ := Blk.new ((w.alloc (.cells #[.int .i64 c, .slice A n k, .slice B m j] 24)).alloc (.cells #[.int .i64 d, .slice C n2 k2, .slice D m2 j2] 24)) 28 #[.int .i64 p1, .int .i64 p2, .int .i64 p3, .int .i64 p4]
 simp only [World.size_alloc] at nb_
 have bp_9 := Lib.hid nb_; clear nb_
 obtain ⟨o_, ho_⟩ : ∃ o, o = ((.cells #[.int .i64 xf, .int .i64 xt, .int .i64 xm, .int .i64 xi] 30) : Obj) := ⟨_, rfl⟩
 replace bel_1 := bA bel_1 o_
 replace ra_2 := rA ra_2 o_
 replace rb_3 := rA rb_3 o_
 replace rc_4 := rA rc_4 o_
 replace rd_5 := rA rd_5 o_
 replace rf_6 := iA rf_6 o_
 replace ba_7 := kA ba_7 o_
 replace bb_8 := kA bb_8 o_
 replace bp_9 := kA bp_9 o_
 subst ho_
 have nb_ := Blk.new (((w.alloc (.cells #[.int .i64 c, .slice A n k, .slice B m j] 24)).alloc (.cells #[.int .i64 d, .slice C n2 k2, .slice D m2 j2] 24)).alloc (.cells #[.int .i64 p1, .int .i64 p2, .int .i64 p3, .int .i64 p4] 28)) 30 #[.int .i64 xf, .int .i64 xt, .int .i64 xm, .int .i64 xi]
 simp only [World.size_alloc] at nb_
 have bx_10 := Lib.hid nb_; clear nb_
 obtain ⟨o_, ho_⟩ : ∃ o, o = ((.cells #[.bool t, .slice F fm fd] 33) : Obj) := ⟨_, rfl⟩
 replace bel_1 := bA bel_1 o_
 replace ra_2 := rA ra_2 o_
 replace rb_3 := rA rb_3 o_
 replace rc_4 := rA rc_4 o_
 replace rd_5 := rA rd_5 o_
 replace rf_6 := iA rf_6 o_
 replace ba_7 := kA ba_7 o_
 replace bb_8 := kA bb_8 o_
 replace bp_9 := kA bp_9 o_
 replace bx_10 := kA bx_10 o_
 subst ho_
 have nb_ := Blk.new ((((w.alloc (.cells #[.int .i64 c, .slice A n k, .slice B m j] 24)).alloc (.cells #[.int .i64 d, .slice C n2 k2, .slice D m2 j2] 24)).alloc (.cells #[.int .i64 p1, .int .i64 p2, .int .i64 p3, .int .i64 p4] 28)).alloc (.cells #[.int .i64 xf, .int .i64 xt, .int .i64 xm, .int .i64 xi] 30)) 33 #[.bool t, .slice F fm fd]
 simp only [World.size_alloc] at nb_
 have bf_11 := Lib.hid nb_; clear nb_
 obtain ⟨z_12, z_13, z_14⟩ := at3 ba_7
 obtain ⟨z_15, z_16, z_17⟩ := at3 bb_8
 obtain ⟨z_18, z_19, z_20, z_21⟩ := at4 bp_9
 obtain ⟨z_22, z_23, z_24, z_25⟩ := at4 bx_10
 obtain ⟨z_26, z_27⟩ := at2 bf_11
 have hc := few3_any c A B n k m j ((((((w.alloc (.cells #[.int .i64 c, .slice A n k, .slice B m j] 24)).alloc (.cells #[.int .i64 d, .slice C n2 k2, .slice D m2 j2] 24)).alloc (.cells #[.int .i64 p1, .int .i64 p2, .int .i64 p3, .int .i64 p4] 28)).alloc (.cells #[.int .i64 xf, .int .i64 xt, .int .i64 xm, .int .i64 xi] 30)).alloc (.cells #[.bool t, .slice F fm fd] 33)))
 rw [F1.out] at hc
 try dsimp only at hc
 have HC := Lib.hid hc; clear hc
 go_wp2_with fail
 refine HC.out.mono ?_
 rintro e w_28 ⟨rfl, hb⟩
 clear HC
 clear z_12 z_13 z_14 z_15 z_16 z_17 z_18 z_19 z_20 z_21 z_22 z_23 z_24 z_25 z_26 z_27
 have hb_29 := Lib.hid hb
 clear hb
 replace ba_7 := kH ba_7 hb_29
 obtain ⟨z_30, z_31, z_32⟩ := at3 ba_7
 replace bb_8 := kH bb_8 hb_29
 obtain ⟨z_33, z_34, z_35⟩ := at3 bb_8
 replace bp_9 := kH bp_9 hb_29
 obtain ⟨z_36, z_37, z_38, z_39⟩ := at4 bp_9
 replace bx_10 := kH bx_10 hb_29
 obtain ⟨z_40, z_41, z_42, z_43⟩ := at4 bx_10
 replace bf_11 := kH bf_11 hb_29
 obtain ⟨z_44, z_45⟩ := at2 bf_11
 have hc := few3_any d C D n2 k2 m2 j2 (w_28)
 rw [F2.out] at hc
 try dsimp only at hc
 have HC := Lib.hid hc; clear hc
 go_wp2_with fail
 refine HC.out.mono ?_
 rintro e w_46 ⟨rfl, hb⟩
 clear HC
 clear z_30 z_31 z_32 z_33 z_34 z_35 z_36 z_37 z_38 z_39 z_40 z_41 z_42 z_43 z_44 z_45
 have hb_47 := Lib.hid hb
 clear hb
 replace ba_7 := kH ba_7 hb_47
 obtain ⟨z_48, z_49, z_50⟩ := at3 ba_7
 replace bb_8 := kH bb_8 hb_47
 obtain ⟨z_51, z_52, z_53⟩ := at3 bb_8
 replace bp_9 := kH bp_9 hb_47
 obtain ⟨z_54, z_55, z_56, z_57⟩ := at4 bp_9
 replace bx_10 := kH bx_10 hb_47
 obtain ⟨z_58, z_59, z_60, z_61⟩ := at4 bx_10
 replace bf_11 := kH bf_11 hb_47
 obtain ⟨z_62, z_63⟩ := at2 bf_11
 have hc := joined_any (w_46)
 have HC := Lib.hid hc; clear hc
 go_wp2_with fail
 refine HC.out.mono ?_
 rintro e w_64 ⟨rfl, hb⟩
 clear HC
 clear z_48 z_49 z_50 z_51 z_52 z_53 z_54 z_55 z_56 z_57 z_58 z_59 z_60 z_61 z_62 z_63
 have hb_65 := Lib.hid hb
 clear hb
 replace ba_7 := kH ba_7 hb_65
 obtain ⟨z_66, z_67, z_68⟩ := at3 ba_7
 replace bb_8 := kH bb_8 hb_65
 obtain ⟨z_69, z_70, z_71⟩ := at3 bb_8
 replace bp_9 := kH bp_9 hb_65
 obtain ⟨z_72, z_73, z_74, z_75⟩ := at4 bp_9
 replace bx_10 := kH bx_10 hb_65
 obtain ⟨z_76, z_77, z_78, z_79⟩ := at4 bx_10
 replace bf_11 := kH bf_11 hb_65
 obtain ⟨z_80, z_81⟩ := at2 bf_11
 go_wp2
 go_ret
 replace bel_1 := bH (bH (bH bel_1 hb_29) hb_47) hb_65
 exact ⟨rfl, bel_1.out⟩
set_option maxRecDepth 100000 in
theorem xo_f (c : Int) (A B : Option Addr) (n k m j : Nat) (ws ts : List Bnd) (d : Int) (C D : Option Addr) (n2 k2 m2 j2 : Nat) (ws2 ts2 : List Bnd) (p1 p2 p3 p4 : Int) (w : World) (h1 : RdB w A n k ws) (h2 : RdB w B m j ts) (hn : n ≤ maxLen) (hm : m ≤ maxLen) (h3 : RdB w C n2 k2 ws2) (h4 : RdB w D m2 j2 ts2) (hn2 : n2 ≤ maxLen) (hm2 : m2 ≤ maxLen) (u : Bool) (xf xt xm xi : Int) (t : Bool) (F : Option Addr) (fm fd : Nat) (x : List Int) (hf : RdI w F fm fd x) (hfm : fm ≤ maxLen) (F1 : Hid (fewB n m = true)) (F2 : Hid (fewB n2 m2 = true)) (hl : (100 : Int) < fm) : Calls Tryz.prog 3 #[.agg #[.int .i64 c, .slice A n k, .slice B m j], .agg #[.int .i64 d, .slice C n2 k2, .slice D m2 j2], .agg #[.int .i64 p1, .int .i64 p2, .int .i64 p3, .int .i64 p4], .bool u, .agg #[.int .i64 xf, .int .i64 xt, .int .i64 xm, .int .i64 xi], .agg #[.bool t, .slice F fm fd]] w fun e w' => e = .returned (.bool true) ∧ Below w.heap.size w w' := by
 go_enter Tryz.func3, Tryz.ntmps3
 have bel_1 := Lib.hid (show Below w.heap.size w w from Below.refl _ w)
 have ra_2 := Lib.hid (h1)
 clear h1
 have rb_3 := Lib.hid (h2)
 clear h2
 have rc_4 := Lib.hid (h3)
 clear h3
 have rd_5 := Lib.hid (h4)
 clear h4
 have rf_6 := Lib.hid (hf)
 clear hf
 obtain ⟨o_, ho_⟩ : ∃ o, o = ((.cells #[.int .i64 c, .slice A n k, .slice B m j] 24) : Obj) := ⟨_, rfl⟩
 replace bel_1 := bA bel_1 o_
 replace ra_2 := rA ra_2 o_
 replace rb_3 := rA rb_3 o_
 replace rc_4 := rA rc_4 o_
 replace rd_5 := rA rd_5 o_
 replace rf_6 := iA rf_6 o_
 subst ho_
 have ba_7 := Lib.hid (Blk.new w 24 #[.int .i64 c, .slice A n k, .slice B m j])
 obtain ⟨o_, ho_⟩ : ∃ o, o = ((.cells #[.int .i64 d, .slice C n2 k2, .slice D m2 j2] 24) : Obj) := ⟨_, rfl⟩
 replace bel_1 := bA bel_1 o_
 replace ra_2 := rA ra_2 o_
 replace rb_3 := rA rb_3 o_
 replace rc_4 := rA rc_4 o_
 replace rd_5 := rA rd_5 o_
 replace rf_6 := iA rf_6 o_
 replace ba_7 := kA ba_7 o_
 subst ho_
 have nb_ := Blk.new (w.alloc (.cells #[.int .i64 c, .slice A n k, .slice B m j] 24)) 24 #[.int .i64 d, .slice C n2 k2, .slice D m2 j2]
 simp only [World.size_alloc] at nb_
 have bb_8 := Lib.hid nb_; clear nb_
 obtain ⟨o_, ho_⟩ : ∃ o, o = ((.cells #[.int .i64 p1, .int .i64 p2, .int .i64 p3, .int .i64 p4] 28) : Obj) := ⟨_, rfl⟩
 replace bel_1 := bA bel_1 o_
 replace ra_2 := rA ra_2 o_
 replace rb_3 := rA rb_3 o_
 replace rc_4 := rA rc_4 o_
 replace rd_5 := rA rd_5 o_
 replace rf_6 := iA rf_6 o_
 replace ba_7 := kA ba_7 o_
 replace bb_8 := kA bb_8 o_
 subst ho_
 have nb_ := Blk.new ((w.alloc (.cells #[.int .i64 c, .slice A n k, .slice B m j] 24)).alloc (.cells #[.int .i64 d, .slice C n2 k2, .slice D m2 j2] 24)) 28 #[.int .i64 p1, .int .i64 p2, .int .i64 p3, .int .i64 p4]
 simp only [World.size_alloc] at nb_
 have bp_9 := Lib.hid nb_; clear nb_
 obtain ⟨o_, ho_⟩ : ∃ o, o = ((.cells #[.int .i64 xf, .int .i64 xt, .int .i64 xm, .int .i64 xi] 30) : Obj) := ⟨_, rfl⟩
 replace bel_1 := bA bel_1 o_
 replace ra_2 := rA ra_2 o_
 replace rb_3 := rA rb_3 o_
 replace rc_4 := rA rc_4 o_
 replace rd_5 := rA rd_5 o_
 replace rf_6 := iA rf_6 o_
 replace ba_7 := kA ba_7 o_
 replace bb_8 := kA bb_8 o_
 replace bp_9 := kA bp_9 o_
 subst ho_
 have nb_ := Blk.new (((w.alloc (.cells #[.int .i64 c, .slice A n k, .slice B m j] 24)).alloc (.cells #[.int .i64 d, .slice C n2 k2, .slice D m2 j2] 24)).alloc (.cells #[.int .i64 p1, .int .i64 p2, .int .i64 p3, .int .i64 p4] 28)) 30 #[.int .i64 xf, .int .i64 xt, .int .i64 xm, .int .i64 xi]
 simp only [World.size_alloc] at nb_
 have bx_10 := Lib.hid nb_; clear nb_
 obtain ⟨o_, ho_⟩ : ∃ o, o = ((.cells #[.bool t, .slice F fm fd] 33) : Obj) := ⟨_, rfl⟩
 replace bel_1 := bA bel_1 o_
 replace ra_2 := rA ra_2 o_
 replace rb_3 := rA rb_3 o_
 replace rc_4 := rA rc_4 o_
 replace rd_5 := rA rd_5 o_
 replace rf_6 := iA rf_6 o_
 replace ba_7 := kA ba_7 o_
 replace bb_8 := kA bb_8 o_
 replace bp_9 := kA bp_9 o_
 replace bx_10 := kA bx_10 o_
 subst ho_
 have nb_ := Blk.new ((((w.alloc (.cells #[.int .i64 c, .slice A n k, .slice B m j] 24)).alloc (.cells #[.int .i64 d, .slice C n2 k2, .slice D m2 j2] 24)).alloc (.cells #[.int .i64 p1, .int .i64 p2, .int .i64 p3, .int .i64 p4] 28)).alloc (.cells #[.int .i64 xf, .int .i64 xt, .int .i64 xm, .int .i64 xi] 30)) 33 #[.bool t, .slice F fm fd]
 simp only [World.size_alloc] at nb_
 have bf_11 := Lib.hid nb_; clear nb_
 obtain ⟨z_12, z_13, z_14⟩ := at3 ba_7
 obtain ⟨z_15, z_16, z_17⟩ := at3 bb_8
 obtain ⟨z_18, z_19, z_20, z_21⟩ := at4 bp_9
 obtain ⟨z_22, z_23, z_24, z_25⟩ := at4 bx_10
 obtain ⟨z_26, z_27⟩ := at2 bf_11
 have hc := few3_any c A B n k m j ((((((w.alloc (.cells #[.int .i64 c, .slice A n k, .slice B m j] 24)).alloc (.cells #[.int .i64 d, .slice C n2 k2, .slice D m2 j2] 24)).alloc (.cells #[.int .i64 p1, .int .i64 p2, .int .i64 p3, .int .i64 p4] 28)).alloc (.cells #[.int .i64 xf, .int .i64 xt, .int .i64 xm, .int .i64 xi] 30)).alloc (.cells #[.bool t, .slice F fm fd] 33)))
 rw [F1.out] at hc
 try dsimp only at hc
 have HC := Lib.hid hc; clear hc
 go_wp2_with fail
 refine HC.out.mono ?_
 rintro e w_28 ⟨rfl, hb⟩
 clear HC
 clear z_12 z_13 z_14 z_15 z_16 z_17 z_18 z_19 z_20 z_21 z_22 z_23 z_24 z_25 z_26 z_27
 have hb_29 := Lib.hid hb
 clear hb
 replace ba_7 := kH ba_7 hb_29
 obtain ⟨z_30, z_31, z_32⟩ := at3 ba_7
 replace bb_8 := kH bb_8 hb_29
 obtain ⟨z_33, z_34, z_35⟩ := at3 bb_8
 replace bp_9 := kH bp_9 hb_29
 obtain ⟨z_36, z_37, z_38, z_39⟩ := at4 bp_9
 replace bx_10 := kH bx_10 hb_29
 obtain ⟨z_40, z_41, z_42, z_43⟩ := at4 bx_10
 replace bf_11 := kH bf_11 hb_29
 obtain ⟨z_44, z_45⟩ := at2 bf_11
 have hc := few3_any d C D n2 k2 m2 j2 (w_28)
 rw [F2.out] at hc
 try dsimp only at hc
 have HC := Lib.hid hc; clear hc
 go_wp2_with fail
 refine HC.out.mono ?_
 rintro e w_46 ⟨rfl, hb⟩
 clear HC
 clear z_30 z_31 z_32 z_33 z_34 z_35 z_36 z_37 z_38 z_39 z_40 z_41 z_42 z_43 z_44 z_45
 have hb_47 := Lib.hid hb
 clear hb
 replace ba_7 := kH ba_7 hb_47
 obtain ⟨z_48, z_49, z_50⟩ := at3 ba_7
 replace bb_8 := kH bb_8 hb_47
 obtain ⟨z_51, z_52, z_53⟩ := at3 bb_8
 replace bp_9 := kH bp_9 hb_47
 obtain ⟨z_54, z_55, z_56, z_57⟩ := at4 bp_9
 replace bx_10 := kH bx_10 hb_47
 obtain ⟨z_58, z_59, z_60, z_61⟩ := at4 bx_10
 replace bf_11 := kH bf_11 hb_47
 obtain ⟨z_62, z_63⟩ := at2 bf_11
 have hc := joined_any (w_46)
 have HC := Lib.hid hc; clear hc
 go_wp2_with fail
 refine HC.out.mono ?_
 rintro e w_64 ⟨rfl, hb⟩
 clear HC
 clear z_48 z_49 z_50 z_51 z_52 z_53 z_54 z_55 z_56 z_57 z_58 z_59 z_60 z_61 z_62 z_63
 have hb_65 := Lib.hid hb
 clear hb
 replace ba_7 := kH ba_7 hb_65
 obtain ⟨z_66, z_67, z_68⟩ := at3 ba_7
 replace bb_8 := kH bb_8 hb_65
 obtain ⟨z_69, z_70, z_71⟩ := at3 bb_8
 replace bp_9 := kH bp_9 hb_65
 obtain ⟨z_72, z_73, z_74, z_75⟩ := at4 bp_9
 replace bx_10 := kH bx_10 hb_65
 obtain ⟨z_76, z_77, z_78, z_79⟩ := at4 bx_10
 replace bf_11 := kH bf_11 hb_65
 obtain ⟨z_80, z_81⟩ := at2 bf_11
 go_wp2
 go_ret
 replace bel_1 := bH (bH (bH bel_1 hb_29) hb_47) hb_65
 exact ⟨rfl, bel_1.out⟩
set_option maxRecDepth 100000 in
theorem xo_ok (c : Int) (A B : Option Addr) (n k m j : Nat) (ws ts : List Bnd) (d : Int) (C D : Option Addr) (n2 k2 m2 j2 : Nat) (ws2 ts2 : List Bnd) (p1 p2 p3 p4 : Int) (w : World) (h1 : RdB w A n k ws) (h2 : RdB w B m j ts) (hn : n ≤ maxLen) (hm : m ≤ maxLen) (h3 : RdB w C n2 k2 ws2) (h4 : RdB w D m2 j2 ts2) (hn2 : n2 ≤ maxLen) (hm2 : m2 ≤ maxLen) (u : Bool) (xf xt xm xi : Int) (t : Bool) (F : Option Addr) (fm fd : Nat) (x : List Int) (hf : RdI w F fm fd x) (hfm : fm ≤ maxLen) (F1 : Hid (fewB n m = true)) (F2 : Hid (fewB n2 m2 = true)) (hl : ¬ (100 : Int) < fm) (q : Int) (EQ : Hid (withE u ⟨c, ws, ts⟩ ⟨xf, xt, xm, xi⟩ = q)) (cc : Int) (lw lt : List Bnd) (EC : Hid ((if q = 0 then (withO u ⟨c, ws, ts⟩ ⟨xf, xt, xm, xi⟩).c else 0) = cc)) (EW_ : Hid ((if q = 0 then (withO u ⟨c, ws, ts⟩ ⟨xf, xt, xm, xi⟩).ws else []) = lw)) (ET : Hid ((if q = 0 then (withO u ⟨c, ws, ts⟩ ⟨xf, xt, xm, xi⟩).ts else []) = lt)) (v1 : Bool) (v2 : Int) (EV : Hid (checkFlawV t ⟨c, ws, ts⟩ x = (v1, v2))) (qo : Int) (EO : Hid (chkO ⟨c, ws, ts⟩ = qo)) (qp : Int) (EP : Hid (chkP ⟨c, ws, ts⟩ ⟨d, ws2, ts2⟩ ⟨p1, p2, p3, p4⟩ = qp)) : Calls Tryz.prog 3 #[.agg #[.int .i64 c, .slice A n k, .slice B m j], .agg #[.int .i64 d, .slice C n2 k2, .slice D m2 j2], .agg #[.int .i64 p1, .int .i64 p2, .int .i64 p3, .int .i64 p4], .bool u, .agg #[.int .i64 xf, .int .i64 xt, .int .i64 xm, .int .i64 xi], .agg #[.bool t, .slice F fm fd]] w fun e w' => e = .returned (.bool true) ∧ Below w.heap.size w w' := by
 go_enter Tryz.func3, Tryz.ntmps3
 have bel_1 := Lib.hid (show Below w.heap.size w w from Below.refl _ w)
 have ra_2 := Lib.hid (h1)
 clear h1
 have rb_3 := Lib.hid (h2)
 clear h2
 have rc_4 := Lib.hid (h3)
 clear h3
 have rd_5 := Lib.hid (h4)
 clear h4
 have rf_6 := Lib.hid (hf)
 clear hf
 obtain ⟨o_, ho_⟩ : ∃ o, o = ((.cells #[.int .i64 c, .slice A n k, .slice B m j] 24) : Obj) := ⟨_, rfl⟩
 replace bel_1 := bA bel_1 o_
 replace ra_2 := rA ra_2 o_
 replace rb_3 := rA rb_3 o_
 replace rc_4 := rA rc_4 o_
 replace rd_5 := rA rd_5 o_
 replace rf_6 := iA rf_6 o_
 subst ho_
 have ba_7 := Lib.hid (Blk.new w 24 #[.int .i64 c, .slice A n k, .slice B m j])
 obtain ⟨o_, ho_⟩ : ∃ o, o = ((.cells #[.int .i64 d, .slice C n2 k2, .slice D m2 j2] 24) : Obj) := ⟨_, rfl⟩
 replace bel_1 := bA bel_1 o_
 replace ra_2 := rA ra_2 o_
 replace rb_3 := rA rb_3 o_
 replace rc_4 := rA rc_4 o_
 replace rd_5 := rA rd_5 o_
 replace rf_6 := iA rf_6 o_
 replace ba_7 := kA ba_7 o_
 subst ho_
 have nb_ := Blk.new (w.alloc (.cells #[.int .i64 c, .slice A n k, .slice B m j] 24)) 24 #[.int .i64 d, .slice C n2 k2, .slice D m2 j2]
 simp only [World.size_alloc] at nb_
 have bb_8 := Lib.hid nb_; clear nb_
 obtain ⟨o_, ho_⟩ : ∃ o, o = ((.cells #[.int .i64 p1, .int .i64 p2, .int .i64 p3, .int .i64 p4] 28) : Obj) := ⟨_, rfl⟩
 replace bel_1 := bA bel_1 o_
 replace ra_2 := rA ra_2 o_
 replace rb_3 := rA rb_3 o_
 replace rc_4 := rA rc_4 o_
 replace rd_5 := rA rd_5 o_
 replace rf_6 := iA rf_6 o_
 replace ba_7 := kA ba_7 o_
 replace bb_8 := kA bb_8 o_
 subst ho_
 have nb_ := Blk.new ((w.alloc (.cells #[.int .i64 c, .slice A n k, .slice B m j] 24)).alloc (.cells #[.int .i64 d, .slice C n2 k2, .slice D m2 j2] 24)) 28 #[.int .i64 p1, .int .i64 p2, .int .i64 p3, .int .i64 p4]
 simp only [World.size_alloc] at nb_
 have bp_9 := Lib.hid nb_; clear nb_
 obtain ⟨o_, ho_⟩ : ∃ o, o = ((.cells #[.int .i64 xf, .int .i64 xt, .int .i64 xm, .int .i64 xi] 30) : Obj) := ⟨_, rfl⟩
 replace bel_1 := bA bel_1 o_
 replace ra_2 := rA ra_2 o_
 replace rb_3 := rA rb_3 o_
 replace rc_4 := rA rc_4 o_
 replace rd_5 := rA rd_5 o_
 replace rf_6 := iA rf_6 o_
 replace ba_7 := kA ba_7 o_
 replace bb_8 := kA bb_8 o_
 replace bp_9 := kA bp_9 o_
 subst ho_
 have nb_ := Blk.new (((w.alloc (.cells #[.int .i64 c, .slice A n k, .slice B m j] 24)).alloc (.cells #[.int .i64 d, .slice C n2 k2, .slice D m2 j2] 24)).alloc (.cells #[.int .i64 p1, .int .i64 p2, .int .i64 p3, .int .i64 p4] 28)) 30 #[.int .i64 xf, .int .i64 xt, .int .i64 xm, .int .i64 xi]
 simp only [World.size_alloc] at nb_
 have bx_10 := Lib.hid nb_; clear nb_
 obtain ⟨o_, ho_⟩ : ∃ o, o = ((.cells #[.bool t, .slice F fm fd] 33) : Obj) := ⟨_, rfl⟩
 replace bel_1 := bA bel_1 o_
 replace ra_2 := rA ra_2 o_
 replace rb_3 := rA rb_3 o_
 replace rc_4 := rA rc_4 o_
 replace rd_5 := rA rd_5 o_
 replace rf_6 := iA rf_6 o_
 replace ba_7 := kA ba_7 o_
 replace bb_8 := kA bb_8 o_
 replace bp_9 := kA bp_9 o_
 replace bx_10 := kA bx_10 o_
 subst ho_
 have nb_ := Blk.new ((((w.alloc (.cells #[.int .i64 c, .slice A n k, .slice B m j] 24)).alloc (.cells #[.int .i64 d, .slice C n2 k2, .slice D m2 j2] 24)).alloc (.cells #[.int .i64 p1, .int .i64 p2, .int .i64 p3, .int .i64 p4] 28)).alloc (.cells #[.int .i64 xf, .int .i64 xt, .int .i64 xm, .int .i64 xi] 30)) 33 #[.bool t, .slice F fm fd]
 simp only [World.size_alloc] at nb_
 have bf_11 := Lib.hid nb_; clear nb_
 obtain ⟨z_12, z_13, z_14⟩ := at3 ba_7
 obtain ⟨z_15, z_16, z_17⟩ := at3 bb_8
 obtain ⟨z_18, z_19, z_20, z_21⟩ := at4 bp_9
 obtain ⟨z_22, z_23, z_24, z_25⟩ := at4 bx_10
 obtain ⟨z_26, z_27⟩ := at2 bf_11
 have hc := few3_any c A B n k m j ((((((w.alloc (.cells #[.int .i64 c, .slice A n k, .slice B m j] 24)).alloc (.cells #[.int .i64 d, .slice C n2 k2, .slice D m2 j2] 24)).alloc (.cells #[.int .i64 p1, .int .i64 p2, .int .i64 p3, .int .i64 p4] 28)).alloc (.cells #[.int .i64 xf, .int .i64 xt, .int .i64 xm, .int .i64 xi] 30)).alloc (.cells #[.bool t, .slice F fm fd] 33)))
 rw [F1.out] at hc
 try dsimp only at hc
 have HC := Lib.hid hc; clear hc
 go_wp2_with fail
 refine HC.out.mono ?_
 rintro e w_28 ⟨rfl, hb⟩
 clear HC
 clear z_12 z_13 z_14 z_15 z_16 z_17 z_18 z_19 z_20 z_21 z_22 z_23 z_24 z_25 z_26 z_27
 have hb_29 := Lib.hid hb
 clear hb
 replace ba_7 := kH ba_7 hb_29
 obtain ⟨z_30, z_31, z_32⟩ := at3 ba_7
 replace bb_8 := kH bb_8 hb_29
 obtain ⟨z_33, z_34, z_35⟩ := at3 bb_8
 replace bp_9 := kH bp_9 hb_29
 obtain ⟨z_36, z_37, z_38, z_39⟩ := at4 bp_9
 replace bx_10 := kH bx_10 hb_29
 obtain ⟨z_40, z_41, z_42, z_43⟩ := at4 bx_10
 replace bf_11 := kH bf_11 hb_29
 obtain ⟨z_44, z_45⟩ := at2 bf_11
 have hc := few3_any d C D n2 k2 m2 j2 (w_28)
 rw [F2.out] at hc
 try dsimp only at hc
 have HC := Lib.hid hc; clear hc
 go_wp2_with fail
 refine HC.out.mono ?_
 rintro e w_46 ⟨rfl, hb⟩
 clear HC
 clear z_30 z_31 z_32 z_33 z_34 z_35 z_36 z_37 z_38 z_39 z_40 z_41 z_42 z_43 z_44 z_45
 have hb_47 := Lib.hid hb
 clear hb
 replace ba_7 := kH ba_7 hb_47
 obtain ⟨z_48, z_49, z_50⟩ := at3 ba_7
 replace bb_8 := kH bb_8 hb_47
 obtain ⟨z_51, z_52, z_53⟩ := at3 bb_8
 replace bp_9 := kH bp_9 hb_47
 obtain ⟨z_54, z_55, z_56, z_57⟩ := at4 bp_9
 replace bx_10 := kH bx_10 hb_47
 obtain ⟨z_58, z_59, z_60, z_61⟩ := at4 bx_10
 replace bf_11 := kH bf_11 hb_47
 obtain ⟨z_62, z_63⟩ := at2 bf_11
 replace ra_2 := rH (rH ra_2 hb_29) hb_47
 replace rb_3 := rH (rH rb_3 hb_29) hb_47
 have hc := With_any c A B n k m j ws ts _ ra_2.out rb_3.out hn hm u xf xt xm xi
 rw [EQ.out] at hc
 unfold RetO at hc
 rw [EC.out, EW_.out, ET.out] at hc
 have hc := hc
 have HC := Lib.hid hc; clear hc
 go_wp2_with fail
 refine HC.out.mono ?_
 rintro e w_64 ⟨A1, n1_, k1_, B1, m1_, j1_, rfl, hra1, hrb1, hna1, hnb1, hb⟩
 clear HC
 clear z_48 z_49 z_50 z_51 z_52 z_53 z_54 z_55 z_56 z_57 z_58 z_59 z_60 z_61 z_62 z_63
 have hb_65 := Lib.hid hb
 clear hb
 have sa1_66 := Lib.hid (hra1)
 clear hra1
 have sb1_67 := Lib.hid (hrb1)
 clear hrb1
 replace ba_7 := kH ba_7 hb_65
 obtain ⟨z_68, z_69, z_70⟩ := at3 ba_7
 replace bb_8 := kH bb_8 hb_65
 obtain ⟨z_71, z_72, z_73⟩ := at3 bb_8
 replace bp_9 := kH bp_9 hb_65
 obtain ⟨z_74, z_75, z_76, z_77⟩ := at4 bp_9
 replace bx_10 := kH bx_10 hb_65
 obtain ⟨z_78, z_79, z_80, z_81⟩ := at4 bx_10
 replace bf_11 := kH bf_11 hb_65
 obtain ⟨z_82, z_83⟩ := at2 bf_11
 obtain ⟨o_, ho_⟩ : ∃ o, o = ((.cells #[.int .i64 cc, .slice A1 n1_ k1_, .slice B1 m1_ j1_] 24) : Obj) := ⟨_, rfl⟩
 replace bel_1 := bA (bH (bH (bH bel_1 hb_29) hb_47) hb_65) o_
 replace ra_2 := rA (rH ra_2 hb_65) o_
 replace rb_3 := rA (rH rb_3 hb_65) o_
 replace rc_4 := rA (rH (rH (rH rc_4 hb_29) hb_47) hb_65) o_
 replace rd_5 := rA (rH (rH (rH rd_5 hb_29) hb_47) hb_65) o_
 replace rf_6 := iA (iH (iH (iH rf_6 hb_29) hb_47) hb_65) o_
 replace ba_7 := kA ba_7 o_
 replace bb_8 := kA bb_8 o_
 replace bp_9 := kA bp_9 o_
 replace bx_10 := kA bx_10 o_
 replace bf_11 := kA bf_11 o_
 replace sa1_66 := rA sa1_66 o_
 replace sb1_67 := rA sb1_67 o_
 subst ho_
 have o1_84 := Lib.hid (Blk.new w_64 24 #[.int .i64 cc, .slice A1 n1_ k1_, .slice B1 m1_ j1_])
 obtain ⟨z_85, z_86, z_87⟩ := at3 ba_7
 obtain ⟨z_88, z_89, z_90⟩ := at3 bb_8
 obtain ⟨z_91, z_92, z_93, z_94⟩ := at4 bp_9
 obtain ⟨z_95, z_96, z_97, z_98⟩ := at4 bx_10
 obtain ⟨z_99, z_100⟩ := at2 bf_11
 obtain ⟨z_101, z_102, z_103⟩ := at3 o1_84
 have hc := rWith3_any c A B n k m j ws ts _ ra_2.out rb_3.out hn hm u xf xt xm xi
 rw [EQ.out] at hc
 unfold RetO at hc
 rw [EC.out, EW_.out, ET.out] at hc
 have hc := hc
 have HC := Lib.hid hc; clear hc
 go_wp2_with fail
 refine HC.out.mono ?_
 rintro e w_104 ⟨A2, n2_, k2_, B2, m2_, j2_, rfl, hra2, hrb2, hna2, hnb2, hb⟩
 clear HC
 clear z_68 z_69 z_70 z_71 z_72 z_73 z_74 z_75 z_76 z_77 z_78 z_79 z_80 z_81 z_82 z_83 z_85 z_86 z_87 z_88 z_89 z_90 z_91 z_92 z_93 z_94 z_95 z_96 z_97 z_98 z_99 z_100 z_101 z_102 z_103
 have hb_105 := Lib.hid hb
 clear hb
 have sa2_106 := Lib.hid (hra2)
 clear hra2
 have sb2_107 := Lib.hid (hrb2)
 clear hrb2
 replace ba_7 := kH ba_7 hb_105
 obtain ⟨z_108, z_109, z_110⟩ := at3 ba_7
 replace bb_8 := kH bb_8 hb_105
 obtain ⟨z_111, z_112, z_113⟩ := at3 bb_8
 replace bp_9 := kH bp_9 hb_105
 obtain ⟨z_114, z_115, z_116, z_117⟩ := at4 bp_9
 replace bx_10 := kH bx_10 hb_105
 obtain ⟨z_118, z_119, z_120, z_121⟩ := at4 bx_10
 replace bf_11 := kH bf_11 hb_105
 obtain ⟨z_122, z_123⟩ := at2 bf_11
 replace o1_84 := kH o1_84 hb_105
 obtain ⟨z_124, z_125, z_126⟩ := at3 o1_84
 obtain ⟨o_, ho_⟩ : ∃ o, o = ((.cells #[.int .i64 cc, .slice A2 n2_ k2_, .slice B2 m2_ j2_] 24) : Obj) := ⟨_, rfl⟩
 replace bel_1 := bA (bH bel_1 hb_105) o_
 replace ra_2 := rA (rH ra_2 hb_105) o_
 replace rb_3 := rA (rH rb_3 hb_105) o_
 replace rc_4 := rA (rH rc_4 hb_105) o_
 replace rd_5 := rA (rH rd_5 hb_105) o_
 replace rf_6 := iA (iH rf_6 hb_105) o_
 replace ba_7 := kA ba_7 o_
 replace bb_8 := kA bb_8 o_
 replace bp_9 := kA bp_9 o_
 replace bx_10 := kA bx_10 o_
 replace bf_11 := kA bf_11 o_
 replace sa1_66 := rA (rH sa1_66 hb_105) o_
 replace sb1_67 := rA (rH sb1_67 hb_105) o_
 replace o1_84 := kA o1_84 o_
 replace sa2_106 := rA sa2_106 o_
 replace sb2_107 := rA sb2_107 o_
 subst ho_
 have o2_127 := Lib.hid (Blk.new w_104 24 #[.int .i64 cc, .slice A2 n2_ k2_, .slice B2 m2_ j2_])
 obtain ⟨z_128, z_129, z_130⟩ := at3 ba_7
 obtain ⟨z_131, z_132, z_133⟩ := at3 bb_8
 obtain ⟨z_134, z_135, z_136, z_137⟩ := at4 bp_9
 obtain ⟨z_138, z_139, z_140, z_141⟩ := at4 bx_10
 obtain ⟨z_142, z_143⟩ := at2 bf_11
 obtain ⟨z_144, z_145, z_146⟩ := at3 o1_84
 obtain ⟨z_147, z_148, z_149⟩ := at3 o2_127
 have hc := CheckFlaw_any c A B n k m j ws ts _ ra_2.out rb_3.out hn hm t F fm fd x rf_6.out hfm
 rw [EV.out] at hc
 try dsimp only at hc
 have HC := Lib.hid hc; clear hc
 go_wp2_with fail
 refine HC.out.mono ?_
 rintro e w_150 ⟨rfl, hb⟩
 clear HC
 clear z_108 z_109 z_110 z_111 z_112 z_113 z_114 z_115 z_116 z_117 z_118 z_119 z_120 z_121 z_122 z_123 z_124 z_125 z_126 z_128 z_129 z_130 z_131 z_132 z_133 z_134 z_135 z_136 z_137 z_138 z_139 z_140 z_141 z_142 z_143 z_144 z_145 z_146 z_147 z_148 z_149
 have hb_151 := Lib.hid hb
 clear hb
 replace ba_7 := kH ba_7 hb_151
 obtain ⟨z_152, z_153, z_154⟩ := at3 ba_7
 replace bb_8 := kH bb_8 hb_151
 obtain ⟨z_155, z_156, z_157⟩ := at3 bb_8
 replace bp_9 := kH bp_9 hb_151
 obtain ⟨z_158, z_159, z_160, z_161⟩ := at4 bp_9
 replace bx_10 := kH bx_10 hb_151
 obtain ⟨z_162, z_163, z_164, z_165⟩ := at4 bx_10
 replace bf_11 := kH bf_11 hb_151
 obtain ⟨z_166, z_167⟩ := at2 bf_11
 replace o1_84 := kH o1_84 hb_151
 obtain ⟨z_168, z_169, z_170⟩ := at3 o1_84
 replace o2_127 := kH o2_127 hb_151
 obtain ⟨z_171, z_172, z_173⟩ := at3 o2_127
 replace ra_2 := rH ra_2 hb_151
 replace rb_3 := rH rb_3 hb_151
 replace rf_6 := iH rf_6 hb_151
 have hc := rCheckFlaw_any t c A B n k m j ws ts _ ra_2.out rb_3.out hn hm F fm fd x rf_6.out (by omega)
 rw [EV.out] at hc
 try dsimp only at hc
 have HC := Lib.hid hc; clear hc
 go_wp2_with fail
 refine HC.out.mono ?_
 rintro e w_174 ⟨rfl, hb⟩
 clear HC
 clear z_152 z_153 z_154 z_155 z_156 z_157 z_158 z_159 z_160 z_161 z_162 z_163 z_164 z_165 z_166 z_167 z_168 z_169 z_170 z_171 z_172 z_173
 have hb_175 := Lib.hid hb
 clear hb
 replace ba_7 := kH ba_7 hb_175
 obtain ⟨z_176, z_177, z_178⟩ := at3 ba_7
 replace bb_8 := kH bb_8 hb_175
 obtain ⟨z_179, z_180, z_181⟩ := at3 bb_8
 replace bp_9 := kH bp_9 hb_175
 obtain ⟨z_182, z_183, z_184, z_185⟩ := at4 bp_9
 replace bx_10 := kH bx_10 hb_175
 obtain ⟨z_186, z_187, z_188, z_189⟩ := at4 bx_10
 replace bf_11 := kH bf_11 hb_175
 obtain ⟨z_190, z_191⟩ := at2 bf_11
 replace o1_84 := kH o1_84 hb_175
 obtain ⟨z_192, z_193, z_194⟩ := at3 o1_84
 replace o2_127 := kH o2_127 hb_175
 obtain ⟨z_195, z_196, z_197⟩ := at3 o2_127
 clear z_176 z_177 z_178 z_179 z_180 z_181 z_182 z_183 z_184 z_185 z_186 z_187 z_188 z_189 z_190 z_191 z_192 z_193 z_194 z_195 z_196 z_197
 have h1_ : (qo == qo) = true := by simp
 have h2_ : (qp == qp) = true := by simp
 have h3_ : (q == q) = true := by simp
 have h4_ : (v1 == v1) = true := by simp
 have h5_ : (v2 == v2) = true := by simp
 go_upto_region 7 with fail
 replace bel_1 := bD (bH (bH bel_1 hb_151) hb_175)
 replace ra_2 := rD (rH ra_2 hb_175)
 replace rb_3 := rD (rH rb_3 hb_175)
 replace rc_4 := rD (rH (rH rc_4 hb_151) hb_175)
 replace rd_5 := rD (rH (rH rd_5 hb_151) hb_175)
 replace rf_6 := iD (iH rf_6 hb_175)
 replace ba_7 := kD ba_7
 replace bb_8 := kD bb_8
 replace bp_9 := kD bp_9
 replace bx_10 := kD bx_10
 replace bf_11 := kD bf_11
 replace sa1_66 := rD (rH (rH sa1_66 hb_151) hb_175)
 replace sb1_67 := rD (rH (rH sb1_67 hb_151) hb_175)
 replace o1_84 := kD o1_84
 replace sa2_106 := rD (rH (rH sa2_106 hb_151) hb_175)
 replace sb2_107 := rD (rH (rH sb2_107 hb_151) hb_175)
 replace o2_127 := kD o2_127
 refine wp_region_held_drew (S := (fun W' => Blk W' (w.heap.size) 24 #[.int .i64 c, .slice A n k, .slice B m j] ∧ Blk W' (w.heap.size + 1) 24 #[.int .i64 d, .slice C n2 k2, .slice D m2 j2] ∧ Blk W' (w.heap.size + 1 + 1) 28 #[.int .i64 p1, .int .i64 p2, .int .i64 p3, .int .i64 p4] ∧ Blk W' (w_64.heap.size) 24 #[.int .i64 cc, .slice A1 n1_ k1_, .slice B1 m1_ j1_] ∧ Blk W' (w_104.heap.size) 24 #[.int .i64 cc, .slice A2 n2_ k2_, .slice B2 m2_ j2_])) (by kernel_rfl) ⟨ba_7.out, bb_8.out, bp_9.out, o1_84.out, o2_127.out⟩ (fun _ => ?_)
 obtain ⟨w2918, hw2919⟩ : ∃ w', w' = (w_174.drew) := ⟨_, rfl⟩
 rw [← hw2919] at bel_1 ra_2 rb_3 rc_4 rd_5 rf_6 ba_7 bb_8 bp_9 bx_10 bf_11 sa1_66 sb1_67 o1_84 sa2_106 sb2_107 o2_127
 rw [← hw2919]
 clear hw2919
 try simp only [Act.put, qsA, qsZ, qsS]
 refine oneH 0 rfl fun K hK => ?_
 go_simp
 go_at_call 17
 refine (joined_any _).mono ?_
 rintro e w2920 ⟨rfl, hb2921⟩
 dsimp only
 replace hb2921 := Lib.hid hb2921
 replace ba_7 := kH ba_7 hb2921
 replace bb_8 := kH bb_8 hb2921
 replace bp_9 := kH bp_9 hb2921
 replace o1_84 := kH o1_84 hb2921
 replace o2_127 := kH o2_127 hb2921
 refine hK.out _ _ ⟨ba_7.out, bb_8.out, bp_9.out, o1_84.out, o2_127.out⟩ (fun _ => ?_); clear hK K
 try simp only [Act.put, qsA, qsZ, qsS]
 refine' twH 1 ⟨ba_7.out, bb_8.out, bp_9.out, o1_84.out, o2_127.out⟩ ?_
 refine' tkH 2 ⟨ba_7.out, bb_8.out, bp_9.out, o1_84.out, o2_127.out⟩ ?hyR2923 ?_
 case hyR2923 => (rintro W' ⟨hS0, hS1, hS2, hS3, hS4⟩; have hc0 := Blk.nth hS0 0; have hc1 := Blk.nth hS0 1; have hc2 := Blk.nth hS0 2; clear hS0 hS1 hS2 hS3 hS4; go_simp; try with_reducible rfl)
 refine' tkH 4 ⟨ba_7.out, bb_8.out, bp_9.out, o1_84.out, o2_127.out⟩ ?hyR2924 ?_
 case hyR2924 => (rintro W' ⟨hS0, hS1, hS2, hS3, hS4⟩; have hc0 := Blk.nth hS0 0; have hc1 := Blk.nth hS0 1; have hc2 := Blk.nth hS0 2; clear hS0 hS1 hS2 hS3 hS4; go_simp; try with_reducible rfl)
 try simp only [Act.put, qsA, qsZ, qsS]
 refine oneH 3 rfl fun K hK => ?_
 replace ra_2 := rH ra_2 hb2921
 replace rb_3 := rH rb_3 hb2921
 go_simp
 go_at_call 22
 refine (CheckOutline_is c A B n k m j ws ts _ ra_2.out rb_3.out hn hm EO.out).mono ?_
 rintro e w2925 ⟨rfl, hb2926⟩
 dsimp only
 replace hb2926 := Lib.hid hb2926
 replace ba_7 := kH ba_7 hb2926
 replace bb_8 := kH bb_8 hb2926
 replace bp_9 := kH bp_9 hb2926
 replace o1_84 := kH o1_84 hb2926
 replace o2_127 := kH o2_127 hb2926
 refine hK.out _ _ ⟨ba_7.out, bb_8.out, bp_9.out, o1_84.out, o2_127.out⟩ (fun _ => ?_); clear hK K
 try simp only [Act.put, qsA, qsZ, qsS]
 refine oneH 5 rfl fun K hK => ?_
 replace ra_2 := rH ra_2 hb2926
 replace rb_3 := rH rb_3 hb2926
 go_simp
 go_at_call 23
 refine (rCheckOutline_is c A B n k m j ws ts _ ra_2.out rb_3.out hn hm EO.out).mono ?_
 rintro e w2927 ⟨rfl, hb2928⟩
 dsimp only
 replace hb2928 := Lib.hid hb2928
 replace ba_7 := kH ba_7 hb2928
 replace bb_8 := kH bb_8 hb2928
 replace bp_9 := kH bp_9 hb2928
 replace o1_84 := kH o1_84 hb2928
 replace o2_127 := kH o2_127 hb2928
 refine hK.out _ _ ⟨ba_7.out, bb_8.out, bp_9.out, o1_84.out, o2_127.out⟩ (fun _ => ?_); clear hK K
 try simp only [Act.put, qsA, qsZ, qsS]
 refine' twH 6 ⟨ba_7.out, bb_8.out, bp_9.out, o1_84.out, o2_127.out⟩ ?_
 refine' twH 7 ⟨ba_7.out, bb_8.out, bp_9.out, o1_84.out, o2_127.out⟩ ?_
 refine' twH 8 ⟨ba_7.out, bb_8.out, bp_9.out, o1_84.out, o2_127.out⟩ ?_
 refine' tkH 9 ⟨ba_7.out, bb_8.out, bp_9.out, o1_84.out, o2_127.out⟩ ?hyR2932 ?_
 case hyR2932 => (rintro W' ⟨hS0, hS1, hS2, hS3, hS4⟩; have hc0 := Blk.nth hS0 0; have hc1 := Blk.nth hS0 1; have hc2 := Blk.nth hS0 2; clear hS0 hS1 hS2 hS3 hS4; go_simp; try with_reducible rfl)
 try simp only [Act.put, qsA, qsZ, qsS]
 refine' tkH 10 ⟨ba_7.out, bb_8.out, bp_9.out, o1_84.out, o2_127.out⟩ ?hyR2933 ?_
 case hyR2933 => (rintro W' ⟨hS0, hS1, hS2, hS3, hS4⟩; have hc0 := Blk.nth hS1 0; have hc1 := Blk.nth hS1 1; have hc2 := Blk.nth hS1 2; clear hS0 hS1 hS2 hS3 hS4; go_simp; try with_reducible rfl)
 refine' tkH 11 ⟨ba_7.out, bb_8.out, bp_9.out, o1_84.out, o2_127.out⟩ ?hyR2934 ?_
 case hyR2934 => (rintro W' ⟨hS0, hS1, hS2, hS3, hS4⟩; have hc0 := Blk.nth hS2 0; have hc1 := Blk.nth hS2 1; have hc2 := Blk.nth hS2 2; have hc3 := Blk.nth hS2 3; clear hS0 hS1 hS2 hS3 hS4; go_simp; try with_reducible rfl)
 refine' tkH 13 ⟨ba_7.out, bb_8.out, bp_9.out, o1_84.out, o2_127.out⟩ ?hyR2935 ?_
 case hyR2935 => (rintro W' ⟨hS0, hS1, hS2, hS3, hS4⟩; have hc0 := Blk.nth hS0 0; have hc1 := Blk.nth hS0 1; have hc2 := Blk.nth hS0 2; clear hS0 hS1 hS2 hS3 hS4; go_simp; try with_reducible rfl)
 refine' tkH 14 ⟨ba_7.out, bb_8.out, bp_9.out, o1_84.out, o2_127.out⟩ ?hyR2936 ?_
 case hyR2936 => (rintro W' ⟨hS0, hS1, hS2, hS3, hS4⟩; have hc0 := Blk.nth hS1 0; have hc1 := Blk.nth hS1 1; have hc2 := Blk.nth hS1 2; clear hS0 hS1 hS2 hS3 hS4; go_simp; try with_reducible rfl)
 try simp only [Act.put, qsA, qsZ, qsS]
 refine' tkH 15 ⟨ba_7.out, bb_8.out, bp_9.out, o1_84.out, o2_127.out⟩ ?hyR2937 ?_
 case hyR2937 => (rintro W' ⟨hS0, hS1, hS2, hS3, hS4⟩; have hc0 := Blk.nth hS2 0; have hc1 := Blk.nth hS2 1; have hc2 := Blk.nth hS2 2; have hc3 := Blk.nth hS2 3; clear hS0 hS1 hS2 hS3 hS4; go_simp; try with_reducible rfl)
 try simp only [Act.put, qsA, qsZ, qsS]
 refine oneH 12 rfl fun K hK => ?_
 replace ra_2 := rH ra_2 hb2928
 replace rb_3 := rH rb_3 hb2928
 replace rc_4 := rH (rH (rH rc_4 hb2921) hb2926) hb2928
 replace rd_5 := rH (rH (rH rd_5 hb2921) hb2926) hb2928
 go_simp
 go_at_call 24
 refine (CheckPairing_is c A B n k m j ws ts d C D n2 k2 m2 j2 ws2 ts2 p1 p2 p3 p4 _ ra_2.out rb_3.out hn hm rc_4.out rd_5.out hn2 hm2 EP.out).mono ?_
 rintro e w2938 ⟨rfl, hb2939⟩
 dsimp only
 replace hb2939 := Lib.hid hb2939
 replace ba_7 := kH ba_7 hb2939
 replace bb_8 := kH bb_8 hb2939
 replace bp_9 := kH bp_9 hb2939
 replace o1_84 := kH o1_84 hb2939
 replace o2_127 := kH o2_127 hb2939
 refine hK.out _ _ ⟨ba_7.out, bb_8.out, bp_9.out, o1_84.out, o2_127.out⟩ (fun _ => ?_); clear hK K
 try simp only [Act.put, qsA, qsZ, qsS]
 refine oneH 16 rfl fun K hK => ?_
 replace ra_2 := rH ra_2 hb2939
 replace rb_3 := rH rb_3 hb2939
 replace rc_4 := rH rc_4 hb2939
 replace rd_5 := rH rd_5 hb2939
 go_simp
 go_at_call 25
 refine (rCheckPairing_is c A B n k m j ws ts d C D n2 k2 m2 j2 ws2 ts2 p1 p2 p3 p4 _ ra_2.out rb_3.out hn hm rc_4.out rd_5.out hn2 hm2 EP.out).mono ?_
 rintro e w2940 ⟨rfl, hb2941⟩
 dsimp only
 replace hb2941 := Lib.hid hb2941
 replace ba_7 := kH ba_7 hb2941
 replace bb_8 := kH bb_8 hb2941
 replace bp_9 := kH bp_9 hb2941
 replace o1_84 := kH o1_84 hb2941
 replace o2_127 := kH o2_127 hb2941
 refine hK.out _ _ ⟨ba_7.out, bb_8.out, bp_9.out, o1_84.out, o2_127.out⟩ (fun _ => ?_); clear hK K
 try simp only [Act.put, qsA, qsZ, qsS]
 refine' twH 17 ⟨ba_7.out, bb_8.out, bp_9.out, o1_84.out, o2_127.out⟩ ?_
 refine' twH 18 ⟨ba_7.out, bb_8.out, bp_9.out, o1_84.out, o2_127.out⟩ ?_
 refine' twH 19 ⟨ba_7.out, bb_8.out, bp_9.out, o1_84.out, o2_127.out⟩ ?_
 refine' twH 20 ⟨ba_7.out, bb_8.out, bp_9.out, o1_84.out, o2_127.out⟩ ?_
 try simp only [Act.put, qsA, qsZ, qsS]
 refine' twH 21 ⟨ba_7.out, bb_8.out, bp_9.out, o1_84.out, o2_127.out⟩ ?_
 refine' twH 22 ⟨ba_7.out, bb_8.out, bp_9.out, o1_84.out, o2_127.out⟩ ?_
 refine' twH 23 ⟨ba_7.out, bb_8.out, bp_9.out, o1_84.out, o2_127.out⟩ ?_
 refine' twH 24 ⟨ba_7.out, bb_8.out, bp_9.out, o1_84.out, o2_127.out⟩ ?_
 try simp only [Act.put, qsA, qsZ, qsS]
 refine' tkH 25 ⟨ba_7.out, bb_8.out, bp_9.out, o1_84.out, o2_127.out⟩ ?hyR2950 ?_
 case hyR2950 => (rintro W' ⟨hS0, hS1, hS2, hS3, hS4⟩; have hc0 := Blk.nth hS3 0; have hc1 := Blk.nth hS3 1; have hc2 := Blk.nth hS3 2; clear hS0 hS1 hS2 hS3 hS4; go_simp; try with_reducible rfl)
 refine' tkH 26 ⟨ba_7.out, bb_8.out, bp_9.out, o1_84.out, o2_127.out⟩ ?hyR2951 ?_
 case hyR2951 => (rintro W' ⟨hS0, hS1, hS2, hS3, hS4⟩; have hc0 := Blk.nth hS4 0; have hc1 := Blk.nth hS4 1; have hc2 := Blk.nth hS4 2; clear hS0 hS1 hS2 hS3 hS4; go_simp; try with_reducible rfl)
 try simp only [Act.put, qsA, qsZ, qsS]
 refine oneH 27 rfl fun K hK => ?_
 replace sa1_66 := rH (rH (rH (rH (rH sa1_66 hb2921) hb2926) hb2928) hb2939) hb2941
 replace sb1_67 := rH (rH (rH (rH (rH sb1_67 hb2921) hb2926) hb2928) hb2939) hb2941
 replace sa2_106 := rH (rH (rH (rH (rH sa2_106 hb2921) hb2926) hb2928) hb2939) hb2941
 replace sb2_107 := rH (rH (rH (rH (rH sb2_107 hb2921) hb2926) hb2928) hb2939) hb2941
 go_simp
 go_at_call 26
 refine (SameO_true cc A1 B1 A2 B2 n1_ k1_ m1_ j1_ n2_ k2_ m2_ j2_ lw lt _ sa1_66.out sb1_67.out hna1 hnb1 sa2_106.out sb2_107.out).mono ?_
 rintro e w2952 ⟨rfl, hb2953⟩
 dsimp only
 replace hb2953 := Lib.hid hb2953
 replace ba_7 := kH ba_7 hb2953
 replace bb_8 := kH bb_8 hb2953
 replace bp_9 := kH bp_9 hb2953
 replace o1_84 := kH o1_84 hb2953
 replace o2_127 := kH o2_127 hb2953
 refine hK.out _ _ ⟨ba_7.out, bb_8.out, bp_9.out, o1_84.out, o2_127.out⟩ (fun _ => ?_); clear hK K
 try simp only [Act.put, qsA, qsZ, qsS]
 refine' twH 28 ⟨ba_7.out, bb_8.out, bp_9.out, o1_84.out, o2_127.out⟩ ?_
 refine' twH 29 ⟨ba_7.out, bb_8.out, bp_9.out, o1_84.out, o2_127.out⟩ ?_
 refine' twH 30 ⟨ba_7.out, bb_8.out, bp_9.out, o1_84.out, o2_127.out⟩ ?_
 refine' twH 31 ⟨ba_7.out, bb_8.out, bp_9.out, o1_84.out, o2_127.out⟩ ?_
 try simp only [Act.put, qsA, qsZ, qsS]
 refine' twH 32 ⟨ba_7.out, bb_8.out, bp_9.out, o1_84.out, o2_127.out⟩ ?_
 refine' twH 33 ⟨ba_7.out, bb_8.out, bp_9.out, o1_84.out, o2_127.out⟩ ?_
 refine' twH 34 ⟨ba_7.out, bb_8.out, bp_9.out, o1_84.out, o2_127.out⟩ ?_
 refine' twH 35 ⟨ba_7.out, bb_8.out, bp_9.out, o1_84.out, o2_127.out⟩ ?_
 try simp only [Act.put, qsA, qsZ, qsS]
 refine' twH 36 ⟨ba_7.out, bb_8.out, bp_9.out, o1_84.out, o2_127.out⟩ ?_
 refine' twH 37 ⟨ba_7.out, bb_8.out, bp_9.out, o1_84.out, o2_127.out⟩ ?_
 refine' twH 38 ⟨ba_7.out, bb_8.out, bp_9.out, o1_84.out, o2_127.out⟩ ?_
 refine' twH 39 ⟨ba_7.out, bb_8.out, bp_9.out, o1_84.out, o2_127.out⟩ ?_
 try simp only [Act.put, qsA, qsZ, qsS]
 refine wpAnyH_done (by kernel_rfl) ?_ _
 go_wp2
 go_ret
 replace bel_1 := bH (bH (bH (bH (bH (bH bel_1 hb2921) hb2926) hb2928) hb2939) hb2941) hb2953
 exact ⟨rfl, bel_1.out⟩
set_option maxRecDepth 100000 in
theorem xo_walk (w : World) (c : Int) (A : Option Addr) (n k : Nat) (B : Option Addr) (m j : Nat) (ws ts : List Bnd) (_ : (Lit.int .i64 c).wf = true) (h1 : RdB w A n k ws) (h2 : RdB w B m j ts) (hn : n ≤ maxLen) (hm : m ≤ maxLen) (d : Int) (C : Option Addr) (n2 k2 : Nat) (D : Option Addr) (m2 j2 : Nat) (ws2 ts2 : List Bnd) (_ : (Lit.int .i64 d).wf = true) (h3 : RdB w C n2 k2 ws2) (h4 : RdB w D m2 j2 ts2) (hn2 : n2 ≤ maxLen) (hm2 : m2 ≤ maxLen) (p1 p2 p3 p4 : Int) (u : Bool) (xf xt xm xi : Int) (t : Bool) (F : Option Addr) (fm fd : Nat) (x : List Int) (hf : RdI w F fm fd x) (hfm : fm ≤ maxLen) : Calls Tryz.prog 3 #[.agg #[.int .i64 c, .slice A n k, .slice B m j], .agg #[.int .i64 d, .slice C n2 k2, .slice D m2 j2], .agg #[.int .i64 p1, .int .i64 p2, .int .i64 p3, .int .i64 p4], .bool u, .agg #[.int .i64 xf, .int .i64 xt, .int .i64 xm, .int .i64 xi], .agg #[.bool t, .slice F fm fd]] w fun e w' => e = .returned (.bool true) ∧ Below w.heap.size w w' := by
 cases hf1 : fewB n m
 · exact xo_a c A B n k m j ws ts d C D n2 k2 m2 j2 ws2 ts2 p1 p2 p3 p4 w h1 h2 hn hm h3 h4 hn2 hm2 u xf xt xm xi t F fm fd x hf hfm (Lib.hid hf1)
 · cases hf2 : fewB n2 m2
   · exact xo_b c A B n k m j ws ts d C D n2 k2 m2 j2 ws2 ts2 p1 p2 p3 p4 w h1 h2 hn hm h3 h4 hn2 hm2 u xf xt xm xi t F fm fd x hf hfm (Lib.hid hf1) (Lib.hid hf2)
   · by_cases hl : (100 : Int) < fm
     · exact xo_f c A B n k m j ws ts d C D n2 k2 m2 j2 ws2 ts2 p1 p2 p3 p4 w h1 h2 hn hm h3 h4 hn2 hm2 u xf xt xm xi t F fm fd x hf hfm (Lib.hid hf1) (Lib.hid hf2) hl
     · exact xo_ok c A B n k m j ws ts d C D n2 k2 m2 j2 ws2 ts2 p1 p2 p3 p4 w h1 h2 hn hm h3 h4 hn2 hm2 u xf xt xm xi t F fm fd x hf hfm (Lib.hid hf1) (Lib.hid hf2) hl _ (Lib.hid rfl) _ _ _ (Lib.hid rfl) (Lib.hid rfl) (Lib.hid rfl) _ _ (Lib.hid rfl) _ (Lib.hid rfl) _ (Lib.hid rfl)
set_option maxRecDepth 100000 in
theorem edgeOutlines_lifted (os : Os) (started : os.Started) (H : Type) (enc : TypeId × Value → H) :
 ReturnsInHanded {} Tryz.checked os 3 .any (Rows.edgeOutlinesSpec.pre6 enc Tryz.prog Tryz.f3 Rows.edgeOutlinesRow.domain false) (Rows.edgeOutlinesSpec.post enc Tryz.prog Tryz.f3 false true false false) := by
 refine returnsInHanded_of_change (C := Tryz.checked) Law.own started (by kernel_rfl) Tryz.func3
  (ChangeSpec.witness6 (enc := enc) (C := Tryz.checked) false ⟨#[], #[.agg #[.int .i64 0, .slice none 0 0, .slice none 0 0], .agg #[.int .i64 0, .slice none 0 0, .slice none 0 0], .agg #[.int .i64 0, .int .i64 0, .int .i64 0, .int .i64 0], .bool false, .agg #[.int .i64 0, .int .i64 0, .int .i64 0, .int .i64 0], .agg #[.bool false, .slice none 0 0]], []⟩ 8 (by kernel_rfl) (by kernel_rfl) (by kernel_rfl) (by kernel_rfl)) ?_
 intro W base args ds gs before hval0 hW hcnd _
 have hval : ∀ (j : Nat) t v, Tryz.f3.params[j]? = some t → args[j]? = some v → Value.okWide Tryz.prog W .any base t v := hval0
 have hW' := hW
 obtain ⟨p, q, hA0, hV, rfl, hfz, hnd⟩ := hW
 have hA : DataW.TrodAll enc Tryz.prog W 0 (fun _ => true) true Tryz.f3.params.toList args.toList ds p := hA0
 rw [Tryz.params3] at hA hval
 obtain ⟨v0, vs0, d0, ds0, p0, q0, hargs, rfl, rfl, h0, r0⟩ := trodAll_cons hA
 obtain ⟨v1, vs1, d1, ds1, p1, q1, rfl, rfl, rfl, h1, r1⟩ := trodAll_cons r0
 obtain ⟨v2, vs2, d2, ds2, p2, q2, rfl, rfl, rfl, h2, r2⟩ := trodAll_cons r1
 obtain ⟨v3, vs3, d3, ds3, p3, q3, rfl, rfl, rfl, h3, r3⟩ := trodAll_cons r2
 obtain ⟨v4, vs4, d4, ds4, p4, q4, rfl, rfl, rfl, h4, r4⟩ := trodAll_cons r3
 obtain ⟨v5, vs5, d5, ds5, p5, q5, rfl, rfl, rfl, h5, r5⟩ := trodAll_cons r4
 obtain ⟨rfl, rfl, rfl⟩ := trodAll_nil r5
 obtain rfl : args = #[v0, v1, v2, v3, v4, v5] := by cases args; simp_all
 obtain ⟨rfl, rfl⟩ := trodVars_none hV
 have k0 := h0
 have lt0 : ∀ x ∈ p0, x.block < W.heap.size := by obtain ⟨m, hm⟩ := k0; exact DataW.trod_lt m _ _ _ hm
 obtain ⟨c0, A0, n0, k0', B0, m0, j0, ws0, ts0, rfl, w0, ra0, rb0, xa0, xb0⟩ := open_outl (hval 0 24 v0 rfl rfl) h0
 have k1 := h1
 have lt1 : ∀ x ∈ p1, x.block < W.heap.size := by obtain ⟨m, hm⟩ := k1; exact DataW.trod_lt m _ _ _ hm
 obtain ⟨c1, A1, n1, k1', B1, m1, j1, ws1, ts1, rfl, w1, ra1, rb1, xa1, xb1⟩ := open_outl (hval 1 24 v1 rfl rfl) h1
 have k2 := h2
 have lt2 : ∀ x ∈ p2, x.block < W.heap.size := by obtain ⟨m, hm⟩ := k2; exact DataW.trod_lt m _ _ _ hm
 obtain ⟨f2, t2, m2, i2, rfl⟩ := open_pair (hval 2 28 v2 rfl rfl) h2
 obtain ⟨a3, rfl, rfl, rfl⟩ := open_bool Tryz.underlying4 (hval 3 4 v3 rfl rfl) h3
 have k4 := h4
 have lt4 : ∀ x ∈ p4, x.block < W.heap.size := by obtain ⟨m, hm⟩ := k4; exact DataW.trod_lt m _ _ _ hm
 obtain ⟨f4, t4, m4, i4, rfl⟩ := open_bound (hval 4 30 v4 rfl rfl) h4
 have k5 := h5
 have lt5 : ∀ x ∈ p5, x.block < W.heap.size := by obtain ⟨m, hm⟩ := k5; exact DataW.trod_lt m _ _ _ hm
 obtain ⟨t5, A5, n5, c5, l5, rfl, rd5, mx5⟩ := open_flaw (hval 5 33 v5 rfl rfl) h5
 clear hA0 hval0
 refine (xo_walk W c0 A0 n0 k0' B0 m0 j0 ws0 ts0 w0 ra0 rb0 xa0 xb0 c1 A1 n1 k1' B1 m1 j1 ws1 ts1 w1 ra1 rb1 xa1 xb1 f2 t2 m2 i2 a3 f4 t4 m4 i4 t5 A5 n5 c5 l5 rd5 mx5).mono fun e W' ⟨he, bel⟩ => ?_
 subst he
 exact ⟨_, rfl, _, _, _, [], _, [], hW', trodAll_mk1 (shut_bool Tryz.underlying4 _), (trodAll_cons_mk (Below.trod Law.laidOut (by kernel_rfl) (of_decide_eq_true (by kernel_rfl)) k0 bel lt0) (trodAll_cons_mk (Below.trod Law.laidOut (by kernel_rfl) (of_decide_eq_true (by kernel_rfl)) k1 bel lt1) (trodAll_cons_mk (Below.trod Law.laidOut (by kernel_rfl) (of_decide_eq_true (by kernel_rfl)) k2 bel lt2) (trodAll_cons_mk (shut_bool Tryz.underlying4 a3) (trodAll_cons_mk (Below.trod Law.laidOut (by kernel_rfl) (of_decide_eq_true (by kernel_rfl)) k4 bel lt4) (trodAll_cons_mk (Below.trod Law.laidOut (by kernel_rfl) (of_decide_eq_true (by kernel_rfl)) k5 bel lt5) trodAll_mk0)))))), rfl, bel.frame _, fun h => by cases h⟩
theorem edgeOutlines_over : Rows.edgeOutlinesRow.holds Tryz.pinned (OpenSpec.ofChange Rows.edgeOutlinesSpec) :=
 OpenClaim.holds_of_wide 3 Tryz.f3 rfl rfl rfl rfl rfl rfl rfl ⟨rfl, rfl, rfl, rfl, rfl⟩ rfl rfl rfl rfl rfl (by kernel_rfl) Tryz.func3 (by kernel_rfl)
  (of_decide_eq_true (by kernel_rfl)) (by unfold Func.isWrapper; first | (rw [if_pos (by decide +kernel)]; kernel_rfl) | (rw [if_neg (by decide +kernel)]; exact ⟨rfl, rfl⟩))
  (fun os started H enc _ => edgeOutlines_lifted os started H enc)
theorem edgeOutlines_proved : Rows.EdgeOutlinesSaid := edgeOutlines_over
end Go.Proofs.YtaoanagmgheicaaGreat
