import Derived.Test.YtaoanagmgheicaaGreatSEAlive
import Derived.Test.YtaoanagmgheicaaGreatSOpen
set_option linter.unusedSimpArgs false
set_option linter.unusedVariables false
namespace Go.Proofs.YtaoanagmgheicaaGreat
open Go.RowKit
set_option maxRecDepth 100000 in
set_option maxHeartbeats 4000000 in
theorem small3_any (c : Int) (A B : Option Addr) (n k m j : Nat) (d : Int) (C D : Option Addr) (n2 k2 m2 j2 : Nat) (g : Nat) (w : World) (hb : Blk w g 24 #[.int .i64 c, .slice A n k, .slice B m j, .int .i64 d, .slice C n2 k2, .slice D m2 j2]) :
 Calls Tryz.prog 30 #[.slice (some ⟨g, 0, none⟩) 2 2] w fun e w' => e = .returned (.bool (decide (n ≤ 40) && decide (m ≤ 40) && decide (n2 ≤ 40) && decide (m2 ≤ 40))) ∧ Below w.heap.size w w' := by
 have HB := Lib.hid hb; clear hb
 go_enter Tryz.func30, Tryz.ntmps30
 go_wp2
 go_loopw [3] (fun i wr => (i = .int .i64 0 ∨ (i = .int .i64 1 ∧ n ≤ 40 ∧ m ≤ 40) ∨ (i = .int .i64 2 ∧ n ≤ 40 ∧ m ≤ 40 ∧ n2 ≤ 40 ∧ m2 ≤ 40)) ∧ Blk wr g 24 #[.int .i64 c, .slice A n k, .slice B m j, .int .i64 d, .slice C n2 k2, .slice D m2 j2] ∧ Below w.heap.size w wr) (fun i _ => 2 - (intOf i).toNat)
 case atStart => exact ⟨.inl rfl, HB.out, Below.refl _ _⟩
 case round =>
  obtain ⟨hi, hb, hbe⟩ := hrel
  have c0 : wr.cell? ⟨g, 0, none⟩ = some (.int .i64 c) := hb.cell 0
  have c1 : wr.cell? ⟨g, 1, none⟩ = some (.slice A n k) := hb.cell 1
  have c2 : wr.cell? ⟨g, 2, none⟩ = some (.slice B m j) := hb.cell 2
  have c3 : wr.cell? ⟨g, 3, none⟩ = some (.int .i64 d) := hb.cell 3
  have c4 : wr.cell? ⟨g, 4, none⟩ = some (.slice C n2 k2) := hb.cell 4
  have c5 : wr.cell? ⟨g, 5, none⟩ = some (.slice D m2 j2) := hb.cell 5
  have hlt := hb.lt; have HBB := Lib.hid hb; have HBE := Lib.hid hbe; clear hb hbe
  rcases hi with rfl | ⟨rfl, k1, k2⟩ | ⟨rfl, k1, k2, k3, k4⟩
  · by_cases hx : n ≤ 40
    · have hx' : ¬ (40 : Int) < n := by omega
      by_cases hy : m ≤ 40
      · have hy' : ¬ (40 : Int) < m := by omega
        go_wp2
        go_roundw
        case rel => exact ⟨.inr (.inl ⟨rfl, hx, hy⟩), HBB.out, HBE.out⟩
        case measure => simp [intOf]
      · have hy' : (40 : Int) < m := by omega
        go_wp2
        go_ret
        exact ⟨ret_bool (by simp [hx, hy]), HBE.out⟩
    · have hx' : (40 : Int) < n := by omega
      go_wp2
      go_ret
      exact ⟨ret_bool (by simp [hx]), HBE.out⟩
  · by_cases hx : n2 ≤ 40
    · have hx' : ¬ (40 : Int) < n2 := by omega
      by_cases hy : m2 ≤ 40
      · have hy' : ¬ (40 : Int) < m2 := by omega
        go_wp2
        go_roundw
        case rel => exact ⟨.inr (.inr ⟨rfl, k1, k2, hx, hy⟩), HBB.out, HBE.out⟩
        case measure => simp [intOf]
      · have hy' : (40 : Int) < m2 := by omega
        go_wp2
        go_ret
        exact ⟨ret_bool (by simp [k1, k2, hx, hy]), HBE.out⟩
    · have hx' : (40 : Int) < n2 := by omega
      go_wp2
      go_ret
      exact ⟨ret_bool (by simp [k1, k2, hx]), HBE.out⟩
  · go_wp2
    go_ret
    exact ⟨ret_bool (by simp [k1, k2, k3, k4]), HBE.out⟩
end Go.Proofs.YtaoanagmgheicaaGreat
set_option linter.unusedSimpArgs false
set_option linter.unusedVariables false
namespace Go.Proofs.YtaoanagmgheicaaGreat
open Go.ChangeShapes Go.WideShapes Go.ChangeAt Go.RowKit
set_option maxRecDepth 100000
section
variable {H : Type} {enc : TypeId × Value → H} {W : World} {base : Nat} {sp : Nat → Bool} {held : Bool}
theorem open_bound {r : Reach} {b0 : Nat} {v : Value} {d : DataW H} {p : List MemPlace} (hv : Value.okWide Tryz.prog W r b0 30 v) (h : DataW.Trod enc Tryz.prog W base sp held 30 v d p) :
 ∃ f t m i, v = .agg #[.int .i64 f, .int .i64 t, .int .i64 m, .int .i64 i] := by
 obtain ⟨v0, v1, v2, v3, y0, y1, y2, y3, m, rfl, -, -, h0, h1, h2, h3⟩ := Go.Joins.open_agg4 Tryz.underlying30 (by kernel_rfl) (by kernel_rfl) hv h
 obtain ⟨a0, e0, -, -⟩ := DataW.trod_int Tryz.underlying3 h0
 obtain ⟨a1, e1, -, -⟩ := DataW.trod_int Tryz.underlying3 h1
 obtain ⟨a2, e2, -, -⟩ := DataW.trod_int Tryz.underlying3 h2
 obtain ⟨a3, e3, -, -⟩ := DataW.trod_int Tryz.underlying3 h3
 simp only [List.cons.injEq, and_true] at e0 e1 e2 e3
 subst e0 e1 e2 e3
 exact ⟨a0, a1, a2, a3, rfl⟩
end
end Go.Proofs.YtaoanagmgheicaaGreat
set_option linter.unusedSimpArgs false
set_option linter.unusedVariables false
namespace Go.Proofs.YtaoanagmgheicaaGreat
open Go.ChangeShapes Go.WideShapes Go.ChangeAt Go.RowKit
set_option maxRecDepth 100000
section
variable {H : Type} {enc : TypeId × Value → H} {W : World} {base : Nat} {sp : Nat → Bool} {held : Bool}
theorem open_outl {r : Reach} {b0 : Nat} {v : Value} {d : DataW H} {p : List MemPlace} (hv : Value.okWide Tryz.prog W r b0 24 v) (h : DataW.Trod enc Tryz.prog W base sp held 24 v d p) :
 ∃ c A n k B m j ws ts, v = .agg #[.int .i64 c, .slice A n k, .slice B m j] ∧ (Lit.int .i64 c).wf = true ∧ RdB W A n k ws ∧ RdB W B m j ts ∧ n ≤ maxLen ∧ m ≤ maxLen := by
 obtain ⟨v0, v1, v2, y0, y1, y2, fu, rfl, -, -, h0, h1, h2⟩ := Go.Joins.open_agg3 Tryz.underlying24 (by kernel_rfl) (by kernel_rfl) hv h
 obtain ⟨P, e0, -, wp⟩ := DataW.trod_int Tryz.underlying3 h0
 simp only [List.cons.injEq, and_true] at e0
 obtain ⟨A, n, k, ws, rfl, hr, hm⟩ := open_bounds h1
 obtain ⟨B, m, j, ts, rfl, hr2, hm2⟩ := open_bounds h2
 exact ⟨P, A, n, k, B, m, j, ws, ts, by rw [e0], wp, hr, hr2, hm, hm2⟩
theorem open_pair {r : Reach} {b0 : Nat} {v : Value} {d : DataW H} {p : List MemPlace} (hv : Value.okWide Tryz.prog W r b0 28 v) (h : DataW.Trod enc Tryz.prog W base sp held 28 v d p) :
 ∃ f t m i, v = .agg #[.int .i64 f, .int .i64 t, .int .i64 m, .int .i64 i] := by
 obtain ⟨cs, rfl, hsz⟩ := okWide_struct Tryz.underlying28 hv
 obtain ⟨c0, c1, c2, c3, rfl⟩ := Go.Joins.array4 (hsz.trans (by kernel_rfl))
 obtain ⟨fuel, hf⟩ := h
 obtain ⟨y0, y1, fu, -, -, h0, h1⟩ := trod_struct2 Tryz.underlying28 hf
 have k2 : Tryz.prog.cellsOf 26 = 2 := by kernel_rfl
 have k1 : Tryz.prog.cellsOf 3 = 1 := by kernel_rfl
 simp only [Value.cells, k2, List.drop_zero, List.take_succ_cons, List.take_zero, List.drop_succ_cons] at h0 h1
 obtain ⟨z0, z1, f1, -, -, g0, g1⟩ := trod_struct2 Tryz.underlying26 h0
 obtain ⟨z2, z3, f2, -, -, g2, g3⟩ := trod_struct2 Tryz.underlying26 h1
 simp only [k1, List.drop_zero, List.take_succ_cons, List.take_zero, List.drop_succ_cons] at g0 g1 g2 g3
 obtain ⟨a0, e0, -, -⟩ := DataW.trod_int Tryz.underlying3 g0
 obtain ⟨a1, e1, -, -⟩ := DataW.trod_int Tryz.underlying3 g1
 obtain ⟨a2, e2, -, -⟩ := DataW.trod_int Tryz.underlying3 g2
 obtain ⟨a3, e3, -, -⟩ := DataW.trod_int Tryz.underlying3 g3
 simp only [List.cons.injEq, and_true] at e0 e1 e2 e3
 subst e0 e1 e2 e3
 exact ⟨a0, a1, a2, a3, rfl⟩
end
end Go.Proofs.YtaoanagmgheicaaGreat
