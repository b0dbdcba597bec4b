import Derived.Shelf.Slices.Reverse
import Derived.Sort.OwnSortedInts
import Derived.Test.YtjjmifcjailpaaaGreatTEnds
import Derived.Deep.DeepCutAuto
import Derived.Deep.OwnRows
import Derived.Laws.AppendOwnNone
import Derived.Lib.SmallJoins
import Derived.Maps.OwnIn
import Derived.Shelf.SlIterI.Nil
import Derived.Shelf.SortM.Plain
import Derived.Shelf.SortM.SortNone
set_option linter.unusedSimpArgs false
set_option linter.unusedVariables false
namespace Go.Proofs.YtjjmifcjailpaaaGreat
open Go.RowKit
attribute [local go_sem] Oper.semAt_some
def KeepQ (Bs Br : Nat) (W W' : World) : Prop := W.heap.size ≤ W'.heap.size ∧ W'.heap[Bs]? = W.heap[Bs]? ∧ W'.heap[Br]? = W.heap[Br]?
theorem KeepQ.refl (Bs Br : Nat) (W : World) : KeepQ Bs Br W W := ⟨Nat.le_refl _, rfl, rfl⟩
theorem KeepQ.trans {Bs Br : Nat} {A B C : World} (h : KeepQ Bs Br A B) (k : KeepQ Bs Br B C) : KeepQ Bs Br A C := ⟨Nat.le_trans h.1 k.1, k.2.1.trans h.2.1, k.2.2.trans h.2.2⟩
theorem RdI.move {w W : World} {A : Option Addr} {n c : Nat} {x : List Int} (h : RdI w A n c x) {Br : Nat} (hA : ∀ b o, A = some ⟨b, o, none⟩ → b = Br) (hsz : w.heap.size ≤ W.heap.size) (hb : W.heap[Br]? = w.heap[Br]?) : RdI W A n c x := by
 refine ⟨h.len, h.cap, h.nil, ?_⟩
 rcases h.cells with h1 | ⟨b, o, e, hlt, hc⟩
 · exact .inl h1
 · obtain rfl := hA b o e
   refine .inr ⟨b, o, e, by omega, fun j u hu => ?_⟩
   rw [← hc j u hu]
   simp [World.cell?, hb]
end Go.Proofs.YtjjmifcjailpaaaGreat
/- slices.Reverse at numbers, and slices.Backward itself. -/
namespace Go.Proofs.YtjjmifcjailpaaaGreat
open Go.RowKit Go.Shelf Go.Sort
end Go.Proofs.YtjjmifcjailpaaaGreat
set_option linter.unusedSimpArgs false
set_option linter.unusedVariables false
namespace Go.Proofs.YtjjmifcjailpaaaGreat
open Go.ChangeShapes Go.WideShapes Go.ChangeAt Go.RowKit
set_option maxRecDepth 100000
theorem Law.own : ownKnob Tryz.prog.godebug = none := by kernel_rfl
theorem Law.laidOut : laidOutB Tryz.prog = true := by kernel_rfl
theorem add_flat (b o k : Nat) : (⟨b, o, none⟩ : Addr).add k = ⟨b, o + k, none⟩ := by
 unfold Addr.add
 split
 · rename_i h; subst h; rfl
 · rfl
section
variable {H : Type} {enc : TypeId × Value → H} {W : World} {base : Nat} {sp : Nat → Bool} {held : Bool}
theorem cell_low {a : Addr} {v : Value} (h : W.cell? a = some v) : a.block < W.heap.size := by
 by_cases hb : a.block < W.heap.size
 · exact hb
 · exfalso
   have e : W.heap[a.block]? = none := by simp; omega
   simp [World.cell?, e] at h
theorem one_bound {m : Nat} {cs : List Value} {x : DataW H × List MemPlace} (h : DataW.trod enc Tryz.prog W base sp held m 70 cs = some x) (hl : cs.length = 4) : ∃ b : Bnd, cs = b.cells := by
 obtain ⟨y0, y1, y2, y3, k, -, -, h0, h1, h2, h3⟩ := Go.Joins.trod_struct4 Tryz.underlying70 h
 match cs, hl with
 | [c0, c1, c2, c3], _ =>
  have k1 : Tryz.prog.cellsOf 3 = 1 := by kernel_rfl
  simp only [k1, List.drop_zero, List.take_succ_cons, List.take_zero, List.drop_succ_cons] at h0 h1 h2 h3
  obtain ⟨a0, e0, -, -⟩ := DataW.trod_int Tryz.underlying3 h0
  obtain ⟨a1, e1, -, -⟩ := DataW.trod_int Tryz.underlying3 h1
  obtain ⟨a2, e2, -, -⟩ := DataW.trod_int Tryz.underlying3 h2
  obtain ⟨a3, e3, -, -⟩ := DataW.trod_int Tryz.underlying3 h3
  simp only [List.cons.injEq, and_true] at e0 e1 e2 e3
  subst e0 e1 e2 e3
  exact ⟨⟨a0, a1, a2, a3⟩, rfl⟩
theorem open_bounds {m : Nat} {v : Value} {x : DataW H × List MemPlace} (h : DataW.trod enc Tryz.prog W base sp held m 22 [v] = some x) : ∃ A n c l, v = .slice A n c ∧ RdB W A n c l ∧ n ≤ maxLen := by
 have hC : Tryz.prog.cellsOf 70 = 4 := by kernel_rfl
 rcases Go.Deep.open_slice Tryz.underlying22 h with ⟨hcs, -⟩ | ⟨a, len, cap, m', n, D, Pl, hcs, hb, hl, hm, hmm, hx, hi⟩
 · simp only [List.cons.injEq, and_true] at hcs
   exact ⟨none, 0, 0, [], hcs, ⟨rfl, Nat.le_refl _, fun _ => ⟨rfl, rfl⟩, .inl rfl⟩, Nat.zero_le _⟩
 · simp only [List.cons.injEq, and_true] at hcs
   have hle : len ≤ m' := by rw [hmm]; split <;> omega
   rw [hC] at hi
   obtain ⟨X, hX⟩ := Go.Deep.choose_lt (α := Bnd) (n := len) (p := fun i b => ∀ j, j < 4 → W.cell? (a.add (i * 4 + j)) = b.cells[j]?) (fun i hil => by
    obtain ⟨cs', g1, g2⟩ := hi i (by omega)
    obtain ⟨-, g3, g4⟩ := World.cells?_some g1
    obtain ⟨b, rfl⟩ := one_bound g2 g3
    refine ⟨b, fun j hj => ?_⟩
    have := g4 j hj
    rw [Go.Deep.add_add] at this
    exact this)
   refine ⟨some a, len, cap, (List.range len).map X, hcs, ⟨by simp, hl, (fun h => by cases h), ?_⟩, by omega⟩
   by_cases h0 : len = 0
   · subst h0; exact .inl rfl
   · obtain ⟨ab, ao, asp⟩ := a
     have z := hX 0 (by omega) 0 (by omega)
     have hs : asp = none := by simpa [Addr.add] using World.cell?_spot (z.trans (show (X 0).cells[0]? = some (.int .i64 (X 0).f) from rfl))
     subst hs
     have hlt : ab < W.heap.size := by simpa [Addr.add] using cell_low (z.trans (show (X 0).cells[0]? = some (.int .i64 (X 0).f) from rfl))
     refine .inr ⟨ab, ao, rfl, hlt, fun j u hu => ?_⟩
     have hj : j < len * 4 := by
      have := (List.getElem?_eq_some_iff.1 hu).1
      rw [bcells_length] at this
      simpa using this
     have e : j / 4 * 4 + j % 4 = j := by omega
     have hlk : ((List.range len).map X)[j / 4]? = some (X (j / 4)) := by
      rw [List.getElem?_map, List.getElem?_range (by omega)]
      rfl
     have h1 := bcells_get ((List.range len).map X) (j / 4) (j % 4) _ hlk (Nat.mod_lt _ (by omega))
     rw [e] at h1
     have h2 := hX (j / 4) (by omega) (j % 4) (Nat.mod_lt _ (by omega))
     rw [e, add_flat] at h2
     rw [h2, ← h1, hu]
end
end Go.Proofs.YtjjmifcjailpaaaGreat
