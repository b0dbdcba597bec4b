import Derived.Test.YtaoanagmgheicaaGreatSMem
import Derived.BigQuiet
import Derived.Test.YtaoanagmgheicaaGreatSEnds
import Derived.Test.YtaoanagmgheicaaGreatSJoined
import Derived.Laws.AppendOwnNone
import Derived.Test.YtaoanagmgheicaaGreatSSet
import Derived.Test.YtaoanagmgheicaaGreatSOnw
import Derived.Test.YtaoanagmgheicaaGreatSSolve
import Derived.Shelf.Slices.Reverse
import Derived.Sort.OwnSortedInts
import Derived.Test.YtaoanagmgheicaaGreatSIdz
import Derived.RangeFuncCalls
import Derived.Stop.RegionWithIn
import Derived.ProofKit
import Derived.OpenShut
import Derived.ChangeOld
import Derived.Deep.Slices
import Derived.Deep.Fields
import Derived.ChangeSame
import Derived.Lib.SmallJoins
set_option linter.unusedSimpArgs false
set_option linter.unusedVariables false
namespace Go.Proofs.YtaoanagmgheicaaGreat
open Go.RowKit
set_option maxHeartbeats 1000000 in
theorem Same_any (A B : Option Addr) (m d m' d' : Nat) (x y : List Int) (w : World) (hx : RdI w A m d x) (hy : RdI w B m' d' y) (hm : m ≤ maxLen) :
 Calls Tryz.prog 42 #[.slice A m d, .slice B m' d'] w fun e w' => e = .returned (.bool (decide (x = y))) ∧ Below w.heap.size w w' := by
 unfold maxLen at hm
 have hl := hx.len
 have hl' := hy.len
 have HX := Lib.hid hx; have HY := Lib.hid hy; have HL := Lib.hid hl; have HL' := Lib.hid hl'; clear hx hy hl hl'
 by_cases hmm : m = m'
 · subst hmm
   go_enter Tryz.func42, Tryz.ntmps42
   go_wp2
   go_loopw [5] (fun i wr => ∃ k : Nat, k ≤ m ∧ i = .int .i64 k ∧ x.take k = y.take k ∧ Below w.heap.size w wr) (fun i _ => m - (intOf i).toNat)
   case atStart => exact ⟨0, Nat.zero_le _, rfl, by simp, Below.refl _ _⟩
   case round =>
    obtain ⟨k, hk, rfl, heq, hb⟩ := hrel
    have HE := Lib.hid heq; clear heq
    by_cases hlt : k < m
    · obtain ⟨b, o, u, rfl, hbw, hx, c0⟩ := (HX.out.below hb).get hlt
      obtain ⟨b', o', u', rfl, hbw', hx', c0'⟩ := (HY.out.below hb).get hlt
      have HXX := Lib.hid hx; have HYY := Lib.hid hx'; clear hx hx'
      by_cases hu : u = u'
      · have h1 : (u != u') = false := by simpa using hu
        have HU := Lib.hid hu; clear hu
        go_wp2_with fail
        go_quiet (fail)
        go_wp2
        go_roundw
        case rel => exact ⟨k + 1, by omega, by go_num, by rw [List.take_add_one, List.take_add_one, HE.out, HXX.out, HYY.out, HU.out], hb.trans ⟨rfl, rfl, rfl, Nat.le_refl _, fun _ _ => rfl⟩⟩
        case measure => simp [intOf]; omega
      · have h1 : (u != u') = true := by simpa using hu
        have HU := Lib.hid hu; clear hu
        go_wp2_with fail
        go_quiet (fail)
        go_wp2
        go_ret
        exact ⟨ret_bool (by
         symm
         apply decide_eq_false
         intro h
         rw [h, HYY.out] at HXX
         exact HU.out (by injection HXX.out with h; exact h.symm)), hb.trans ⟨rfl, rfl, rfl, Nat.le_refl _, fun _ _ => rfl⟩⟩
    · obtain rfl : k = m := by omega
      go_wp2
      go_ret
      exact ⟨ret_bool (by
       symm
       apply decide_eq_true
       have := HE.out
       rwa [List.take_of_length_le (by rw [HL.out]; exact Nat.le_refl _), List.take_of_length_le (by rw [HL'.out]; exact Nat.le_refl _)] at this), hb⟩
 · have h1 : ((m : Int) != (m' : Int)) = true := by simp; omega
   have H := Lib.hid hmm; clear hmm
   go_enter Tryz.func42, Tryz.ntmps42
   go_wp2
   go_ret
   exact ⟨ret_bool (by
    symm
    apply decide_eq_false
    intro h
    exact H.out (by rw [← HL.out, ← HL'.out, h])), Below.refl _ _⟩
end Go.Proofs.YtaoanagmgheicaaGreat
/- The reference's CheckSystem. -/
namespace Go.Proofs.YtaoanagmgheicaaGreat
open Go.RowKit
end Go.Proofs.YtaoanagmgheicaaGreat
/- The reference's asked. -/
namespace Go.Proofs.YtaoanagmgheicaaGreat
open Go.RowKit
end Go.Proofs.YtaoanagmgheicaaGreat
/- The reference's copied. -/
namespace Go.Proofs.YtaoanagmgheicaaGreat
open Go.RowKit
end Go.Proofs.YtaoanagmgheicaaGreat
/- The reference's SameSystem. -/
namespace Go.Proofs.YtaoanagmgheicaaGreat
open Go.RowKit
end Go.Proofs.YtaoanagmgheicaaGreat
/- wide, small, three: what the laws of layer 1 begin with. -/
namespace Go.Proofs.YtaoanagmgheicaaGreat
open Go.RowKit
end Go.Proofs.YtaoanagmgheicaaGreat
set_option linter.unusedSimpArgs false
set_option linter.unusedVariables false
namespace Go.Proofs.YtaoanagmgheicaaGreat
open Go.RowKit
attribute [local go_sem] Oper.semAt_some
def KeepQ (Bs Br : Nat) (W W' : World) : Prop := W.heap.size ≤ W'.heap.size ∧ W'.heap[Bs]? = W.heap[Bs]? ∧ W'.heap[Br]? = W.heap[Br]?
theorem KeepQ.refl (Bs Br : Nat) (W : World) : KeepQ Bs Br W W := ⟨Nat.le_refl _, rfl, rfl⟩
theorem KeepQ.trans {Bs Br : Nat} {A B C : World} (h : KeepQ Bs Br A B) (k : KeepQ Bs Br B C) : KeepQ Bs Br A C := ⟨Nat.le_trans h.1 k.1, k.2.1.trans h.2.1, k.2.2.trans h.2.2⟩
theorem RdI.move {w W : World} {A : Option Addr} {n c : Nat} {x : List Int} (h : RdI w A n c x) {Br : Nat} (hA : ∀ b o, A = some ⟨b, o, none⟩ → b = Br) (hsz : w.heap.size ≤ W.heap.size) (hb : W.heap[Br]? = w.heap[Br]?) : RdI W A n c x := by
 refine ⟨h.len, h.cap, h.nil, ?_⟩
 rcases h.cells with h1 | ⟨b, o, e, hlt, hc⟩
 · exact .inl h1
 · obtain rfl := hA b o e
   refine .inr ⟨b, o, e, by omega, fun j u hu => ?_⟩
   rw [← hc j u hu]
   simp [World.cell?, hb]
end Go.Proofs.YtaoanagmgheicaaGreat
/- slices.Reverse at numbers, and slices.Backward itself. -/
namespace Go.Proofs.YtaoanagmgheicaaGreat
open Go.RowKit Go.Shelf Go.Sort
end Go.Proofs.YtaoanagmgheicaaGreat
set_option linter.unusedSimpArgs false
set_option linter.unusedVariables false
namespace Go.Proofs.YtaoanagmgheicaaGreat
open Go.RowKit
attribute [local go_sem] Oper.semAt_some
def Src (w W : World) (A : Option Addr) (n c : Nat) (l : List Bnd) : Prop := RdB w A n c l ∨ OwnB W (w.heap.size + 3) A n c l
theorem Src.rd {w W : World} {A : Option Addr} {n c : Nat} {l : List Bnd} (h : Src w W A n c l) (hb : Below w.heap.size w W) : RdB W A n c l := h.elim (fun h => h.below hb) (fun h => (OwnB.rd h).1)
theorem Src.keep {w W W' : World} {A : Option Addr} {n c : Nat} {l : List Bnd} (h : Src w W A n c l) (hb : Below W.heap.size W W') : Src w W' A n c l := h.imp id (fun h => owns_below h hb)
theorem Src.set {w W : World} {A : Option Addr} {n c : Nat} {l : List Bnd} (h : Src w W A n c l) (a : Addr) (ha : a.block < w.heap.size + 3) (u : Value) : Src w (W.setCell a u) A n c l := h.imp id (fun h => ownsRow_setCell_below h ha _)
theorem Src.grown {w W W' : World} {A : Option Addr} {n c : Nat} {l : List Bnd} (h : Src w W A n c l) {v : Value} {base m : Nat} {xs : List Value} (hv : W.ownsRow base 3 1 v m xs) (hg : W.grownBy W' v.ownBlock) : Src w W' A n c l := h.imp id (fun h => by
 refine World.ownsRow.kept h hg ?_
 obtain ⟨_, h⟩ := h
 obtain ⟨_, hv⟩ := hv
 rcases h with ⟨h, _⟩ | ⟨g, cap, cur, h, _, hgc, _⟩
 · left; rw [h]; rfl
 · right
   rw [h]
   rcases hv with ⟨rfl, _⟩ | ⟨g', cap', cur', rfl, _, hgc', _⟩
   · intro e; cases e
   · intro e
     have e : some g = some g' := e
     injection e with e
     subst e
     rw [hgc] at hgc'
     injection hgc' with hgc'
     injection hgc' with _ hgc'
     cases hgc')
end Go.Proofs.YtaoanagmgheicaaGreat
set_option linter.unusedSimpArgs false
set_option linter.unusedVariables false
namespace Go.Proofs.YtaoanagmgheicaaGreat
open Go.RowKit
theorem okB_tie {l : List Bnd} (h : OkB l) {a b N : Int} (ha : 0 ≤ a ∧ a < 60) (hb : 0 ≤ b ∧ b < 60) (hN : -100000000 ≤ N ∧ N ≤ 100000000) : OkB (l ++ tieB a b N) := by
 intro x hx
 rcases List.mem_append.1 hx with h1 | h1
 · exact h x h1
 · simp only [tieB, List.mem_cons, List.not_mem_nil, or_false] at h1
   rcases h1 with rfl | rfl
   · exact ⟨ha.1, ha.2, hb.1, hb.2, hN.1, hN.2⟩
   · refine ⟨hb.1, hb.2, ha.1, ha.2, ?_, ?_⟩ <;> show _ ≤ _ <;> simp <;> omega
end Go.Proofs.YtaoanagmgheicaaGreat
set_option linter.unusedSimpArgs false
set_option linter.unusedVariables false
namespace Go.Proofs.YtaoanagmgheicaaGreat
open Go.RowKit
theorem rdI_new (w : World) (L : List Int) (n : Nat) (hn : L.length = n) : RdI (w.alloc (.cells (arr L) 3)) (some ⟨w.heap.size, 0, none⟩) n n L := by
 refine ⟨hn, Nat.le_refl _, (fun h => by cases h), .inr ⟨w.heap.size, 0, rfl, by simp, fun j u hu => ?_⟩⟩
 rw [Nat.zero_add, (Blk.new w 3 (arr L)).cell j]
 simpa [arr] using hu
end Go.Proofs.YtaoanagmgheicaaGreat
set_option linter.unusedSimpArgs false
set_option linter.unusedVariables false
namespace Go.Proofs.YtaoanagmgheicaaGreat
open Go.ChangeShapes Go.WideShapes Go.ChangeAt Go.RowKit
set_option maxRecDepth 100000
theorem Law.own : ownKnob Tryz.prog.godebug = none := by kernel_rfl
theorem Law.laidOut : laidOutB Tryz.prog = true := by kernel_rfl
theorem add_flat (b o k : Nat) : (⟨b, o, none⟩ : Addr).add k = ⟨b, o + k, none⟩ := by
 unfold Addr.add
 split
 · rename_i h; subst h; rfl
 · rfl
section
variable {H : Type} {enc : TypeId × Value → H} {W : World} {base : Nat} {sp : Nat → Bool} {held : Bool}
theorem cell_low {a : Addr} {v : Value} (h : W.cell? a = some v) : a.block < W.heap.size := by
 by_cases hb : a.block < W.heap.size
 · exact hb
 · exfalso
   have e : W.heap[a.block]? = none := by simp; omega
   simp [World.cell?, e] at h
theorem one_bound {m : Nat} {cs : List Value} {x : DataW H × List MemPlace} (h : DataW.trod enc Tryz.prog W base sp held m 30 cs = some x) (hl : cs.length = 4) : ∃ b : Bnd, cs = b.cells := by
 obtain ⟨y0, y1, y2, y3, k, -, -, h0, h1, h2, h3⟩ := Go.Joins.trod_struct4 Tryz.underlying30 h
 match cs, hl with
 | [c0, c1, c2, c3], _ =>
  have k1 : Tryz.prog.cellsOf 3 = 1 := by kernel_rfl
  simp only [k1, List.drop_zero, List.take_succ_cons, List.take_zero, List.drop_succ_cons] at h0 h1 h2 h3
  obtain ⟨a0, e0, -, -⟩ := DataW.trod_int Tryz.underlying3 h0
  obtain ⟨a1, e1, -, -⟩ := DataW.trod_int Tryz.underlying3 h1
  obtain ⟨a2, e2, -, -⟩ := DataW.trod_int Tryz.underlying3 h2
  obtain ⟨a3, e3, -, -⟩ := DataW.trod_int Tryz.underlying3 h3
  simp only [List.cons.injEq, and_true] at e0 e1 e2 e3
  subst e0 e1 e2 e3
  exact ⟨⟨a0, a1, a2, a3⟩, rfl⟩
theorem open_bounds {m : Nat} {v : Value} {x : DataW H × List MemPlace} (h : DataW.trod enc Tryz.prog W base sp held m 22 [v] = some x) : ∃ A n c l, v = .slice A n c ∧ RdB W A n c l ∧ n ≤ maxLen := by
 have hC : Tryz.prog.cellsOf 30 = 4 := by kernel_rfl
 rcases Go.Deep.open_slice Tryz.underlying22 h with ⟨hcs, -⟩ | ⟨a, len, cap, m', n, D, Pl, hcs, hb, hl, hm, hmm, hx, hi⟩
 · simp only [List.cons.injEq, and_true] at hcs
   exact ⟨none, 0, 0, [], hcs, ⟨rfl, Nat.le_refl _, fun _ => ⟨rfl, rfl⟩, .inl rfl⟩, Nat.zero_le _⟩
 · simp only [List.cons.injEq, and_true] at hcs
   have hle : len ≤ m' := by rw [hmm]; split <;> omega
   rw [hC] at hi
   obtain ⟨X, hX⟩ := Go.Deep.choose_lt (α := Bnd) (n := len) (p := fun i b => ∀ j, j < 4 → W.cell? (a.add (i * 4 + j)) = b.cells[j]?) (fun i hil => by
    obtain ⟨cs', g1, g2⟩ := hi i (by omega)
    obtain ⟨-, g3, g4⟩ := World.cells?_some g1
    obtain ⟨b, rfl⟩ := one_bound g2 g3
    refine ⟨b, fun j hj => ?_⟩
    have := g4 j hj
    rw [Go.Deep.add_add] at this
    exact this)
   refine ⟨some a, len, cap, (List.range len).map X, hcs, ⟨by simp, hl, (fun h => by cases h), ?_⟩, by omega⟩
   by_cases h0 : len = 0
   · subst h0; exact .inl rfl
   · obtain ⟨ab, ao, asp⟩ := a
     have z := hX 0 (by omega) 0 (by omega)
     have hs : asp = none := by simpa [Addr.add] using World.cell?_spot (z.trans (show (X 0).cells[0]? = some (.int .i64 (X 0).f) from rfl))
     subst hs
     have hlt : ab < W.heap.size := by simpa [Addr.add] using cell_low (z.trans (show (X 0).cells[0]? = some (.int .i64 (X 0).f) from rfl))
     refine .inr ⟨ab, ao, rfl, hlt, fun j u hu => ?_⟩
     have hj : j < len * 4 := by
      have := (List.getElem?_eq_some_iff.1 hu).1
      rw [bcells_length] at this
      simpa using this
     have e : j / 4 * 4 + j % 4 = j := by omega
     have hlk : ((List.range len).map X)[j / 4]? = some (X (j / 4)) := by
      rw [List.getElem?_map, List.getElem?_range (by omega)]
      rfl
     have h1 := bcells_get ((List.range len).map X) (j / 4) (j % 4) _ hlk (Nat.mod_lt _ (by omega))
     rw [e] at h1
     have h2 := hX (j / 4) (by omega) (j % 4) (Nat.mod_lt _ (by omega))
     rw [e, add_flat] at h2
     rw [h2, ← h1, hu]
end
end Go.Proofs.YtaoanagmgheicaaGreat
