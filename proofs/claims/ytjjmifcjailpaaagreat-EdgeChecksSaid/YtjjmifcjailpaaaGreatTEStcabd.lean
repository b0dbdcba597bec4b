import Derived.Shelf.SlSortCmp.NoneTotal
import Derived.Test.YtjjmifcjailpaaaGreatTELongest
set_option linter.unusedSimpArgs false
set_option linter.unusedVariables false
namespace Go.Proofs.YtjjmifcjailpaaaGreat
open Go.ChangeShapes Go.WideShapes Go.ChangeAt Go.RowKit
set_option maxRecDepth 100000
section
variable {H : Type} {enc : TypeId × Value → H} {W : World} {base : Nat} {sp : Nat → Bool} {held : Bool}
theorem open_nums_ {m : Nat} {v : Value} {x : DataW H × List MemPlace} (hf : DataW.trod enc Tryz.prog W base sp held m 34 [v] = some x) :
 ∃ A n c l, v = .slice A n c ∧ RdI W A n c l ∧ n ≤ maxLen ∧ ∀ x ∈ l, (Lit.int .i64 x).wf = true := by
 rcases open_ints Tryz.underlying34 Tryz.underlying3 (by kernel_rfl) hf with ⟨hcs, -⟩ | ⟨x, len, cap, zs, hcs, -, hl, hm, hz, -, hcell, hwz⟩
 · simp only [List.cons.injEq, and_true] at hcs
   subst hcs
   exact ⟨none, 0, 0, [], rfl, ⟨rfl, Nat.le_refl _, fun _ => ⟨rfl, rfl⟩, .inl rfl⟩, Nat.zero_le _, by simp⟩
 · simp only [List.cons.injEq, and_true] at hcs
   subst hcs
   have hle : len ≤ zs.length := by rw [hz]; split <;> omega
   refine ⟨some x, len, cap, zs.take len, rfl, ⟨by simp; omega, hl, (fun h => by cases h), ?_⟩, by omega, fun y hy => hwz y (List.mem_of_mem_take hy)⟩
   by_cases h0 : len = 0
   · subst h0; exact .inl rfl
   · obtain ⟨xb, xo, xs⟩ := x
     have z := hcell 0 (by omega)
     have hs : xs = none := by simpa [Addr.add] using World.cell?_spot z
     subst hs
     have hlt : xb < W.heap.size := by simpa [Addr.add] using cell_low z
     refine .inr ⟨xb, xo, rfl, hlt, fun j u hu => ?_⟩
     obtain ⟨y, hy, rfl⟩ := List.mem_map.1 (List.mem_of_getElem? hu)
     have hj : j < len := by
      have := (List.getElem?_eq_some_iff.1 hu).1
      simp at this; omega
     have h1 := hcell j (by omega)
     rw [add_flat] at h1
     rw [h1]
     rw [List.getElem?_map, List.getElem?_take, if_pos hj, List.getElem?_eq_getElem (by omega)] at hu
     simp only [Option.map_some, Option.some.injEq, Value.int.injEq, true_and] at hu
     rw [List.getD_eq_getElem?_getD, List.getElem?_eq_getElem (by omega)]
     simp [hu]
theorem open_place {r : Reach} {b0 : Nat} {v : Value} {d : DataW H} {p : List MemPlace} (hv : Value.okWide Tryz.prog W r b0 36 v) (h : DataW.Trod enc Tryz.prog W base sp held 36 v d p) :
 ∃ A n c x B m d y C n2 c2 z D m2 d2 u, v = .agg #[.slice A n c, .slice B m d, .slice C n2 c2, .slice D m2 d2] ∧ RdI W A n c x ∧ n ≤ maxLen ∧ RdI W B m d y ∧ m ≤ maxLen ∧ RdI W C n2 c2 z ∧ n2 ≤ maxLen ∧ RdI W D m2 d2 u ∧ m2 ≤ maxLen := by
 obtain ⟨v0, v1, v2, v3, y0, y1, y2, y3, m, rfl, -, -, h0, h1, h2, h3⟩ := Go.Joins.open_agg4 Tryz.underlying36 (by kernel_rfl) (by kernel_rfl) hv h
 obtain ⟨A0, n0, c0, l0, rfl, r0, m0, -⟩ := open_nums_ h0
 obtain ⟨A1, n1, c1, l1, rfl, r1, m1, -⟩ := open_nums_ h1
 obtain ⟨A2, n2, c2, l2, rfl, r2, m2, -⟩ := open_nums_ h2
 obtain ⟨A3, n3, c3, l3, rfl, r3, m3, -⟩ := open_nums_ h3
 exact ⟨A0, n0, c0, l0, A1, n1, c1, l1, A2, n2, c2, l2, A3, n3, c3, l3, rfl, r0, m0, r1, m1, r2, m2, r3, m3⟩
end
end Go.Proofs.YtjjmifcjailpaaaGreat
