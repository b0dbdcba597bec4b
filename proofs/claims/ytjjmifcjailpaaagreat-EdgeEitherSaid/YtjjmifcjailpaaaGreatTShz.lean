import Derived.Deep.DeepCutAuto
import Derived.Deep.OwnRows
import Derived.Laws.AppendOwnNone
import Derived.Lib.SmallJoins
import Derived.Maps.OwnIn
import Derived.Shelf.SlIterI.Nil
import Derived.Shelf.Slices.Reverse
import Derived.Shelf.SortM.Plain
import Derived.Shelf.SortM.SortNone
import Derived.Sort.OwnSortedInts
import Derived.Test.YtjjmifcjailpaaaGreatTFrom
set_option linter.unusedSimpArgs false
set_option linter.unusedVariables false
namespace Go.Proofs.YtjjmifcjailpaaaGreat
open Go.RowKit
theorem rdI_some {w : World} {A : Option Addr} {n c : Nat} {l : List Int} {k : Nat} {v : Int} (h : RdI w A n c l) (hv : l[k]? = some v) : ∃ b o, A = some ⟨b, o, none⟩ := by
 obtain ⟨b, o, x, h1, -⟩ := h.get (k := k) (by rw [← h.len]; exact (List.getElem?_eq_some_iff.1 hv).1)
 exact ⟨b, o, h1⟩
theorem rdI_at {w : World} {b o n c : Nat} {l : List Int} {k : Nat} {v : Int} (h : RdI w (some ⟨b, o, none⟩) n c l) (hv : l[k]? = some v) : w.cell? ⟨b, o + k, none⟩ = some (.int .i64 v) ∧ b < w.heap.size := by
 obtain ⟨b', o', x, h1, h2, h3, h4⟩ := h.get (k := k) (by rw [← h.len]; exact (List.getElem?_eq_some_iff.1 hv).1)
 injection h1 with h1
 injection h1 with e1 e2
 subst e1 e2
 rw [hv] at h3
 injection h3 with h3
 subst h3
 exact ⟨h4, h2⟩
end Go.Proofs.YtjjmifcjailpaaaGreat
/- What endOf answers, part by part; the code of Keeps. -/
namespace Go.Proofs.YtjjmifcjailpaaaGreat
open Go.RowKit
end Go.Proofs.YtjjmifcjailpaaaGreat
