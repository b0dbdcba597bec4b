import Derived.Deep.DeepCutAuto
import Derived.Deep.OwnRows
import Derived.Laws.AppendOwnNone
import Derived.Lib.SmallJoins
import Derived.Maps.OwnIn
import Derived.Shelf.SlIterI.Nil
import Derived.Shelf.Slices.Reverse
import Derived.Shelf.SortM.Plain
import Derived.Shelf.SortM.SortNone
import Derived.Sort.OwnSortedInts
import Derived.Test.YtjjmifcjailpaaaGreatTEnds
set_option linter.unusedSimpArgs false
set_option linter.unusedVariables false
namespace Go.Proofs.YtjjmifcjailpaaaGreat
open Go.RowKit
def Bd (r : Int) (y : List Int) : Prop := ∀ v, v < y.length → -(1000000000000 + r) ≤ at_ y v ∧ at_ y v ≤ 1000000000000
theorem Bd.more {r s : Int} {y : List Int} (h : Bd r y) (hrs : r ≤ s) : Bd s y := fun u hu => by have := h u hu; omega
end Go.Proofs.YtjjmifcjailpaaaGreat
