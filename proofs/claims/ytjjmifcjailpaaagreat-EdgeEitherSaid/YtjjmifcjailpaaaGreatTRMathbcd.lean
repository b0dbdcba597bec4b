import Derived.Deep.DeepCutAuto
import Derived.Deep.OwnRows
import Derived.Deep.RegionHeld3
import Derived.Deep.WholeRow
import Derived.Great.BuildSlice
import Derived.Laws.AppendOwnNone
import Derived.Lib.Hide
import Derived.Lib.SmallJoins
import Derived.Maps.OwnIn
import Derived.RangeFuncNested
import Derived.Shelf.SlIterI.Nil
import Derived.Shelf.Slices.Reverse
import Derived.Shelf.SortM.Plain
import Derived.Shelf.SortM.SortNone
import Derived.Sort.OwnSortedInts
import Derived.WalkLawsBesides
import Derived.WalkSpells
import Derived.Test.YtjjmifcjailpaaaGreatTNum
set_option linter.unusedSimpArgs false
set_option linter.unusedVariables false
namespace Go.Proofs.YtjjmifcjailpaaaGreat
open Go.RowKit
theorem at_repl {p : Nat} {x : Int} {v : Nat} (hv : v < p) : at_ (List.replicate p x) v = x := by
 simp [at_, List.getD_eq_getElem?_getD, hv]
theorem at_take {x : List Int} {v n : Nat} (hv : v < n) : at_ (x.take n) v = at_ x v := by
 simp [at_, List.getD_eq_getElem?_getD, List.getElem?_take, hv]
end Go.Proofs.YtjjmifcjailpaaaGreat
