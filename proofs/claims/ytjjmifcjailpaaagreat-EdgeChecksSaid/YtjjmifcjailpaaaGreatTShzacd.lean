import Derived.Deep.DeepCutAuto
import Derived.Deep.OwnRows
import Derived.Great.BuildSlice
import Derived.Laws.AppendOwnNone
import Derived.Lib.SmallJoins
import Derived.Maps.OwnIn
import Derived.RangeFuncNested
import Derived.Shelf.SlIterI.Nil
import Derived.Shelf.Slices.Reverse
import Derived.Shelf.SortM.Plain
import Derived.Shelf.SortM.SortNone
import Derived.Sort.OwnSortedInts
import Derived.Test.YtjjmifcjailpaaaGreatTMem
set_option linter.unusedSimpArgs false
set_option linter.unusedVariables false
namespace Go.Proofs.YtjjmifcjailpaaaGreat
open Go.RowKit
theorem blk_drewN {w : World} {g : Nat} {t : TypeId} {cs : Array Value} (h : Blk w g t cs) (n : Nat) : Blk (w.drewN n) g t cs := h
end Go.Proofs.YtjjmifcjailpaaaGreat
/- What endOf answers, part by part; the code of Keeps. -/
namespace Go.Proofs.YtjjmifcjailpaaaGreat
open Go.RowKit
end Go.Proofs.YtjjmifcjailpaaaGreat
