import Derived.Test.YtjjmifcjailpaaaGreatProg
import Derived.Deep.DeepCutAuto
import Derived.Deep.OwnRows
import Derived.Deep.RegionHeld3
import Derived.Deep.WholeRow
import Derived.Great.BuildSlice
import Derived.Laws.AppendOwnNone
import Derived.Lib.Hide
import Derived.Lib.SmallJoins
import Derived.Maps.OwnIn
import Derived.RangeFuncNested
import Derived.Shelf.SlIterI.Nil
import Derived.Shelf.Slices.Reverse
import Derived.Shelf.SortM.Plain
import Derived.Shelf.SortM.SortNone
import Derived.Sort.OwnSortedInts
import Derived.WalkLawsBesides
import Derived.WalkSpells
set_option linter.unusedSimpArgs false
set_option linter.unusedVariables false
namespace Go.Proofs.YtjjmifcjailpaaaGreat
open Go.RowKit
theorem ints_one2 (Z : List Int) : ∀ v ∈ Z.map (Value.int .i64), v.oneCell' = true := fun v hv => by
 obtain ⟨z, _, rfl⟩ := List.mem_map.1 hv
 rfl
theorem own_some2 {w : World} {base : Nat} {e : TypeId} {size : Nat} {A : Option Addr} {n c m : Nat} {xs : List Value} (h : w.ownsRow base e size (.slice A n c) m xs) (hn : 1 ≤ n) : ∃ g, A = some ⟨g, 0, none⟩ ∧ base ≤ g := by
 rcases h.2 with ⟨h1, _⟩ | ⟨g, cap, cur, h1, hb, _⟩
 · injection h1 with _ h1 _; omega
 · injection h1 with h1 _ _
   exact ⟨g, h1, hb⟩
end Go.Proofs.YtjjmifcjailpaaaGreat
