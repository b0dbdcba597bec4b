/-
  No cell of these rows narrows 'for every input' (looked for: loops, veiled, ifaces, maps, wideKeys, modest, calm, conditions, laid).
  DERIVED. THE GIVEN ROWS OF THIS SEAT. 5 by the template 'for every input the law returns true; each argument reads behind the call as it read before'; 0 by the template 'total and deterministic' (their statements: YtjjmifcjailpaaaGreatTotals.lean).
  GIVEN WITH THE SEED: the statements are not yours to turn. If you find one false, say at which input.
  Laid BY PROGRAM, IN A SANDBOX (cutbox-rows.mjs): the forced cells as the released guide's own fill.sh prints them over the translation ae162ff338e253d0… (all of the seat's roots in one cut). By AI agents, Wed Nov 11 2026. No macro, syntax, notation, axiom, sorry.
-/
import Derived.Test.YtjjmifcjailpaaaGreatChecked
import GoSem.Claim
import GoSem.ClaimJoined
import GoSem.ClaimMapViews
import Derived.JoinedTies
import Derived.KernelRfl
namespace Go.Proofs.YtjjmifcjailpaaaGreat
/- THE CELL 'sum', in the pinned program and in every row, IS THE sha256 OF THE DUMP (.gsa) THAT YtjjmifcjailpaaaGreatProg.lean LOADS. Nothing in Lean hashes anything: it is a label: what it is worth is what the hold of that sum in a sandbox is worth. -/
noncomputable def Tryz.pinned : Pinned := { name := "ytjjmifcjailpaaagreat", sum := "ae162ff338e253d0c8374e4ab5e0d5f3f279843eaf126f487f2d9d95e42b87f6", checked := Tryz.checked }
namespace Rows
def none {H : Type} : Left H := { results := [], args := [] }

/-- 'conjoinlaw03.EdgeMeets': WHATEVER THE INPUT: true; the input reads as it did. -/
def edgeMeetsSpec : ChangeSpec := { name := "edgeMeets", fn := fun _ => fun
  | [d1, d2, d3] => { results := [.lit (.bool true)], args := [d1, d2, d3] }
  | _ => none }
def edgeMeetsRow : OpenClaim := { program := "ytjjmifcjailpaaagreat", sum := "ae162ff338e253d0c8374e4ab5e0d5f3f279843eaf126f487f2d9d95e42b87f6", func := "conjoin/conjoinlaw03.EdgeMeets", spec := "edgeMeets", unfollowed := true, recurses := true, plainKeys := false, apart := false }
def EdgeMeetsSaid : Prop := edgeMeetsRow.holds Tryz.pinned (OpenSpec.ofChange edgeMeetsSpec)

/-- ITS FALSE NEIGHBOUR: 'it returns false'. Refute it at one input. -/
def edgeMeetsWrong : ChangeSpec := { name := "edgeMeets", fn := fun _ => fun
  | [d1, d2, d3] => { results := [.lit (.bool false)], args := [d1, d2, d3] }
  | _ => none }
def EdgeMeetsWrongFalsely : Prop := edgeMeetsRow.holds Tryz.pinned (OpenSpec.ofChange edgeMeetsWrong)

/-- 'conjoinlaw03.EdgeChecks': WHATEVER THE INPUT: true; the input reads as it did. -/
def edgeChecksSpec : ChangeSpec := { name := "edgeChecks", fn := fun _ => fun
  | [d1, d2, d3, d4, d5] => { results := [.lit (.bool true)], args := [d1, d2, d3, d4, d5] }
  | _ => none }
def edgeChecksRow : OpenClaim := { program := "ytjjmifcjailpaaagreat", sum := "ae162ff338e253d0c8374e4ab5e0d5f3f279843eaf126f487f2d9d95e42b87f6", func := "conjoin/conjoinlaw03.EdgeChecks", spec := "edgeChecks", unfollowed := true, recurses := true, plainKeys := false, apart := false }
def EdgeChecksSaid : Prop := edgeChecksRow.holds Tryz.pinned (OpenSpec.ofChange edgeChecksSpec)

/-- ITS FALSE NEIGHBOUR: 'it returns false'. Refute it at one input. -/
def edgeChecksWrong : ChangeSpec := { name := "edgeChecks", fn := fun _ => fun
  | [d1, d2, d3, d4, d5] => { results := [.lit (.bool false)], args := [d1, d2, d3, d4, d5] }
  | _ => none }
def EdgeChecksWrongFalsely : Prop := edgeChecksRow.holds Tryz.pinned (OpenSpec.ofChange edgeChecksWrong)

/-- 'conjoinlaw03.EdgeShared': WHATEVER THE INPUT: true; the input reads as it did. -/
def edgeSharedSpec : ChangeSpec := { name := "edgeShared", fn := fun _ => fun
  | [d1, d2, d3, d4] => { results := [.lit (.bool true)], args := [d1, d2, d3, d4] }
  | _ => none }
def edgeSharedRow : OpenClaim := { program := "ytjjmifcjailpaaagreat", sum := "ae162ff338e253d0c8374e4ab5e0d5f3f279843eaf126f487f2d9d95e42b87f6", func := "conjoin/conjoinlaw03.EdgeShared", spec := "edgeShared", unfollowed := true, recurses := true, plainKeys := false, apart := false }
def EdgeSharedSaid : Prop := edgeSharedRow.holds Tryz.pinned (OpenSpec.ofChange edgeSharedSpec)

/-- ITS FALSE NEIGHBOUR: 'it returns false'. Refute it at one input. -/
def edgeSharedWrong : ChangeSpec := { name := "edgeShared", fn := fun _ => fun
  | [d1, d2, d3, d4] => { results := [.lit (.bool false)], args := [d1, d2, d3, d4] }
  | _ => none }
def EdgeSharedWrongFalsely : Prop := edgeSharedRow.holds Tryz.pinned (OpenSpec.ofChange edgeSharedWrong)

/-- 'conjoinlaw03.EdgePairs': WHATEVER THE INPUT: true; the input reads as it did. -/
def edgePairsSpec : ChangeSpec := { name := "edgePairs", fn := fun _ => fun
  | [d1, d2, d3] => { results := [.lit (.bool true)], args := [d1, d2, d3] }
  | _ => none }
def edgePairsRow : OpenClaim := { program := "ytjjmifcjailpaaagreat", sum := "ae162ff338e253d0c8374e4ab5e0d5f3f279843eaf126f487f2d9d95e42b87f6", func := "conjoin/conjoinlaw03.EdgePairs", spec := "edgePairs", unfollowed := true, recurses := true, plainKeys := false, apart := false }
def EdgePairsSaid : Prop := edgePairsRow.holds Tryz.pinned (OpenSpec.ofChange edgePairsSpec)

/-- ITS FALSE NEIGHBOUR: 'it returns false'. Refute it at one input. -/
def edgePairsWrong : ChangeSpec := { name := "edgePairs", fn := fun _ => fun
  | [d1, d2, d3] => { results := [.lit (.bool false)], args := [d1, d2, d3] }
  | _ => none }
def EdgePairsWrongFalsely : Prop := edgePairsRow.holds Tryz.pinned (OpenSpec.ofChange edgePairsWrong)

/-- 'conjoinlaw03.EdgeEither': WHATEVER THE INPUT: true; the input reads as it did. -/
def edgeEitherSpec : ChangeSpec := { name := "edgeEither", fn := fun _ => fun
  | [d1, d2, d3, d4, d5] => { results := [.lit (.bool true)], args := [d1, d2, d3, d4, d5] }
  | _ => none }
def edgeEitherRow : OpenClaim := { program := "ytjjmifcjailpaaagreat", sum := "ae162ff338e253d0c8374e4ab5e0d5f3f279843eaf126f487f2d9d95e42b87f6", func := "conjoin/conjoinlaw03.EdgeEither", spec := "edgeEither", unfollowed := true, recurses := true, plainKeys := false, apart := false }
def EdgeEitherSaid : Prop := edgeEitherRow.holds Tryz.pinned (OpenSpec.ofChange edgeEitherSpec)

/-- ITS FALSE NEIGHBOUR: 'it returns false'. Refute it at one input. -/
def edgeEitherWrong : ChangeSpec := { name := "edgeEither", fn := fun _ => fun
  | [d1, d2, d3, d4, d5] => { results := [.lit (.bool false)], args := [d1, d2, d3, d4, d5] }
  | _ => none }
def EdgeEitherWrongFalsely : Prop := edgeEitherRow.holds Tryz.pinned (OpenSpec.ofChange edgeEitherWrong)

/- THE SECOND FORM. 'bulk': how many values and letters a reading holds, each counted each time it is reached (what is shared counts as often as it is met; a slice's spare places count too). A statement '..UptoSaid' is the law's where the arguments, and the package variables that the reading takes, are together of bulk at most 1048576: NARROWER than '..Said'. Prove '..Said' where nothing that the law and all that it calls make is longer than what came in: it says more and counts as full. Else prove '..UptoSaid'. A law counts once. -/
mutual
def uptoBulk {H : Type} : DataW H → Nat
  | .lit (.string bytes) => bytes.length + 1
  | .lit _ => 1
  | .nil => 1
  | .ptr d => uptoBulk d + 1
  | .slice elems spare => uptoBulkAll elems + uptoBulkAll spare + 1
  | .agg parts => uptoBulkAll parts + 1
  | .iface _ d => uptoBulk d + 1
  | .map entries => uptoBulkEntries entries + 1
  | .held _ => 1
def uptoBulkAll {H : Type} : List (DataW H) → Nat
  | [] => 0
  | d :: r => uptoBulk d + uptoBulkAll r
def uptoBulkEntries {H : Type} : List (Lit × DataW H) → Nat
  | [] => 0
  | x :: r => uptoBulkEntry x + uptoBulkEntries r
def uptoBulkEntry {H : Type} : Lit × DataW H → Nat
  | (.string bytes, d) => bytes.length + uptoBulk d + 1
  | (_, d) => uptoBulk d + 1
 end
def uptoSmall : (H : Type) → List (DataW H) → Bool := fun _ ds => decide (uptoBulkAll ds ≤ 1048576)
def OpenSpec.upto (s : _root_.Go.ChangeSpec) : _root_.Go.OpenSpec := { _root_.Go.OpenSpec.ofChange s with cond := some uptoSmall }

/-- 'conjoinlaw03.EdgeMeets', WHERE WHAT IT READS IS OF BULK AT MOST 1048576: true; the input reads as it did. -/
def edgeMeetsUptoRow : OpenClaim := { program := "ytjjmifcjailpaaagreat", sum := "ae162ff338e253d0c8374e4ab5e0d5f3f279843eaf126f487f2d9d95e42b87f6", func := "conjoin/conjoinlaw03.EdgeMeets", spec := "edgeMeets", unfollowed := true, recurses := true, plainKeys := false, apart := false, narrowed := true }
def EdgeMeetsUptoSaid : Prop := edgeMeetsUptoRow.holds Tryz.pinned (OpenSpec.upto edgeMeetsSpec)

/-- 'conjoinlaw03.EdgeChecks', WHERE WHAT IT READS IS OF BULK AT MOST 1048576: true; the input reads as it did. -/
def edgeChecksUptoRow : OpenClaim := { program := "ytjjmifcjailpaaagreat", sum := "ae162ff338e253d0c8374e4ab5e0d5f3f279843eaf126f487f2d9d95e42b87f6", func := "conjoin/conjoinlaw03.EdgeChecks", spec := "edgeChecks", unfollowed := true, recurses := true, plainKeys := false, apart := false, narrowed := true }
def EdgeChecksUptoSaid : Prop := edgeChecksUptoRow.holds Tryz.pinned (OpenSpec.upto edgeChecksSpec)

/-- 'conjoinlaw03.EdgeShared', WHERE WHAT IT READS IS OF BULK AT MOST 1048576: true; the input reads as it did. -/
def edgeSharedUptoRow : OpenClaim := { program := "ytjjmifcjailpaaagreat", sum := "ae162ff338e253d0c8374e4ab5e0d5f3f279843eaf126f487f2d9d95e42b87f6", func := "conjoin/conjoinlaw03.EdgeShared", spec := "edgeShared", unfollowed := true, recurses := true, plainKeys := false, apart := false, narrowed := true }
def EdgeSharedUptoSaid : Prop := edgeSharedUptoRow.holds Tryz.pinned (OpenSpec.upto edgeSharedSpec)

/-- 'conjoinlaw03.EdgePairs', WHERE WHAT IT READS IS OF BULK AT MOST 1048576: true; the input reads as it did. -/
def edgePairsUptoRow : OpenClaim := { program := "ytjjmifcjailpaaagreat", sum := "ae162ff338e253d0c8374e4ab5e0d5f3f279843eaf126f487f2d9d95e42b87f6", func := "conjoin/conjoinlaw03.EdgePairs", spec := "edgePairs", unfollowed := true, recurses := true, plainKeys := false, apart := false, narrowed := true }
def EdgePairsUptoSaid : Prop := edgePairsUptoRow.holds Tryz.pinned (OpenSpec.upto edgePairsSpec)

/-- 'conjoinlaw03.EdgeEither', WHERE WHAT IT READS IS OF BULK AT MOST 1048576: true; the input reads as it did. -/
def edgeEitherUptoRow : OpenClaim := { program := "ytjjmifcjailpaaagreat", sum := "ae162ff338e253d0c8374e4ab5e0d5f3f279843eaf126f487f2d9d95e42b87f6", func := "conjoin/conjoinlaw03.EdgeEither", spec := "edgeEither", unfollowed := true, recurses := true, plainKeys := false, apart := false, narrowed := true }
def EdgeEitherUptoSaid : Prop := edgeEitherUptoRow.holds Tryz.pinned (OpenSpec.upto edgeEitherSpec)

end Rows
end Go.Proofs.YtjjmifcjailpaaaGreat
