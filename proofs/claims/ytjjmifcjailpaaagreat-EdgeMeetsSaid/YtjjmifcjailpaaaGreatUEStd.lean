import Derived.Test.YtjjmifcjailpaaaGreatProg
import Derived.BigQuiet
import Derived.Deep.RegionHeld3
import Derived.Deep.WholeRow
import Derived.Lib.Hide
import Derived.OwnWalkIn
import Derived.WalkLawsBesides
import Derived.WalkSpells
import Derived.Test.YtjjmifcjailpaaaGreatUMem
set_option linter.unusedSimpArgs false
set_option linter.unusedVariables false
namespace Go.Proofs.YtjjmifcjailpaaaGreat
structure Stc where
 f:Int
 t:Int
deriving DecidableEq,Inhabited
open Go.RowKit
def Stc.cells (x:Stc):List Value:=[.int .i64 x.f,.int .i64 x.t]
def scells (l:List Stc):List Value:=l.flatMap Stc.cells
structure RdS (w:World) (A:Option Addr) (n c:Nat) (l:List Stc):Prop where
 len:l.length=n
 cap:n≤c
 nil:A=none→n=0∧c=0
 cells:Cells w A (scells l)
theorem RdS.alloc {w:World} {A:Option Addr} {n c:Nat} {l:List Stc} (h:RdS w A n c l) (o:Obj):RdS (w.alloc o) A n c l:=⟨h.len,h.cap,h.nil,h.cells.alloc o⟩
end Go.Proofs.YtjjmifcjailpaaaGreat
