import Derived.Test.YtjjmifcjailpaaaGreatTMem
set_option linter.unusedSimpArgs false
set_option linter.unusedVariables false
namespace Go.Proofs.YtjjmifcjailpaaaGreat
open Go.RowKit
section
variable {w w' : World} {A : Option Addr} {n c : Nat}
end
section
variable {w w' : World} {g : Nat} {t : TypeId} {cs : Array Value}
end
section
variable {P : Program} {w : World} {ops : Array Oper} {rest : List Oper} {o : Oper} {a : Act} {Q : Exit → Act → World → Prop}
variable {F : Fence} {nn : Nat}
end
end Go.Proofs.YtjjmifcjailpaaaGreat
/- CheckSystem of gauge, and what it calls. -/
namespace Go.Proofs.YtjjmifcjailpaaaGreat
open Go.RowKit
end Go.Proofs.YtjjmifcjailpaaaGreat
/- Short forms for the walks' texts: cells by their place, an operation that is taken first or comes up next (its text is read off the region), facts kept hidden. -/
namespace Go.Proofs.YtjjmifcjailpaaaGreat
open Go.RowKit
section
variable {P : Program} {ops : Array Oper} {Q : Exit → Act → World → Prop} {md : Region.Mode} {S : World → Prop} {fuel : Nat} {listed : Array Bool} {a : Act} {w : World}
end
section
open Go.Lib
variable {w w' w0 : World} {g B : Nat} {t : TypeId} {cs : Array Value} {A : Option Addr} {n c : Nat} {l : List Bnd} {x : List Int}
theorem ent5 (w : World) (c0 : Array Value) (t0 : TypeId) (c1 : Array Value) (t1 : TypeId) (c2 : Array Value) (t2 : TypeId) (c3 : Array Value) (t3 : TypeId) (c4 : Array Value) (t4 : TypeId) : Hid (Blk (((((w.alloc (.cells c0 t0)).alloc (.cells c1 t1)).alloc (.cells c2 t2)).alloc (.cells c3 t3)).alloc (.cells c4 t4)) (w.heap.size) t0 c0) ∧ Hid (Blk (((((w.alloc (.cells c0 t0)).alloc (.cells c1 t1)).alloc (.cells c2 t2)).alloc (.cells c3 t3)).alloc (.cells c4 t4)) (w.heap.size + 1) t1 c1) ∧ Hid (Blk (((((w.alloc (.cells c0 t0)).alloc (.cells c1 t1)).alloc (.cells c2 t2)).alloc (.cells c3 t3)).alloc (.cells c4 t4)) (w.heap.size + 1 + 1) t2 c2) ∧ Hid (Blk (((((w.alloc (.cells c0 t0)).alloc (.cells c1 t1)).alloc (.cells c2 t2)).alloc (.cells c3 t3)).alloc (.cells c4 t4)) (w.heap.size + 1 + 1 + 1) t3 c3) ∧ Hid (Blk (((((w.alloc (.cells c0 t0)).alloc (.cells c1 t1)).alloc (.cells c2 t2)).alloc (.cells c3 t3)).alloc (.cells c4 t4)) (w.heap.size + 1 + 1 + 1 + 1) t4 c4) ∧ Hid (Below w.heap.size w (((((w.alloc (.cells c0 t0)).alloc (.cells c1 t1)).alloc (.cells c2 t2)).alloc (.cells c3 t3)).alloc (.cells c4 t4))) := by
 obtain ⟨h0, h1, h2, h3, hb⟩ := ent4 w c0 t0 c1 t1 c2 t2 c3 t3
 have hn := Blk.new ((((w.alloc (.cells c0 t0)).alloc (.cells c1 t1)).alloc (.cells c2 t2)).alloc (.cells c3 t3)) t4 c4
 simp only [World.size_alloc] at hn
 exact ⟨kA h0 _, kA h1 _, kA h2 _, kA h3 _, hid hn, bA hb _⟩
end
end Go.Proofs.YtjjmifcjailpaaaGreat
