import Derived.Test.YtebkniakflhhkaaGreatDoorAESpec
set_option linter.unusedSimpArgs false
set_option linter.unusedVariables false
namespace Go.Proofs.YtebkniakflhhkaaGreatDoor
open Go.RowKit
structure Cl (w:World) (g:Nat) (n x lo hi:Int):Prop where
 n0:Blk w g 3 #[.int .i64 n]
 x0:Blk w (g+1) 3 #[.int .i64 x]
 l0:Blk w (g+1+1) 3 #[.int .i64 lo]
 h0:Blk w (g+1+1+1) 3 #[.int .i64 hi]
theorem Cl.keep {w w':World} {g:Nat} {n x lo hi:Int} (h:Cl w g n x lo hi) (hb:Below w.heap.size w w'):Cl w' g n x lo hi:=⟨h.n0.keep hb,h.x0.keep hb,h.l0.keep hb,h.h0.keep hb⟩
theorem Cl.alloc {w:World} {g:Nat} {n x lo hi:Int} (h:Cl w g n x lo hi) (o:Obj):Cl (w.alloc o) g n x lo hi:=⟨h.n0.alloc o,h.x0.alloc o,h.l0.alloc o,h.h0.alloc o⟩
theorem Cl.drew {w:World} {g:Nat} {n x lo hi:Int} (h:Cl w g n x lo hi):Cl w.drew g n x lo hi:=⟨h.n0.drew,h.x0.drew,h.l0.drew,h.h0.drew⟩
theorem Cl.lt {w:World} {g:Nat} {n x lo hi:Int} (h:Cl w g n x lo hi):g+3<w.heap.size:=h.h0.lt
theorem renumbered_any (n x lo hi:Int) (w:World) :
 Calls Tryz.prog 92 #[.int .i64 n,.int .i64 x,.int .i64 lo,.int .i64 hi] w fun e w'=>e=.returned (.func (.func 130) #[] #[.pointer (some ⟨w.heap.size+1+1,0,none⟩),.pointer (some ⟨w.heap.size,0,none⟩),.pointer (some ⟨w.heap.size+1+1+1,0,none⟩),.pointer (some ⟨w.heap.size+1,0,none⟩)])∧Cl w' w.heap.size n x lo hi∧Below w.heap.size w w':=by
 go_enter Tryz.func92,Tryz.ntmps92
 go_wp2
 go_ret
 have y1:=((((Blk.new w 3 #[.int .i64 n]).alloc (.cells #[.int .i64 x] 3)).alloc (.cells #[.int .i64 lo] 3)).alloc (.cells #[.int .i64 hi] 3))
 have y2:=(((Blk.new (w.alloc (.cells #[.int .i64 n] 3)) 3 #[.int .i64 x]).alloc (.cells #[.int .i64 lo] 3)).alloc (.cells #[.int .i64 hi] 3))
 have y3:=((Blk.new ((w.alloc (.cells #[.int .i64 n] 3)).alloc (.cells #[.int .i64 x] 3)) 3 #[.int .i64 lo]).alloc (.cells #[.int .i64 hi] 3))
 have y4:=(Blk.new (((w.alloc (.cells #[.int .i64 n] 3)).alloc (.cells #[.int .i64 x] 3)).alloc (.cells #[.int .i64 lo] 3)) 3 #[.int .i64 hi])
 simp only [World.size_alloc] at y2 y3 y4
 exact ⟨rfl,⟨y1,y2,y3,y4⟩,(((((Below.refl _ w).alloc (Nat.le_refl _) _).alloc (by simp) _).alloc (by simp;omega) _).alloc (by simp;omega) _)⟩
def fnV (g:Nat):Value:=.func (.func 130) #[] #[.pointer (some ⟨g+1+1,0,none⟩),.pointer (some ⟨g,0,none⟩),.pointer (some ⟨g+1+1+1,0,none⟩),.pointer (some ⟨g+1,0,none⟩)]
theorem renum_any (n x lo hi q:Int) (g:Nat) (w:World) (h:Cl w g n x lo hi) (b1:-1000≤n∧n≤1000) (b2:-1000≤x∧x≤1000) (b3:-1000≤lo∧lo≤1000) (b4:-1000≤hi∧hi≤1000) (b5:-1000≤q∧q≤1000) :
 Calls Tryz.prog 130 #[.int .i64 q,.pointer (some ⟨g+1+1,0,none⟩),.pointer (some ⟨g,0,none⟩),.pointer (some ⟨g+1+1+1,0,none⟩),.pointer (some ⟨g+1,0,none⟩)] w fun e w'=>e=.returned (.int .i64 (ren n x lo hi q))∧w=w':=by
 have c1:=h.n0.cell 0;have c2:=h.x0.cell 0;have c3:=h.l0.cell 0;have c4:=h.h0.cell 0
 simp only [List.getElem?_toArray,List.getElem?_cons_zero] at c1 c2 c3 c4
 clear h
 unfold ren
 by_cases h1:q<lo
 · rw [if_pos h1]
   go_enter Tryz.func130,Tryz.ntmps130
   go_wp2
   go_ret
   exact ⟨rfl,rfl⟩
 · rw [if_neg h1]
   by_cases h2:hi<q
   · rw [if_pos h2]
     go_enter Tryz.func130,Tryz.ntmps130
     go_wp2
     go_ret
     exact ⟨rfl,rfl⟩
   · rw [if_neg h2]
     go_enter Tryz.func130,Tryz.ntmps130
     go_wp2
     go_ret
     exact ⟨rfl,rfl⟩
end Go.Proofs.YtebkniakflhhkaaGreatDoor
