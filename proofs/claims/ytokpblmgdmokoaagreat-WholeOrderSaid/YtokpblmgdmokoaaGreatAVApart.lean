import Derived.DeepKeys4
import Derived.Maps.OwnIn
import Derived.Test.YtokpblmgdmokoaaGreatAVMem
import Derived.Test.YtokpblmgdmokoaaGreatAVRng
set_option maxHeartbeats 4000000
set_option linter.unusedSimpArgs false
set_option linter.unusedVariables false
namespace Go.Proofs.YtokpblmgdmokoaaGreat
open Go.Lib (hid)
open Go.RowKit
def vmat (M:Nat→Nat→Bool):List Value:=(List.range 1600).map fun i=>Value.bool (M (i / 40) (i % 40))
theorem vmat_len (M:Nat→Nat→Bool):(vmat M).length=1600:=by simp [vmat]
theorem vmat_get (M:Nat→Nat→Bool) {i:Nat} (h:i<1600):(vmat M)[i]?=some (.bool (M (i / 40) (i % 40))):=by simp [vmat,List.getElem?_range h]
def vlist (ware:ByteArray) (lim by_:Int) (A:Option Addr) (n k:Nat) (M:Nat→Nat→Bool) (m:Option Nat):List Value:=.string ware::.int .i64 lim::.int .i64 by_::.slice A n k::(vmat M++[.map m])
def vcells (ware:ByteArray) (lim by_:Int) (A:Option Addr) (n k:Nat) (M:Nat→Nat→Bool) (m:Option Nat):Array Value:=(vlist ware lim by_ A n k M m).toArray
section
variable (ware:ByteArray) (lim by_:Int) (A:Option Addr) (n k:Nat) (M:Nat→Nat→Bool) (m:Option Nat)
theorem vcells_mat {a b:Nat} (ha:a<40) (hb:b<40):(vcells ware lim by_ A n k M m)[4+(a * 40+b)]?=some (.bool (M a b)):=by
 unfold vcells vlist
 rw [List.getElem?_toArray,show 4+(a * 40+b)=(a * 40+b)+1+1+1+1 by omega,List.getElem?_cons_succ,List.getElem?_cons_succ,List.getElem?_cons_succ,List.getElem?_cons_succ,List.getElem?_append_left (by rw [vmat_len];omega),vmat_get _ (by omega)]
 rw [show (a * 40+b) / 40=a by omega,show (a * 40+b) % 40=b by omega]
theorem vcells_map:(vcells ware lim by_ A n k M m)[1604]?=some (.map m):=by
 unfold vcells vlist
 rw [List.getElem?_toArray,List.getElem?_cons_succ,List.getElem?_cons_succ,List.getElem?_cons_succ,List.getElem?_cons_succ,List.getElem?_append_right (by rw [vmat_len];omega),vmat_len]
 rfl
theorem vmat_set {a b:Nat} (ha:a<40) (hb:b<40) (v:Bool):(vmat M).set (a * 40+b) (.bool v)=vmat (fun x y=>if x=a∧y=b then v else M x y):=by
 apply List.ext_getElem?
 intro i
 rw [List.getElem?_set]
 by_cases hi:i<1600
 · rw [vmat_get _ hi,vmat_get _ hi]
   by_cases e:a * 40+b=i
   · rw [if_pos e,if_pos (by rw [vmat_len];omega),if_pos (by omega)]
   · rw [if_neg e,if_neg (by omega)]
 · rw [if_neg (by omega),List.getElem?_eq_none (by rw [vmat_len];omega),List.getElem?_eq_none (by rw [vmat_len];omega)]
theorem vcells_set {a b:Nat} (ha:a<40) (hb:b<40) (v:Bool):(vcells ware lim by_ A n k M m).setIfInBounds (4+(a * 40+b)) (.bool v)=vcells ware lim by_ A n k (fun x y=>if x=a∧y=b then v else M x y) m:=by
 unfold vcells vlist
 rw [List.setIfInBounds_toArray,show 4+(a * 40+b)=(a * 40+b)+1+1+1+1 by omega,List.set_cons_succ,List.set_cons_succ,List.set_cons_succ,List.set_cons_succ,List.set_append_left _ _ (by rw [vmat_len];omega),vmat_set M ha hb v]
end
abbrev Vb (w:World) (g:Nat) (ware:ByteArray) (lim by_:Int) (A:Option Addr) (n k:Nat) (M:Nat→Nat→Bool) (m:Option Nat):Prop:=Blk w g 87 (vcells ware lim by_ A n k M m)
section
variable {w:World} {g:Nat} {ware:ByteArray} {lim by_:Int} {A:Option Addr} {n k:Nat} {M:Nat→Nat→Bool} {m:Option Nat}
theorem Vb.map (h:Vb w g ware lim by_ A n k M m):w.cell? ⟨g,1604,none⟩=some (.map m):=by rw [Blk.cell h,vcells_map]
theorem Vb.at (h:Vb w g ware lim by_ A n k M m) {a b:Nat} (ha:a<40) (hb:b<40):w.cell? ⟨g,4+a * 40+b,none⟩=some (.bool (M a b)):=by rw [Nat.add_assoc,Blk.cell h,vcells_mat _ _ _ _ _ _ _ _ ha hb]
theorem Vb.frozen (h:Vb w g ware lim by_ A n k M m) (i:Nat):w.frozen? ⟨g,i,none⟩=false:=Blk.frozen h i
theorem Vb.set (h:Vb w g ware lim by_ A n k M m) {a b:Nat} (ha:a<40) (hb:b<40) (v:Bool):Vb (w.setCell ⟨g,4+a * 40+b,none⟩ (.bool v)) g ware lim by_ A n k (fun x y=>if x=a∧y=b then v else M x y) m:=by
 have:=Blk.set_ h (4+(a * 40+b)) (.bool v)
 rw [vcells_set _ _ _ _ _ _ _ _ ha hb,← Nat.add_assoc] at this
 exact this
end
def clN (l:List Prt) (a b:Nat):Bool:=decide (a≠b)&&apB (l.getD a default) (l.getD b default)
def matAt (l:List Prt) (n q r:Nat) (a b:Nat):Bool:=(decide (a<q)&&decide (b<n) || decide (a=q)&&decide (b<r))&&clN l a b
theorem matAt_zero (l:List Prt) (n:Nat):matAt l n 0 0=fun _ _=>false:=by
 funext a b
 simp [matAt]
theorem matAt_step (l:List Prt) {n q r:Nat} (v:Bool) (hv:v=clN l q r):(fun x y=>if x=q∧y=r then v else matAt l n q r x y)=matAt l n q (r+1):=by
 subst hv
 funext a b
 by_cases h:a=q∧b=r
 · obtain ⟨rfl,rfl⟩:=h
   simp [matAt]
 · rw [if_neg h]
   unfold matAt
   have e:(decide (a=q)&&decide (b<r))=(decide (a=q)&&decide (b<r+1)):=by
    by_cases ha:a=q
    · have:b≠r:=fun hb=>h ⟨ha,hb⟩
      have:decide (b<r)=decide (b<r+1):=by congr 1;exact propext (by omega)
      rw [this]
    · simp [ha]
   rw [e]
theorem matAt_row (l:List Prt) (n q:Nat):matAt l n q n=matAt l n (q+1) 0:=by
 funext a b
 unfold matAt
 have e:(decide (a<q)&&decide (b<n) || decide (a=q)&&decide (b<n))=(decide (a<q+1)&&decide (b<n) || decide (a=q+1)&&decide (b<0)):=by
  by_cases h1:a<q<;>by_cases h2:a=q<;>by_cases h3:b<n<;>simp [h1,h2,h3]<;>omega
 rw [e]
set_option maxRecDepth 100000 in
theorem col0 (p:Prt) (x:PAd) (ft:Bool) (w:World):Calls Tryz.prog 120 #[.agg #[.slice x.A x.n x.c,.int .i64 p.lo,.int .i64 p.hi,.int .i64 p.lb,.int .i64 p.hb,.bool ft,.int .i64 p.fb,.slice x.B x.m x.d]] w fun e w'=>e=.returned (encR (colR p))∧Below w.heap.size w w':=by
 show Calls Tryz.prog 120 #[.agg #[.slice x.A x.n x.c,.int .i64 p.lo,.int .i64 p.hi,.int .i64 p.lb,.int .i64 p.hb,.bool ft,.int .i64 p.fb,.slice x.B x.m x.d]] w fun e w'=>e=.returned (.agg #[.int .i64 p.lo,.int .i64 p.hi])∧Below w.heap.size w w'
 go_enter Tryz.func120,Tryz.ntmps120
 obtain ⟨a5,a0,a2⟩:=ent2 w #[.slice x.A x.n x.c,.int .i64 p.lo,.int .i64 p.hi,.int .i64 p.lb,.int .i64 p.hb,.bool ft,.int .i64 p.fb,.slice x.B x.m x.d] 48 #[.int .i64 0,.int .i64 0] 41
 obtain ⟨b0,b1,b2,b3,b4,b5,a6,a7⟩:=at8 a5
 obtain ⟨a8,a9⟩:=at2 a0
 have a3:(((w.alloc (.cells #[.slice x.A x.n x.c,.int .i64 p.lo,.int .i64 p.hi,.int .i64 p.lb,.int .i64 p.hb,.bool ft,.int .i64 p.fb,.slice x.B x.m x.d] 48)).alloc (.cells #[.int .i64 0,.int .i64 0] 41))).frozen? ⟨w.heap.size+1,0,none⟩=false:=Blk.frozen a0.out 0
 have a4:(((w.alloc (.cells #[.slice x.A x.n x.c,.int .i64 p.lo,.int .i64 p.hi,.int .i64 p.lb,.int .i64 p.hb,.bool ft,.int .i64 p.fb,.slice x.B x.m x.d] 48)).alloc (.cells #[.int .i64 0,.int .i64 0] 41))).frozen? ⟨w.heap.size+1,1,none⟩=false:=Blk.frozen a0.out 1
 have a1:=a2.out
 go_wp2
 refine bodyPost_ret (v:=.agg #[.int .i64 p.lo,.int .i64 p.hi]) (by simp [results,Tryz.results120,go_sem,b0,b1,b2,b3,b4,b5,a6,a7,a8,a9,a3,a4]) rfl ⟨rfl,(by have hsz_:=Below.size a1;repeat' (first|with_reducible exact a1|with_reducible exact Below.refl _ _|with_reducible refine Below.alloc ?_ ?_ _|with_reducible refine Below.setCell ?_ ?_ _|with_reducible refine Below.drew ?_|with_reducible refine below_setRow ?_ ?_ _|omega | (simp;done) | (simp;omega)))⟩
set_option maxRecDepth 100000 in
theorem apart0 (p q:Prt) (x y:PAd) (ft ft2:Bool) (w:World):Calls Tryz.prog 125 #[.agg #[.slice x.A x.n x.c,.int .i64 p.lo,.int .i64 p.hi,.int .i64 p.lb,.int .i64 p.hb,.bool ft,.int .i64 p.fb,.slice x.B x.m x.d],.agg #[.slice y.A y.n y.c,.int .i64 q.lo,.int .i64 q.hi,.int .i64 q.lb,.int .i64 q.hb,.bool ft2,.int .i64 q.fb,.slice y.B y.m y.d]] w fun e w'=>e=.returned (.bool ((ft&&ft2) || decide (p.hi<q.lo) || decide (q.hi<p.lo)))∧Below w.heap.size w w':=by
 by_cases hc:p.hi<q.lo<;>by_cases hd:q.hi<p.lo<;>have HC:=hid hc<;>have HD:=hid hd<;>cases ft<;>cases ft2
 · skip
   go_enter Tryz.func125,Tryz.ntmps125
   obtain ⟨a1,a2,a0⟩:=ent2 w #[.slice x.A x.n x.c,.int .i64 p.lo,.int .i64 p.hi,.int .i64 p.lb,.int .i64 p.hb,.bool false,.int .i64 p.fb,.slice x.B x.m x.d] 48 #[.slice y.A y.n y.c,.int .i64 q.lo,.int .i64 q.hi,.int .i64 q.lb,.int .i64 q.hb,.bool false,.int .i64 q.fb,.slice y.B y.m y.d] 48
   obtain ⟨b3,b4,b5,b6,b7,b8,a3,a4⟩:=at8 a1
   obtain ⟨a5,a6,a7,a8,a9,b0,b1,b2⟩:=at8 a2
   go_wp2
   go_ret
   exact ⟨ret_bool (by have hc:=HC.out;have hd:=HD.out;first|rfl | (simp;done) | (simp;omega)),a0.out⟩
 · skip
   go_enter Tryz.func125,Tryz.ntmps125
   obtain ⟨a1,a2,a0⟩:=ent2 w #[.slice x.A x.n x.c,.int .i64 p.lo,.int .i64 p.hi,.int .i64 p.lb,.int .i64 p.hb,.bool false,.int .i64 p.fb,.slice x.B x.m x.d] 48 #[.slice y.A y.n y.c,.int .i64 q.lo,.int .i64 q.hi,.int .i64 q.lb,.int .i64 q.hb,.bool true,.int .i64 q.fb,.slice y.B y.m y.d] 48
   obtain ⟨b3,b4,b5,b6,b7,b8,a3,a4⟩:=at8 a1
   obtain ⟨a5,a6,a7,a8,a9,b0,b1,b2⟩:=at8 a2
   go_wp2
   go_ret
   exact ⟨ret_bool (by have hc:=HC.out;have hd:=HD.out;first|rfl | (simp;done) | (simp;omega)),a0.out⟩
 · skip
   go_enter Tryz.func125,Tryz.ntmps125
   obtain ⟨a1,a2,a0⟩:=ent2 w #[.slice x.A x.n x.c,.int .i64 p.lo,.int .i64 p.hi,.int .i64 p.lb,.int .i64 p.hb,.bool true,.int .i64 p.fb,.slice x.B x.m x.d] 48 #[.slice y.A y.n y.c,.int .i64 q.lo,.int .i64 q.hi,.int .i64 q.lb,.int .i64 q.hb,.bool false,.int .i64 q.fb,.slice y.B y.m y.d] 48
   obtain ⟨b3,b4,b5,b6,b7,b8,a3,a4⟩:=at8 a1
   obtain ⟨a5,a6,a7,a8,a9,b0,b1,b2⟩:=at8 a2
   go_wp2
   go_ret
   exact ⟨ret_bool (by have hc:=HC.out;have hd:=HD.out;first|rfl | (simp;done) | (simp;omega)),a0.out⟩
 · skip
   go_enter Tryz.func125,Tryz.ntmps125
   obtain ⟨a1,a2,a0⟩:=ent2 w #[.slice x.A x.n x.c,.int .i64 p.lo,.int .i64 p.hi,.int .i64 p.lb,.int .i64 p.hb,.bool true,.int .i64 p.fb,.slice x.B x.m x.d] 48 #[.slice y.A y.n y.c,.int .i64 q.lo,.int .i64 q.hi,.int .i64 q.lb,.int .i64 q.hb,.bool true,.int .i64 q.fb,.slice y.B y.m y.d] 48
   obtain ⟨b3,b4,b5,b6,b7,b8,a3,a4⟩:=at8 a1
   obtain ⟨a5,a6,a7,a8,a9,b0,b1,b2⟩:=at8 a2
   go_wp2
   go_ret
   exact ⟨ret_bool (by have hc:=HC.out;have hd:=HD.out;first|rfl | (simp;done) | (simp;omega)),a0.out⟩
 · skip
   go_enter Tryz.func125,Tryz.ntmps125
   obtain ⟨a1,a2,a0⟩:=ent2 w #[.slice x.A x.n x.c,.int .i64 p.lo,.int .i64 p.hi,.int .i64 p.lb,.int .i64 p.hb,.bool false,.int .i64 p.fb,.slice x.B x.m x.d] 48 #[.slice y.A y.n y.c,.int .i64 q.lo,.int .i64 q.hi,.int .i64 q.lb,.int .i64 q.hb,.bool false,.int .i64 q.fb,.slice y.B y.m y.d] 48
   obtain ⟨b3,b4,b5,b6,b7,b8,a3,a4⟩:=at8 a1
   obtain ⟨a5,a6,a7,a8,a9,b0,b1,b2⟩:=at8 a2
   go_wp2
   go_ret
   exact ⟨ret_bool (by have hc:=HC.out;have hd:=HD.out;first|rfl | (simp;done) | (simp;omega)),a0.out⟩
 · skip
   go_enter Tryz.func125,Tryz.ntmps125
   obtain ⟨a1,a2,a0⟩:=ent2 w #[.slice x.A x.n x.c,.int .i64 p.lo,.int .i64 p.hi,.int .i64 p.lb,.int .i64 p.hb,.bool false,.int .i64 p.fb,.slice x.B x.m x.d] 48 #[.slice y.A y.n y.c,.int .i64 q.lo,.int .i64 q.hi,.int .i64 q.lb,.int .i64 q.hb,.bool true,.int .i64 q.fb,.slice y.B y.m y.d] 48
   obtain ⟨b3,b4,b5,b6,b7,b8,a3,a4⟩:=at8 a1
   obtain ⟨a5,a6,a7,a8,a9,b0,b1,b2⟩:=at8 a2
   go_wp2
   go_ret
   exact ⟨ret_bool (by have hc:=HC.out;have hd:=HD.out;first|rfl | (simp;done) | (simp;omega)),a0.out⟩
 · skip
   go_enter Tryz.func125,Tryz.ntmps125
   obtain ⟨a1,a2,a0⟩:=ent2 w #[.slice x.A x.n x.c,.int .i64 p.lo,.int .i64 p.hi,.int .i64 p.lb,.int .i64 p.hb,.bool true,.int .i64 p.fb,.slice x.B x.m x.d] 48 #[.slice y.A y.n y.c,.int .i64 q.lo,.int .i64 q.hi,.int .i64 q.lb,.int .i64 q.hb,.bool false,.int .i64 q.fb,.slice y.B y.m y.d] 48
   obtain ⟨b3,b4,b5,b6,b7,b8,a3,a4⟩:=at8 a1
   obtain ⟨a5,a6,a7,a8,a9,b0,b1,b2⟩:=at8 a2
   go_wp2
   go_ret
   exact ⟨ret_bool (by have hc:=HC.out;have hd:=HD.out;first|rfl | (simp;done) | (simp;omega)),a0.out⟩
 · skip
   go_enter Tryz.func125,Tryz.ntmps125
   obtain ⟨a1,a2,a0⟩:=ent2 w #[.slice x.A x.n x.c,.int .i64 p.lo,.int .i64 p.hi,.int .i64 p.lb,.int .i64 p.hb,.bool true,.int .i64 p.fb,.slice x.B x.m x.d] 48 #[.slice y.A y.n y.c,.int .i64 q.lo,.int .i64 q.hi,.int .i64 q.lb,.int .i64 q.hb,.bool true,.int .i64 q.fb,.slice y.B y.m y.d] 48
   obtain ⟨b3,b4,b5,b6,b7,b8,a3,a4⟩:=at8 a1
   obtain ⟨a5,a6,a7,a8,a9,b0,b1,b2⟩:=at8 a2
   go_wp2
   go_ret
   exact ⟨ret_bool (by have hc:=HC.out;have hd:=HD.out;first|rfl | (simp;done) | (simp;omega)),a0.out⟩
 · skip
   go_enter Tryz.func125,Tryz.ntmps125
   obtain ⟨a1,a2,a0⟩:=ent2 w #[.slice x.A x.n x.c,.int .i64 p.lo,.int .i64 p.hi,.int .i64 p.lb,.int .i64 p.hb,.bool false,.int .i64 p.fb,.slice x.B x.m x.d] 48 #[.slice y.A y.n y.c,.int .i64 q.lo,.int .i64 q.hi,.int .i64 q.lb,.int .i64 q.hb,.bool false,.int .i64 q.fb,.slice y.B y.m y.d] 48
   obtain ⟨b3,b4,b5,b6,b7,b8,a3,a4⟩:=at8 a1
   obtain ⟨a5,a6,a7,a8,a9,b0,b1,b2⟩:=at8 a2
   go_wp2
   go_ret
   exact ⟨ret_bool (by have hc:=HC.out;have hd:=HD.out;first|rfl | (simp;done) | (simp;omega)),a0.out⟩
 · skip
   go_enter Tryz.func125,Tryz.ntmps125
   obtain ⟨a1,a2,a0⟩:=ent2 w #[.slice x.A x.n x.c,.int .i64 p.lo,.int .i64 p.hi,.int .i64 p.lb,.int .i64 p.hb,.bool false,.int .i64 p.fb,.slice x.B x.m x.d] 48 #[.slice y.A y.n y.c,.int .i64 q.lo,.int .i64 q.hi,.int .i64 q.lb,.int .i64 q.hb,.bool true,.int .i64 q.fb,.slice y.B y.m y.d] 48
   obtain ⟨b3,b4,b5,b6,b7,b8,a3,a4⟩:=at8 a1
   obtain ⟨a5,a6,a7,a8,a9,b0,b1,b2⟩:=at8 a2
   go_wp2
   go_ret
   exact ⟨ret_bool (by have hc:=HC.out;have hd:=HD.out;first|rfl | (simp;done) | (simp;omega)),a0.out⟩
 · skip
   go_enter Tryz.func125,Tryz.ntmps125
   obtain ⟨a1,a2,a0⟩:=ent2 w #[.slice x.A x.n x.c,.int .i64 p.lo,.int .i64 p.hi,.int .i64 p.lb,.int .i64 p.hb,.bool true,.int .i64 p.fb,.slice x.B x.m x.d] 48 #[.slice y.A y.n y.c,.int .i64 q.lo,.int .i64 q.hi,.int .i64 q.lb,.int .i64 q.hb,.bool false,.int .i64 q.fb,.slice y.B y.m y.d] 48
   obtain ⟨b3,b4,b5,b6,b7,b8,a3,a4⟩:=at8 a1
   obtain ⟨a5,a6,a7,a8,a9,b0,b1,b2⟩:=at8 a2
   go_wp2
   go_ret
   exact ⟨ret_bool (by have hc:=HC.out;have hd:=HD.out;first|rfl | (simp;done) | (simp;omega)),a0.out⟩
 · skip
   go_enter Tryz.func125,Tryz.ntmps125
   obtain ⟨a1,a2,a0⟩:=ent2 w #[.slice x.A x.n x.c,.int .i64 p.lo,.int .i64 p.hi,.int .i64 p.lb,.int .i64 p.hb,.bool true,.int .i64 p.fb,.slice x.B x.m x.d] 48 #[.slice y.A y.n y.c,.int .i64 q.lo,.int .i64 q.hi,.int .i64 q.lb,.int .i64 q.hb,.bool true,.int .i64 q.fb,.slice y.B y.m y.d] 48
   obtain ⟨b3,b4,b5,b6,b7,b8,a3,a4⟩:=at8 a1
   obtain ⟨a5,a6,a7,a8,a9,b0,b1,b2⟩:=at8 a2
   go_wp2
   go_ret
   exact ⟨ret_bool (by have hc:=HC.out;have hd:=HD.out;first|rfl | (simp;done) | (simp;omega)),a0.out⟩
 · skip
   go_enter Tryz.func125,Tryz.ntmps125
   obtain ⟨a1,a2,a0⟩:=ent2 w #[.slice x.A x.n x.c,.int .i64 p.lo,.int .i64 p.hi,.int .i64 p.lb,.int .i64 p.hb,.bool false,.int .i64 p.fb,.slice x.B x.m x.d] 48 #[.slice y.A y.n y.c,.int .i64 q.lo,.int .i64 q.hi,.int .i64 q.lb,.int .i64 q.hb,.bool false,.int .i64 q.fb,.slice y.B y.m y.d] 48
   obtain ⟨b3,b4,b5,b6,b7,b8,a3,a4⟩:=at8 a1
   obtain ⟨a5,a6,a7,a8,a9,b0,b1,b2⟩:=at8 a2
   go_wp2
   go_ret
   exact ⟨ret_bool (by have hc:=HC.out;have hd:=HD.out;first|rfl | (simp;done) | (simp;omega)),a0.out⟩
 · skip
   go_enter Tryz.func125,Tryz.ntmps125
   obtain ⟨a1,a2,a0⟩:=ent2 w #[.slice x.A x.n x.c,.int .i64 p.lo,.int .i64 p.hi,.int .i64 p.lb,.int .i64 p.hb,.bool false,.int .i64 p.fb,.slice x.B x.m x.d] 48 #[.slice y.A y.n y.c,.int .i64 q.lo,.int .i64 q.hi,.int .i64 q.lb,.int .i64 q.hb,.bool true,.int .i64 q.fb,.slice y.B y.m y.d] 48
   obtain ⟨b3,b4,b5,b6,b7,b8,a3,a4⟩:=at8 a1
   obtain ⟨a5,a6,a7,a8,a9,b0,b1,b2⟩:=at8 a2
   go_wp2
   go_ret
   exact ⟨ret_bool (by have hc:=HC.out;have hd:=HD.out;first|rfl | (simp;done) | (simp;omega)),a0.out⟩
 · skip
   go_enter Tryz.func125,Tryz.ntmps125
   obtain ⟨a1,a2,a0⟩:=ent2 w #[.slice x.A x.n x.c,.int .i64 p.lo,.int .i64 p.hi,.int .i64 p.lb,.int .i64 p.hb,.bool true,.int .i64 p.fb,.slice x.B x.m x.d] 48 #[.slice y.A y.n y.c,.int .i64 q.lo,.int .i64 q.hi,.int .i64 q.lb,.int .i64 q.hb,.bool false,.int .i64 q.fb,.slice y.B y.m y.d] 48
   obtain ⟨b3,b4,b5,b6,b7,b8,a3,a4⟩:=at8 a1
   obtain ⟨a5,a6,a7,a8,a9,b0,b1,b2⟩:=at8 a2
   go_wp2
   go_ret
   exact ⟨ret_bool (by have hc:=HC.out;have hd:=HD.out;first|rfl | (simp;done) | (simp;omega)),a0.out⟩
 · skip
   go_enter Tryz.func125,Tryz.ntmps125
   obtain ⟨a1,a2,a0⟩:=ent2 w #[.slice x.A x.n x.c,.int .i64 p.lo,.int .i64 p.hi,.int .i64 p.lb,.int .i64 p.hb,.bool true,.int .i64 p.fb,.slice x.B x.m x.d] 48 #[.slice y.A y.n y.c,.int .i64 q.lo,.int .i64 q.hi,.int .i64 q.lb,.int .i64 q.hb,.bool true,.int .i64 q.fb,.slice y.B y.m y.d] 48
   obtain ⟨b3,b4,b5,b6,b7,b8,a3,a4⟩:=at8 a1
   obtain ⟨a5,a6,a7,a8,a9,b0,b1,b2⟩:=at8 a2
   go_wp2
   go_ret
   exact ⟨ret_bool (by have hc:=HC.out;have hd:=HD.out;first|rfl | (simp;done) | (simp;omega)),a0.out⟩
theorem apart_is (p q:Prt) (x y:PAd) (ft ft2:Bool) (w:World) (v:Bool) (hv:((ft&&ft2) || decide (p.hi<q.lo) || decide (q.hi<p.lo))=v):Calls Tryz.prog 125 #[.agg #[.slice x.A x.n x.c,.int .i64 p.lo,.int .i64 p.hi,.int .i64 p.lb,.int .i64 p.hb,.bool ft,.int .i64 p.fb,.slice x.B x.m x.d],.agg #[.slice y.A y.n y.c,.int .i64 q.lo,.int .i64 q.hi,.int .i64 q.lb,.int .i64 q.hb,.bool ft2,.int .i64 q.fb,.slice y.B y.m y.d]] w fun e w'=>e=.returned (.bool v)∧Below w.heap.size w w':=by
 subst hv
 exact apart0 p q x y ft ft2 w
end Go.Proofs.YtokpblmgdmokoaaGreat
