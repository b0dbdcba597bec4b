import Derived.Test.YtokpblmgdmokoaaGreatProg
import Derived.BigQuiet
import Derived.Deep.RegionHeld3
import Derived.Deep.WholeRow
import Derived.Lib.Hide
import Derived.OwnWalkIn
import Derived.WalkLawsBesides
import Derived.WalkSpells
set_option linter.unusedSimpArgs false
set_option linter.unusedVariables false
namespace Go.Proofs.YtokpblmgdmokoaaGreat
structure Bnd where
 f:Int
 t:Int
 m:Int
 b:Int
deriving DecidableEq,Inhabited
def Inf:Int:=9223372036854775807
def look (x:List Int) (i:Int):Int:=x.getD i.toNat 0
def relax (x:List Int) (y:List Int) (b:Bnd):List Int :=
 if look x b.f=Inf then y else y.set b.t.toNat (min (look y b.t) (look x b.f+b.m))
def longer (l:List Bnd) (x:List Int):List Int:=l.foldl (relax x) x
def rounds (l:List Bnd):Nat→List Int→List Int
 | 0,x=>x
 | n+1,x=>longer l (rounds l n x)
end Go.Proofs.YtokpblmgdmokoaaGreat
/- Least sums of paths: plain facts on lists of numbers; nothing of the program is named here. -/
namespace Go.Proofs.YtokpblmgdmokoaaGreat
def at_ (x:List Int) (i:Nat):Int:=x.getD i 0
def conv (far:Int) (a:Int):Int:=if a=Inf then far else a
open Go.RowKit
def Bnd.val (x:Bnd):Value:=.agg #[.int .i64 x.f,.int .i64 x.t,.int .i64 x.m,.int .i64 x.b]
def Bnd.cells (x:Bnd):List Value:=[.int .i64 x.f,.int .i64 x.t,.int .i64 x.m,.int .i64 x.b]
def bcells (l:List Bnd):List Value:=l.flatMap Bnd.cells
theorem bcells_length (l:List Bnd):(bcells l).length=l.length * 4:=by
 induction l with
 | nil=>rfl
 | cons x l ih=>simp only [bcells,List.flatMap_cons,List.length_append,List.length_cons] at ih ⊢;rw [ih];simp [Bnd.cells];omega
theorem bcells_get (l:List Bnd) (k j:Nat) (x:Bnd) (h:l[k]?=some x) (hj:j<4):(bcells l)[k * 4+j]?=x.cells[j]?:=by
 induction l generalizing k with
 | nil=>simp at h
 | cons y l ih =>
  cases k with
  | zero =>
   simp at h
   subst h
   simp only [bcells,List.flatMap_cons,Nat.zero_mul,Nat.zero_add]
   rw [List.getElem?_append_left (by simp [Bnd.cells];omega)]
  | succ k =>
   simp only [bcells,List.flatMap_cons]
   rw [List.getElem?_append_right (by simp [Bnd.cells];omega)]
   have e:(k+1) * 4+j-y.cells.length=k * 4+j:=by simp [Bnd.cells];omega
   rw [e]
   exact ih k (by simpa using h)
def Cells (w:World) (A:Option Addr) (cs:List Value):Prop :=
 cs=[]∨∃ b o,A=some ⟨b,o,none⟩∧b<w.heap.size∧∀ j u,cs[j]?=some u→w.cell? ⟨b,o+j,none⟩=some u
theorem Cells.below {w w':World} {A:Option Addr} {cs:List Value} (h:Cells w A cs) (hb:Below w.heap.size w w'):Cells w' A cs:=by
 rcases h with h|⟨b,o,e,hlt,hc⟩
 · exact .inl h
 · exact .inr ⟨b,o,e,Nat.lt_of_lt_of_le hlt hb.size,fun j u hu=>(hb.cell (p:=⟨b,_,none⟩) hlt).trans (hc j u hu)⟩
structure RdB (w:World) (A:Option Addr) (n c:Nat) (l:List Bnd):Prop where
 len:l.length=n
 cap:n≤c
 nil:A=none→n=0∧c=0
 cells:Cells w A (bcells l)
structure RdI (w:World) (A:Option Addr) (n c:Nat) (l:List Int):Prop where
 len:l.length=n
 cap:n≤c
 nil:A=none→n=0∧c=0
 cells:Cells w A (l.map (Value.int .i64))
section
variable {w w':World} {A:Option Addr} {n c:Nat}
theorem RdB.below {l:List Bnd} (h:RdB w A n c l) (hb:Below w.heap.size w w'):RdB w' A n c l:=⟨h.len,h.cap,h.nil,h.cells.below hb⟩
theorem RdI.below {l:List Int} (h:RdI w A n c l) (hb:Below w.heap.size w w'):RdI w' A n c l:=⟨h.len,h.cap,h.nil,h.cells.below hb⟩
theorem Cells.alloc {cs:List Value} (h:Cells w A cs) (o:Obj):Cells (w.alloc o) A cs:=h.below ((Below.refl _ w).alloc (Nat.le_refl _) o)
theorem Cells.drew {cs:List Value} (h:Cells w A cs):Cells w.drew A cs:=h
theorem RdB.alloc {l:List Bnd} (h:RdB w A n c l) (o:Obj):RdB (w.alloc o) A n c l:=⟨h.len,h.cap,h.nil,h.cells.alloc o⟩
theorem RdB.drew {l:List Bnd} (h:RdB w A n c l):RdB w.drew A n c l:=⟨h.len,h.cap,h.nil,h.cells.drew⟩
theorem RdI.alloc {l:List Int} (h:RdI w A n c l) (o:Obj):RdI (w.alloc o) A n c l:=⟨h.len,h.cap,h.nil,h.cells.alloc o⟩
theorem RdI.drew {l:List Int} (h:RdI w A n c l):RdI w.drew A n c l:=⟨h.len,h.cap,h.nil,h.cells.drew⟩
theorem RdB.get {l:List Bnd} (h:RdB w A n c l) {k:Nat} (hk:k<n):∃ b o f t m i,A=some ⟨b,o,none⟩∧b<w.heap.size∧l[k]?=some ⟨f,t,m,i⟩ ∧
 w.cell? ⟨b,o+k * 4,none⟩=some (.int .i64 f)∧w.cell? ⟨b,o+k * 4+1,none⟩=some (.int .i64 t) ∧
 w.cell? ⟨b,o+k * 4+2,none⟩=some (.int .i64 m)∧w.cell? ⟨b,o+k * 4+3,none⟩=some (.int .i64 i):=by
 have hl:k<l.length:=by rw [h.len];exact hk
 rcases h.cells with h0|⟨b,o,e,hlt,hc⟩
 · have:=congrArg List.length h0
   rw [bcells_length] at this
   simp only [List.length_nil] at this
   omega
 · have hx:=List.getElem?_eq_getElem hl
   have g:=fun j hj=>bcells_get l k j l[k] hx hj
   refine ⟨b,o,_,_,_,_,e,hlt,hx,?_,?_,?_,?_⟩
   · have:=hc (k * 4+0) _ (g 0 (by omega));rwa [Nat.add_zero] at this
   · have:=hc (k * 4+1) _ (g 1 (by omega));rwa [← Nat.add_assoc] at this
   · have:=hc (k * 4+2) _ (g 2 (by omega));rwa [← Nat.add_assoc] at this
   · have:=hc (k * 4+3) _ (g 3 (by omega));rwa [← Nat.add_assoc] at this
theorem RdI.get {l:List Int} (h:RdI w A n c l) {k:Nat} (hk:k<n):∃ b o x,A=some ⟨b,o,none⟩∧b<w.heap.size∧l[k]?=some x∧w.cell? ⟨b,o+k,none⟩=some (.int .i64 x):=by
 have hl:k<l.length:=by rw [h.len];exact hk
 rcases h.cells with h0|⟨b,o,e,hlt,hc⟩
 · simp at h0
   rw [h0] at hl
   simp at hl
 · have hx:=List.getElem?_eq_getElem hl
   exact ⟨b,o,_,e,hlt,hx,hc k _ (by simp [hx])⟩
end
def OwnI (w:World) (base:Nat) (A:Option Addr) (n c:Nat) (l:List Int):Prop:=w.ownsRow base 3 1 (.slice A n c) n (l.map (Value.int .i64))
theorem own_form {w:World} {base:Nat} {e:TypeId} {size:Nat} {v:Value} {n:Nat} {xs:List Value} (h:w.ownsRow base e size v n xs):∃ A c,v=.slice A n c∧n≤c∧c≤maxLen∧(A=none→n=0∧c=0)∧Cells w A xs:=by
 have hcell:=fun g=>h.cells (g:=g)
 rcases h.2 with ⟨rfl,rfl⟩|⟨g,cap,cur,rfl,hb,hg,hn,hm,hs,ht⟩
 · refine ⟨none,0,rfl,Nat.le_refl _,Nat.zero_le _,fun _=>⟨rfl,rfl⟩,.inl ?_⟩
   have:=h.1
   simp at this
   exact this
 · refine ⟨_,cap,rfl,hn,hm,(fun h=>by cases h),.inr ⟨g,0,rfl,(Array.getElem?_eq_some_iff.1 hg).1,fun j u hu=>?_⟩⟩
   have:=hcell g rfl j u hu
   rwa [Addr.add_lit] at this
theorem OwnI.rd {w:World} {base:Nat} {A:Option Addr} {n c:Nat} {l:List Int} (h:OwnI w base A n c l):RdI w A n c l∧c≤maxLen:=by
 obtain ⟨A',c',e,h1,h2,h3,h4⟩:=own_form h
 injection e with e1 e2 e3
 subst e1 e3
 refine ⟨⟨?_,h1,h3,h4⟩,h2⟩
 have:=h.1
 simp at this
 omega
theorem owns_below {w w':World} {base:Nat} {e:TypeId} {size:Nat} {v:Value} {n:Nat} {xs:List Value} (h:w.ownsRow base e size v n xs) (hb:Below w.heap.size w w'):w'.ownsRow base e size v n xs:=by
 refine ⟨h.1,?_⟩
 rcases h.2 with h2|⟨g,cap,cur,hv,hg,hh,r⟩
 · exact .inl h2
 · exact .inr ⟨g,cap,cur,hv,hg,(hb.block g (Array.getElem?_eq_some_iff.1 hh).1).trans hh,r⟩
theorem owns_base {w:World} {base base':Nat} {e:TypeId} {size:Nat} {v:Value} {n:Nat} {xs:List Value} (h:w.ownsRow base e size v n xs) (hb:base'≤base):w.ownsRow base' e size v n xs:=by
 refine ⟨h.1,?_⟩
 rcases h.2 with h2|⟨g,cap,cur,hv,hg,r⟩
 · exact .inl h2
 · exact .inr ⟨g,cap,cur,hv,Nat.le_trans hb hg,r⟩
def Blk (w:World) (g:Nat) (t:TypeId) (cs:Array Value):Prop:=w.heap[g]?=some (.cells cs t (0,0))
section
variable {w w':World} {g:Nat} {t:TypeId} {cs:Array Value}
theorem Blk.lt (h:Blk w g t cs):g<w.heap.size:=(Array.getElem?_eq_some_iff.1 h).1
theorem Blk.cell (h:Blk w g t cs) (i:Nat):w.cell? ⟨g,i,none⟩=cs[i]?:=cell_of_row w g i cs t (0,0) h
theorem Blk.frozen (h:Blk w g t cs) (i:Nat):w.frozen? ⟨g,i,none⟩=false:=frozen_of_row w g i cs t h
theorem Blk.new (w:World) (t:TypeId) (cs:Array Value):Blk (w.alloc (.cells cs t)) w.heap.size t cs:=heap_alloc_new w _
theorem Blk.below {B:Nat} (h:Blk w g t cs) (hb:Below B w w') (hg:g<B):Blk w' g t cs:=(hb.block g hg).trans h
theorem Blk.keep (h:Blk w g t cs) (hb:Below w.heap.size w w'):Blk w' g t cs:=(hb.block g h.lt).trans h
theorem Blk.alloc (h:Blk w g t cs) (o:Obj):Blk (w.alloc o) g t cs:=(Below.heap_alloc w o g h.lt).trans h
theorem Blk.drew (h:Blk w g t cs):Blk w.drew g t cs:=h
theorem Blk.set_ (h:Blk w g t cs) (i:Nat) (u:Value):Blk (w.setCell ⟨g,i,none⟩ u) g t (cs.setIfInBounds i u):=heap_setCell_same w g i cs t u h
theorem Blk.far (h:Blk w g t cs) {p:Addr} (hp:g≠p.block) (u:Value):Blk (w.setCell p u) g t cs:=(heap_setCell_other w p g u hp).trans h
theorem Blk.row (h:Blk w g t cs) (cs':Array Value):Blk (w.setRow g cs') g t cs':=setRow_heap w g cs cs' t (0,0) h
end
theorem below_setRow {B:Nat} {a w:World} (h:Below B a w) {g:Nat} (hg:B≤g) (cs:Array Value):Below B a (w.setRow g cs) :=
 h.trans ⟨rfl,rfl,rfl,by simp,fun k hk=>setRow_other w g k cs (by omega)⟩
def arr (x:List Int):Array Value:=(x.map (Value.int .i64)).toArray
theorem arr_get (x:List Int) (i:Nat) (h:i<x.length):(arr x)[i]?=some (.int .i64 (at_ x i)):=by
 simp [arr,at_,List.getD_eq_getElem?_getD,List.getElem?_eq_getElem h]
theorem arr_set (x:List Int) (i:Nat) (v:Int):(arr x).setIfInBounds i (.int .i64 v)=arr (x.set i v):=by
 simp [arr,List.map_set]
section
variable {P:Program} {w:World} {ops:Array Oper} {rest:List Oper} {o:Oper} {a:Act} {Q:Exit→Act→World→Prop}
variable {F:Fence} {nn:Nat}
end
theorem ret_int {k:IntKind} {a b:Int} (h:a=b):Ending.returned (.int k a)=.returned (.int k b):=by rw [h]
theorem ret_bool {a b:Bool} (h:a=b):Ending.returned (.bool a)=.returned (.bool b):=by rw [h]
end Go.Proofs.YtokpblmgdmokoaaGreat
/- CheckSystem of gauge, and what it calls. -/
namespace Go.Proofs.YtokpblmgdmokoaaGreat
open Go.RowKit
end Go.Proofs.YtokpblmgdmokoaaGreat
/- Short forms for the walks' texts: cells by their place, an operation that is taken first or comes up next (its text is read off the region), facts kept hidden. -/
namespace Go.Proofs.YtokpblmgdmokoaaGreat
open Go.RowKit
theorem Blk.nth {w:World} {g:Nat} {t:TypeId} {l:List Value} (h:Blk w g t l.toArray) (i:Nat) {v:Value} (hv:l[i]?=some v:=by rfl):w.cell? ⟨g,i,none⟩=some v :=
 (h.cell i).trans (by rw [← hv];simp)
section
variable {P:Program} {ops:Array Oper} {Q:Exit→Act→World→Prop} {md:Region.Mode} {S:World→Prop} {fuel:Nat} {listed:Array Bool} {a:Act} {w:World}
theorem opAt {i:Nat} {o:Oper} (h:ops.toList[i]?=some o):ops[i]?=some o:=by rw [← Array.getElem?_toList];exact h
def mayTake (md:Region.Mode) (ops:Array Oper) (listed:Array Bool) (i:Nat):Bool:=Region.noSelect ops&&(Region.free md ops listed i&&(Region.ready md ops listed).contains i)
theorem mayTake_ok {i:Nat} (h:mayTake md ops listed i=true):Region.noSelect ops=true∧Region.free md ops listed i=true∧(Region.ready md ops listed).contains i=true:=by
 unfold mayTake at h
 simp only [Bool.and_eq_true] at h
 exact h
theorem tkH (i:Nat) {oi:Oper} {v:Value} (hS:S w) (hy:∀ w,S w→(execOp a.eval oi).run P w=.ok (.value v) w) (h:wpAnyH P md ops Q S fuel (listed.setIfInBounds i true) (a.put oi.dst v) w)
 (hi:ops.toList[i]?=some oi:=by rfl) (hk:mayTake md ops listed i=true:=by kernel_rfl) (hw:Region.wanted oi (yielded ops a.tmps)=true:=by rfl) (hQ:∀ c a w,Q (.panic c) (a.put oi.dst v) w→Q (.panic c) a w:=by exact fun _ _ _ h=>h):wpAnyH P md ops Q S (fuel+1) listed a w :=
 wpAnyH_take (opAt hi) (mayTake_ok hk).1 (mayTake_ok hk).2.1 (mayTake_ok hk).2.2 hQ (.inl ⟨hw,hy⟩) hS h
theorem tkNH (i:Nat) {oi:Oper} (hS:S w) (h:wpAnyH P md ops Q S fuel (listed.setIfInBounds i true) (a.put oi.dst undef) w)
 (hi:ops.toList[i]?=some oi:=by rfl) (hk:mayTake md ops listed i=true:=by kernel_rfl) (hw:Region.wanted oi (yielded ops a.tmps)=false:=by rfl) (hQ:∀ c a w,Q (.panic c) (a.put oi.dst undef) w→Q (.panic c) a w:=by exact fun _ _ _ h=>h):wpAnyH P md ops Q S (fuel+1) listed a w :=
 wpAnyH_take (opAt hi) (mayTake_ok hk).1 (mayTake_ok hk).2.1 (mayTake_ok hk).2.2 hQ (.inr ⟨hw,rfl⟩) hS h
theorem twH (i:Nat) {oi:Oper} {v:Value} (hS:S w) (h:wpAnyH P md ops Q S fuel (listed.setIfInBounds i true) (a.put oi.dst v) w)
 (hi:ops.toList[i]?=some oi:=by rfl) (hk:mayTake md ops listed i=true:=by kernel_rfl) (hw:Region.wanted oi (yielded ops a.tmps)=true:=by rfl) (hy:∀ w,S w→(execOp a.eval oi).run P w=.ok (.value v) w:=by rintro _ -;go_simp;try with_reducible rfl) (hQ:∀ c a w,Q (.panic c) (a.put oi.dst v) w→Q (.panic c) a w:=by exact fun _ _ _ h=>h):wpAnyH P md ops Q S (fuel+1) listed a w :=
 tkH i hS hy h hi hk hw hQ
theorem rdH {i:Nat} {o:Oper} {rs:List Nat} (ho:ops.toList[i]?=some o)
 (h:∀ K':Act→World→Prop,Shut (∀ a w,S w→(S w→wpAnyH P md ops Q S fuel (listed.setIfInBounds i true) a w)→K' a w)→if Region.wanted o (yielded ops a.tmps)=true then Oper.wp P o a w K' Q else K' (a.put o.dst undef) w)
 (hs:AllReadyH P md ops Q S fuel listed a w rs):AllReadyH P md ops Q S fuel listed a w (i::rs):=AllReadyH.cons (opAt ho) h hs
theorem oneH (i:Nat) {o:Oper} (ho:ops.toList[i]?=some o)
 (h:∀ K':Act→World→Prop,Shut (∀ a w,S w→(S w→wpAnyH P md ops Q S fuel (listed.setIfInBounds i true) a w)→K' a w)→if Region.wanted o (yielded ops a.tmps)=true then Oper.wp P o a w K' Q else K' (a.put o.dst undef) w)
 (hr:Region.ready md ops listed=[i]:=by kernel_rfl):wpAnyH P md ops Q S (fuel+1) listed a w:=wpAnyH_ready hr (by simp) (rdH ho h .nil)
end
theorem qsA {α:Type} (l:List α) (i:Nat) (x:α):l.toArray.setIfInBounds i x=(l.set i x).toArray:=List.setIfInBounds_toArray ..
theorem qsZ {α:Type} (y:α) (l:List α) (x:α):(y::l).set 0 x=x::l:=rfl
theorem qsS {α:Type} (y:α) (l:List α) (n:Nat) (x:α):(y::l).set (n+1) x=y::l.set n x:=rfl
theorem pq:(∀ (a:Act) (d:Nat) (v:Value),a.put (some d) v={ a with tmps:=a.tmps.setIfInBounds d v })∧(∀ (a:Act) (v:Value),a.put none v=a)∧(∀ (l:List Value) (i:Nat) (x:Value),l.toArray.setIfInBounds i x=(l.set i x).toArray)∧(∀ (y:Value) (l:List Value) (x:Value),(y::l).set 0 x=x::l)∧∀ (y:Value) (l:List Value) (n:Nat) (x:Value),(y::l).set (n+1) x=y::l.set n x :=
 ⟨fun _ _ _=>rfl,fun _ _=>rfl,fun _ _ _=>List.setIfInBounds_toArray ..,fun _ _ _=>rfl,fun _ _ _ _=>rfl⟩
theorem at1 {w:World} {g:Nat} {t:TypeId} {a0:Value} (h:Hid (Blk w g t #[a0])):w.cell? ⟨g,0,none⟩=some a0:=h.out.nth 0
theorem at2 {w:World} {g:Nat} {t:TypeId} {a0 a1:Value} (h:Hid (Blk w g t #[a0,a1])):w.cell? ⟨g,0,none⟩=some a0∧w.cell? ⟨g,1,none⟩=some a1:=⟨h.out.nth 0,h.out.nth 1⟩
theorem at4 {w:World} {g:Nat} {t:TypeId} {a0 a1 a2 a3:Value} (h:Hid (Blk w g t #[a0,a1,a2,a3])):w.cell? ⟨g,0,none⟩=some a0∧w.cell? ⟨g,1,none⟩=some a1∧w.cell? ⟨g,2,none⟩=some a2∧w.cell? ⟨g,3,none⟩=some a3:=⟨h.out.nth 0,h.out.nth 1,h.out.nth 2,h.out.nth 3⟩
theorem at8 {w:World} {g:Nat} {t:TypeId} {a0 a1 a2 a3 a4 a5 a6 a7:Value} (h:Hid (Blk w g t #[a0,a1,a2,a3,a4,a5,a6,a7])):w.cell? ⟨g,0,none⟩=some a0∧w.cell? ⟨g,1,none⟩=some a1∧w.cell? ⟨g,2,none⟩=some a2∧w.cell? ⟨g,3,none⟩=some a3∧w.cell? ⟨g,4,none⟩=some a4∧w.cell? ⟨g,5,none⟩=some a5∧w.cell? ⟨g,6,none⟩=some a6∧w.cell? ⟨g,7,none⟩=some a7:=⟨h.out.nth 0,h.out.nth 1,h.out.nth 2,h.out.nth 3,h.out.nth 4,h.out.nth 5,h.out.nth 6,h.out.nth 7⟩
section
open Go.Lib
variable {w w' w0:World} {g B:Nat} {t:TypeId} {cs:Array Value} {A:Option Addr} {n c:Nat} {l:List Bnd} {x:List Int}
theorem kH (h:Hid (Blk w g t cs)) (hb:Hid (Below w.heap.size w w')):Hid (Blk w' g t cs):=hid (h.out.keep hb.out)
theorem iH (h:Hid (RdI w A n c x)) (hb:Hid (Below w.heap.size w w')):Hid (RdI w' A n c x):=hid (h.out.below hb.out)
theorem bH (h:Hid (Below w0.heap.size w0 w)) (hb:Hid (Below w.heap.size w w')):Hid (Below w0.heap.size w0 w'):=hid (h.out.trans (hb.out.mono h.out.size))
theorem iI (h:RdI w A n c x) (hb:Hid (Below w.heap.size w w')):Hid (RdI w' A n c x):=hid (h.below hb.out)
theorem kB (h:Hid (Blk w g t cs)) (hb:Below w.heap.size w w'):Hid (Blk w' g t cs):=hid (h.out.keep hb)
theorem kD (h:Hid (Blk w g t cs)):Hid (Blk w.drew g t cs):=hid h.out.drew
theorem kA (h:Hid (Blk w g t cs)) (o:Obj):Hid (Blk (w.alloc o) g t cs):=hid (h.out.alloc o)
theorem iB (h:Hid (RdI w A n c x)) (hb:Below w.heap.size w w'):Hid (RdI w' A n c x):=hid (h.out.below hb)
theorem iD (h:Hid (RdI w A n c x)):Hid (RdI w.drew A n c x):=hid h.out.drew
theorem iA (h:Hid (RdI w A n c x)) (o:Obj):Hid (RdI (w.alloc o) A n c x):=hid (h.out.alloc o)
theorem bD (h:Hid (Below w0.heap.size w0 w)):Hid (Below w0.heap.size w0 w.drew):=hid h.out.drew
theorem bA (h:Hid (Below w0.heap.size w0 w)) (o:Obj):Hid (Below w0.heap.size w0 (w.alloc o)):=hid (h.out.alloc h.out.size o)
theorem ent1 (w:World) (c0:Array Value) (t0:TypeId):Hid (Blk (w.alloc (.cells c0 t0)) w.heap.size t0 c0)∧Hid (Below w.heap.size w (w.alloc (.cells c0 t0))):=⟨hid (Blk.new ..),hid ((Below.refl _ w).alloc (Nat.le_refl _) _)⟩
theorem ent2 (w:World) (c0:Array Value) (t0:TypeId) (c1:Array Value) (t1:TypeId):Hid (Blk ((w.alloc (.cells c0 t0)).alloc (.cells c1 t1)) w.heap.size t0 c0)∧Hid (Blk ((w.alloc (.cells c0 t0)).alloc (.cells c1 t1)) (w.heap.size+1) t1 c1)∧Hid (Below w.heap.size w ((w.alloc (.cells c0 t0)).alloc (.cells c1 t1))):=by
 obtain ⟨h1,h2⟩:=ent1 w c0 t0
 have h3:=Blk.new (w.alloc (.cells c0 t0)) t1 c1
 simp only [World.size_alloc] at h3
 exact ⟨kA h1 _,hid h3,bA h2 _⟩
end
end Go.Proofs.YtokpblmgdmokoaaGreat
