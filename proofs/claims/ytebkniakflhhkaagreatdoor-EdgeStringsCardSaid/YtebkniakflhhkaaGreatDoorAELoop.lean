import Derived.Test.YtebkniakflhhkaaGreatDoorProg
import Derived.Deep.Draws
import Derived.RangeFuncBound
import Derived.RangeFuncNested
set_option linter.unusedSimpArgs false
set_option linter.unusedVariables false
namespace Go.Proofs.YtebkniakflhhkaaGreatDoor
open Go.RowKit
structure KeepsIn (B C:Nat) (W W':World):Prop where
 size:W.heap.size≤W'.heap.size
 same:∀ k,B≤k→k<C→k<W.heap.size→W'.heap[k]?=W.heap[k]?
theorem KeepsIn.refl (B C:Nat) (W:World):KeepsIn B C W W:=⟨Nat.le_refl _,fun _ _ _ _=>rfl⟩
theorem KeepsIn.trans {B C:Nat} {X Y Z:World} (h:KeepsIn B C X Y) (k:KeepsIn B C Y Z):KeepsIn B C X Z :=
 ⟨Nat.le_trans h.size k.size,fun i hB hC hi=>(k.same i hB hC (Nat.lt_of_lt_of_le hi h.size)).trans (h.same i hB hC hi)⟩
theorem KeepsIn.weaken {B C B' C':Nat} {W W':World} (h:KeepsIn B C W W') (hB:B≤B') (hC:C'≤C):KeepsIn B' C' W W':=⟨h.size,fun k hk hc hl=>h.same k (Nat.le_trans hB hk) (Nat.lt_of_lt_of_le hc hC) hl⟩
theorem KeepsIn.of_below {n B C:Nat} {W W':World} (h:Below n W W') (hn:W.heap.size≤n):KeepsIn B C W W':=⟨h.size,fun k _ _ hl=>h.block k (Nat.lt_of_lt_of_le hl hn)⟩
theorem KeepsIn.grown {B C:Nat} {W W':World} {row:Option Nat} (hg:W.grownBy W' row) (hr:∀ j,row=some j→j<B∨C≤j):KeepsIn B C W W' :=
 ⟨hg.size,fun k hk hc hl=>hg.block k hl (fun e=>by have:=hr k e.symm;omega)⟩
theorem KeepsIn.putObj (W:World) {l:Nat} (o:Obj) {B C:Nat} (h:l<B∨C≤l):KeepsIn B C W (W.putObj l o) :=
 ⟨by simp,fun k hk hc _=>World.putObj_heap_other (by omega)⟩
theorem KeepsIn.alloc (B C:Nat) (W:World) (o:Obj):KeepsIn B C W (W.alloc o):=KeepsIn.grown (World.grownBy_alloc W o none) (fun j e=>by cases e)
theorem KeepsIn.setCell {B C b i:Nat} (W:World) (v:Value) (h:b<B∨C≤b) {s:Option Nat}:KeepsIn B C W (W.setCell ⟨b,i,s⟩ v) :=
 ⟨by show W.heap.size≤(W.heap.modify _ _).size;rw [Array.size_modify];exact Nat.le_refl _,fun k hk hc _=>Below.heap_setCell W ⟨b,i,s⟩ v k (by show k≠b;omega)⟩
theorem KeepsIn.drew (B C:Nat) (W:World):KeepsIn B C W W.drew:=⟨Nat.le_refl _,fun _ _ _ _=>rfl⟩
theorem KeepsIn.drewN (B C q:Nat) (W:World):KeepsIn B C W (W.drewN q):=⟨Nat.le_refl _,fun _ _ _ _=>rfl⟩
theorem ownFrom_weaken {β:Type} {B B':Nat} {I:β→World→Prop} (h:OwnFrom B I) (hB:B≤B'):OwnFrom B' I :=
 fun s X Y row hs hg hr=>h s X Y row hs hg (fun r e=>⟨Nat.le_trans hB (hr r e).1,(hr r e).2⟩)
def SeqX {α:Type} (G:Nat) (P:Program) (g:Nat) (lb:Array Value) (encs:α→Array Value) (Kp:World→World→Prop) (S Sp:List α→Prop) (N:Nat) (w:World):Prop :=
 ∀ (n m l:Nat) (J Jx:List α→World→Prop) (W:World),Below w.heap.size w W→OwnFrom W.heap.size J→OwnFrom W.heap.size Jx →
  (∀ pre x W1,J pre W1→W.heap.size+G≤W1.heap.size→pre.length<N→YieldAt Fence.wide m P l (encs x) W1 fun e W'=>KeepsIn W.heap.size (W.heap.size+G) W1 W' ∧
   ((e=.returned (.bool true)∧J (pre++[x]) W'∧Kp W1 W')∨(e=.returned (.bool false)∧Jx (pre++[x]) W'))) →
  J [] W →
  CallsIn Fence.wide n P g (#[.func (.yield l) #[] #[]]++lb) W fun e W'=>(∃ v,e=.returned v)∧((∃ xs,S xs∧J xs W')∨(∃ pre,Sp pre∧Jx pre W'))
def postX {α:Type} (B C:Nat) (Kp:World→World→Prop) (I:List α→World→Prop) (Ix:Code→List α→World→Prop) (xs:List α) (W:World):Exit→Act→World→Prop
 | .normal,_,W'=>KeepsIn B C W W'∧Kp W W'∧I xs W'
 | .ret,_,W'=>KeepsIn B C W W'∧Ix .ret xs W'
 | .exit id,_,W'=>KeepsIn B C W W'∧Ix (.exit id) xs W'
 | .goto t,_,W'=>KeepsIn B C W W'∧Ix (.goto t) xs W'
 | .panic _,_,_=>False
 | .outgrown,_,_=>False
theorem rangeFunc_X {α:Type} {G:Nat} {P:Program} {n:Nat} {g:Operand} {ps:Array Tmp} {assign body:Code} {Q:Exit→Act→World→Prop} {a:Act} {w:World}
 {gf:Nat} {lb:Array Value} (hg:a.eval g=.func (.func gf) #[] lb) (eg:∀ args w,(callFunc gf args).run P w=.ok (.enter gf args) w)
 {encs:α→Array Value} {Kp:World→World→Prop} {S Sp:List α→Prop} {N:Nat} {w0:World} (hseq:SeqX G P gf lb encs Kp S Sp N w0) (hb0:Below w0.heap.size w0 w)
 (hKt:∀ {A B C:World},Kp A B→Kp B C→Kp A C) (hKb:∀ (W:World) (l:Nat) (o o':Obj),w.heap.size≤l→W.heap[l]?=some o→o.isCells=false→o.isWalk=false→Kp W (W.putObj l o')) (hps:∀ x,(encs x).size=ps.size)
 (I:List α→World→Prop) (Ix:Code→List α→World→Prop) (hI:OwnFrom w.heap.size I) (hIx:∀ c,OwnFrom w.heap.size (Ix c)) (h0:I [] w)
 (Ax:α→Act→World→Prop) (hAx:∀ x a',OwnFrom w.heap.size (fun (_:Unit) W=>Ax x a' W))
 (hassign:∀ (l:Nat) (pre:List α) (x:α) (W:World) (K:Act→World→Prop),I pre W→(∀ a' W',KeepsIn w.heap.size (w.heap.size+2+G) W W'→Kp W W'→I pre W'→Ax x a' W'→K a' W') →
  assign.wpIn (Fence.wide.inRound l) (n-1-1) P (Exit.then K (fun _ _ _=>False)) { tmps:=(ps.zip (encs x)).foldl (fun t (p,v)=>t.setIfInBounds p v) a.tmps,defers:=[] } W)
 (hbody:∀ (l:Nat) (pre:List α) (x:α) (a':Act) (W:World),w.heap.size<l→(∃ r,W.heap[l]?=some (.loop r))→w.heap.size+2+G≤W.heap.size→I pre W→Ax x a' W→pre.length<N →
  body.wpIn (Fence.wide.inRound l) (n-1-1) P (postX w.heap.size (w.heap.size+2+G) Kp I Ix (pre++[x]) W) a' W)
 (hdone:∀ (D:Nat) (xs:List α) (W:World),w.heap.size≤D→S xs→I xs W→W.heap[D]?=some (.deferred (some []))→Q .normal { a with defers:={ target:=.collected D,args:=#[] }::a.defers } W)
 (hstop:∀ (D:Nat) (c:Code) (pre:List α) (W:World),w.heap.size≤D→Sp pre→Ix c pre W→W.heap[D]?=some (.deferred (some []))→c.wpIn Fence.wide n P Q { a with defers:={ target:=.collected D,args:=#[] }::a.defers } W) :
 (Code.rangeFunc g ps assign body).wpIn Fence.wide n P Q a w:=by
 refine wpIn_rangeFunc fun fn hfn=>?_
 let R:LoopState→Option Code→Obj:=fun st j=>.loop { state:=st,pending:=j,fn:=fn,tmps:=a.tmps,params:=ps,assign:=assign,body:=body,defers:=w.heap.size }
 obtain ⟨W1,e1⟩:∃ W1,(w.alloc (.deferred (some []))).alloc (R .ready none)=W1:=⟨_,rfl⟩
 have hs1:W1.heap.size=w.heap.size+2:=by rw [← e1];simp
 have hd1:W1.heap[w.heap.size]?=some (.deferred (some [])):=by rw [← e1];exact (Below.heap_alloc _ _ _ (by simp)).trans (World.alloc_heap_new w _)
 have hr1:W1.heap[w.heap.size+1]?=some (R .ready none):=by
  rw [← e1];have h:=World.alloc_heap_new (w.alloc (.deferred (some []))) (R .ready none);rwa [World.size_alloc] at h
 have hi1:I [] W1:=by rw [← e1];exact hI.alloc _ (hI.alloc _ h0)
 have hb1:Below w0.heap.size w0 W1:=by
  rw [← e1];exact (hb0.alloc hb0.size _).alloc (by have:=hb0.size;simp;omega) _
 -- what is not the loop's own two blocks' business
 have own2:∀ {T:List α→World→Prop},OwnFrom w.heap.size T→∀ o,o.isCells=false →
  OwnFrom W1.heap.size (fun (s:List α) W=>T s W∧W.heap[w.heap.size+1]?=some o∧W.heap[w.heap.size]?=some (.deferred (some []))):=by
  intro T hT o ho s X Y row hs hgr hrow
  have far:∀ k,k<W1.heap.size→some k≠row:=fun k hk e=>by have:=(hrow k e.symm).1;omega
  refine ⟨(ownFrom_weaken hT (by omega)) s X Y row hs.1 hgr hrow,?_,?_⟩
  · exact (hgr.block _ (Array.getElem?_eq_some_iff.1 hs.2.1).1 (far _ (by omega))).trans hs.2.1
  · exact (hgr.block _ (Array.getElem?_eq_some_iff.1 hs.2.2).1 (far _ (by omega))).trans hs.2.2
 have hIx2:OwnFrom W1.heap.size (fun (s:List α) W=>∃ c,Ix c s W∧W.heap[w.heap.size+1]?=some (R .done (some c))∧W.heap[w.heap.size]?=some (.deferred (some []))):=by
  intro s X Y row ⟨c,hs⟩ hgr hrow
  exact ⟨c,own2 (hIx c) _ rfl s X Y row hs hgr hrow⟩
 refine ⟨w.heap.size+1,[{ target:=.collected w.heap.size,args:=#[] }],W1,{ target:=.fn (.func gf) lb,args:=#[.func (.yield (w.heap.size+1)) #[] #[]] },W1,gf,
  #[.func (.yield (w.heap.size+1)) #[] #[]]++lb,W1,?_,?_,fun _ _=>trivial,?_,(fun h=>by cases h),?_⟩
 · rw [← e1];exact run_enterLoop_outer _ _ _ _ _
 · simp only [resolve,hg];simp [go_sem]
 · simp [invoke,go_sem,eg]
 refine (hseq (n-1) (n-1-1) (w.heap.size+1) _ _ W1 hb1 (own2 hI (R .ready none) rfl) hIx2 ?_ ⟨hi1,hr1,hd1⟩).mono ?_
 · rintro pre x W ⟨hi,hr,hd⟩ hG hlen
   have hy:=run_yield (P:=P) (args:=encs x) hr (hps x)
   refine ⟨fn,_,assign,body,hy,roundIn_of_wpIn hfn (hassign _ pre x W _ hi ?_)⟩
   intro a' Wa kA pA iA xA
   have lt1:w.heap.size+1<W.heap.size:=(Array.getElem?_eq_some_iff.1 hr).1
   have hrA:Wa.heap[w.heap.size+1]?=some (R .ready none):=(kA.same _ (by omega) (by omega) lt1).trans hr
   have hdA:Wa.heap[w.heap.size]?=some (.deferred (some [])):=(kA.same _ (Nat.le_refl _) (by omega) (by omega)).trans hd
   have ltA:w.heap.size+1<Wa.heap.size:=(Array.getElem?_eq_some_iff.1 hrA).1
   refine ⟨_,run_beginRound hrA rfl,?_⟩
   obtain ⟨Wb,eb⟩:∃ Wb,Wa.putObj (w.heap.size+1) (R .busy none)=Wb:=⟨_,rfl⟩
   have hrB:Wb.heap[w.heap.size+1]?=some (R .busy none):=by rw [← eb];exact World.putObj_heap_same ltA
   have hdB:Wb.heap[w.heap.size]?=some (.deferred (some [])):=by rw [← eb];exact (World.putObj_heap_other (by omega)).trans hdA
   have iB:I pre Wb:=by rw [← eb];exact hI.putObj _ iA (by omega) hrA rfl
   have xB:Ax x a' Wb:=by rw [← eb];exact (hAx x a').putObj (s:=()) _ xA (by omega) hrA rfl
   have pB:Kp Wa Wb:=by rw [← eb];exact hKb _ _ _ _ (by omega) hrA rfl rfl
   have kB:KeepsIn W1.heap.size (W1.heap.size+G) W Wb:=by
    rw [← eb];exact (kA.weaken (by omega) (by omega)).trans (KeepsIn.putObj _ _ (by omega))
   show body.wpIn _ _ _ _ a' (Wa.putObj (w.heap.size+1) (R .busy none))
   rw [eb]
   refine wpIn_mono (hbody _ pre x a' Wb (by omega) ⟨_,hrB⟩ (by have:=kB.size;omega) iB xB hlen) ?_
   have fin:∀ (j:Option Code) (W3:World),KeepsIn w.heap.size (w.heap.size+2+G) Wb W3→∃ W4,W4=W3.putObj (w.heap.size+1) (R (if j.isNone then .ready else .done) j) ∧
    (Instr.endRound (w.heap.size+1) j).run P W3=.ok (.bool j.isNone) W4∧W3.heap[w.heap.size+1]?=some (R .busy none) ∧
    W4.heap[w.heap.size+1]?=some (R (if j.isNone then .ready else .done) j)∧W4.heap[w.heap.size]?=some (.deferred (some []))∧KeepsIn W1.heap.size (W1.heap.size+G) W W4:=by
    intro j W3 k3
    have hr3:=(k3.same _ (by omega) (by omega) (Array.getElem?_eq_some_iff.1 hrB).1).trans hrB
    have hd3:=(k3.same _ (Nat.le_refl _) (by omega) (Array.getElem?_eq_some_iff.1 hdB).1).trans hdB
    refine ⟨_,rfl,run_endRound j hr3,hr3,World.putObj_heap_same (Array.getElem?_eq_some_iff.1 hr3).1,(World.putObj_heap_other (by omega)).trans hd3,?_⟩
    exact (kB.trans (k3.weaken (by omega) (by omega))).trans (KeepsIn.putObj _ _ (by omega))
   rintro e a3 W3 hp
   cases e with
   | normal =>
    obtain ⟨k3,p3,i3⟩:=hp
    obtain ⟨W4,e4,hrun,hr3,hr4,hd4,k4⟩:=fin none W3 k3
    refine ⟨_,_,hrun,k4,.inl ⟨rfl,⟨?_,hr4,hd4⟩,?_⟩⟩
    · rw [e4];exact hI.putObj _ i3 (by omega) hr3 rfl
    · rw [e4];exact hKt (hKt pA pB) (hKt p3 (hKb _ _ _ _ (by omega) hr3 rfl rfl))
   | ret =>
    obtain ⟨k3,i3⟩:=hp
    obtain ⟨W4,e4,hrun,hr3,hr4,hd4,k4⟩:=fin (some .ret) W3 k3
    exact ⟨_,_,hrun,k4,.inr ⟨rfl,.ret,by rw [e4];exact (hIx _).putObj _ i3 (by omega) hr3 rfl,hr4,hd4⟩⟩
   | exit id =>
    obtain ⟨k3,i3⟩:=hp
    obtain ⟨W4,e4,hrun,hr3,hr4,hd4,k4⟩:=fin (some (.exit id)) W3 k3
    exact ⟨_,_,hrun,k4,.inr ⟨rfl,.exit id,by rw [e4];exact (hIx _).putObj _ i3 (by omega) hr3 rfl,hr4,hd4⟩⟩
   | goto t =>
    obtain ⟨k3,i3⟩:=hp
    obtain ⟨W4,e4,hrun,hr3,hr4,hd4,k4⟩:=fin (some (.goto t)) W3 k3
    exact ⟨_,_,hrun,k4,.inr ⟨rfl,.goto t,by rw [e4];exact (hIx _).putObj _ i3 (by omega) hr3 rfl,hr4,hd4⟩⟩
   | panic ch=>exact hp.elim
   | outgrown=>exact hp.elim
 · rintro e W2 ⟨⟨v,rfl⟩,(⟨xs,hS,hi,hr,hd⟩|⟨pre,hSp,c,hi,hr,hd⟩)⟩
   · exact ⟨none,_,run_endLoop (P:=P) hr (by simp),hdone _ xs _ (Nat.le_refl _) hS (hI.putObj _ hi (by omega) hr rfl) ((World.putObj_heap_other (by omega)).trans hd)⟩
   · exact ⟨some c,_,run_endLoop (P:=P) hr (by simp),hstop _ c pre _ (Nat.le_refl _) hSp ((hIx c).putObj _ hi (by omega) hr rfl) ((World.putObj_heap_other (by omega)).trans hd)⟩
end Go.Proofs.YtebkniakflhhkaaGreatDoor
