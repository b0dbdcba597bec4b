import Derived.RangeFuncBound
import Derived.RangeFuncNested
import Derived.Test.YtokpblmgdmokoaaGreatAMem
set_option linter.unusedSimpArgs false
set_option linter.unusedVariables false
namespace Go.Proofs.YtokpblmgdmokoaaGreat
open Go.RowKit
structure KeepW (K:Nat→Prop) (W W':World):Prop where
 os:W'.os=W.os
 tape:W'.tape=W.tape
 output:W'.output=W.output
 size:W.heap.size≤W'.heap.size
 block:∀ k,k<W.heap.size→K k→W'.heap[k]?=W.heap[k]?
theorem KeepW.refl (K:Nat→Prop) (W:World):KeepW K W W:=⟨rfl,rfl,rfl,Nat.le_refl _,fun _ _ _=>rfl⟩
theorem KeepW.trans {K:Nat→Prop} {X Y Z:World} (h:KeepW K X Y) (k:KeepW K Y Z):KeepW K X Z:=⟨k.os.trans h.os,k.tape.trans h.tape,k.output.trans h.output,Nat.le_trans h.size k.size,fun i hi hk=>(k.block i (Nat.lt_of_lt_of_le hi h.size) hk).trans (h.block i hi hk)⟩
theorem KeepW.weaken {K K':Nat→Prop} {X Y:World} (h:KeepW K X Y) (hk:∀ i,i<X.heap.size→K' i→K i):KeepW K' X Y:=⟨h.os,h.tape,h.output,h.size,fun i hi h2=>h.block i hi (hk i hi h2)⟩
theorem KeepW.grown {K:Nat→Prop} {W W':World} {row:Option Nat} (hg:W.grownBy W' row) (hr:∀ j,row=some j→¬ K j):KeepW K W W':=⟨hg.os,hg.tape,hg.output,hg.size,fun k hk h=>hg.block k hk (fun e=>hr k e.symm h)⟩
theorem KeepW.alloc (K:Nat→Prop) (W:World) (o:Obj):KeepW K W (W.alloc o):=KeepW.grown (World.grownBy_alloc W o none) (fun j e=>by cases e)
theorem KeepW.putObj {K:Nat→Prop} (W:World) {l:Nat} (o:Obj) (h:¬ K l):KeepW K W (W.putObj l o):=⟨rfl,rfl,rfl,by simp,fun k _ hk=>World.putObj_heap_other (fun e=>h (e ▸ hk))⟩
theorem KeepW.of_below {K:Nat→Prop} {n:Nat} {W W':World} (h:Below n W W') (hk:∀ i,i<W.heap.size→K i→i<n):KeepW K W W':=⟨h.os,h.tape,h.output,h.size,fun i hi h2=>h.block i (hk i hi h2)⟩
theorem KeepW.below {K:Nat→Prop} {n:Nat} {W W':World} (h:KeepW K W W') (hn:n≤W.heap.size) (hk:∀ i,i<n→K i):Below n W W':=⟨h.os,h.tape,h.output,h.size,fun i hi=>h.block i (Nat.lt_of_lt_of_le hi hn) (hk i hi)⟩
theorem KeepW.blk {K:Nat→Prop} {W W':World} (h:KeepW K W W') {g:Nat} {t:TypeId} {cs:Array Value} (hb:Blk W g t cs) (hk:K g):Blk W' g t cs:=(h.block g hb.lt hk).trans hb
structure KeepD (B:Nat) (D:Nat→Prop) (W W':World):Prop where
 size:W.heap.size≤W'.heap.size
 same:∀ k,B≤k→k<W.heap.size→¬ D k→W'.heap[k]?=W.heap[k]?
theorem KeepD.refl (B:Nat) (D:Nat→Prop) (W:World):KeepD B D W W:=⟨Nat.le_refl _,fun _ _ _ _=>rfl⟩
theorem KeepD.trans {B:Nat} {D:Nat→Prop} {X Y Z:World} (h:KeepD B D X Y) (k:KeepD B D Y Z):KeepD B D X Z:=⟨Nat.le_trans h.size k.size,fun i hB hi hD=>(k.same i hB (Nat.lt_of_lt_of_le hi h.size) hD).trans (h.same i hB hi hD)⟩
theorem KeepD.weaken {B B':Nat} {D:Nat→Prop} {X Y:World} (h:KeepD B D X Y) (hB:B≤B'):KeepD B' D X Y:=⟨h.size,fun k hk hl hD=>h.same k (Nat.le_trans hB hk) hl hD⟩
theorem KeepD.putObj {B:Nat} {D:Nat→Prop} (W:World) {l:Nat} (o:Obj) (h:l<B):KeepD B D W (W.putObj l o):=⟨by simp,fun k hk _ _=>World.putObj_heap_other (by omega)⟩
theorem KeepD.of_below {B n:Nat} {D:Nat→Prop} {W W':World} (h:Below n W W') (hn:W.heap.size≤n):KeepD B D W W':=⟨h.size,fun k _ hl _=>h.block k (Nat.lt_of_lt_of_le hl hn)⟩
def OwnK {α:Type} (B:Nat) (J:(Nat→Prop)→List α→World→Prop):Prop:=∀ D s X Y,J D s X→KeepW (fun k=>k<B∨D k) X Y→J D s Y
def OwnK0 {α:Type} (B:Nat) (J:List α→World→Prop):Prop:=∀ s X Y,J s X→KeepW (fun k=>k<B) X Y→J s Y
def SeqD {α:Type} (P:Program) (g:Nat) (lb:Array Value) (encs:α→Array Value) (xb:α→Nat→Prop) (Px:α→World→Prop) (Kp:World→World→Prop) (S Sp:List α→Prop) (N:Nat) (w:World):Prop :=
 ∀ (n m l:Nat) (J:(Nat→Prop)→List α→World→Prop) (Jx:List α→World→Prop) (W:World),Below w.heap.size w W→OwnK W.heap.size J→OwnK0 W.heap.size Jx →
  (∀ D pre x W1,J D pre W1→(∀ k,D k→W.heap.size≤k∧k<W1.heap.size)→W.heap.size≤W1.heap.size→Px x W1→(∀ b,xb x b→W.heap.size≤b∧b<W1.heap.size∧¬ D b)→pre.length<N →
   YieldAt Fence.wide m P l (encs x) W1 fun e W'=>KeepD W.heap.size D W1 W' ∧
    ((e=.returned (.bool true)∧(∃ D',(∀ k,D' k→D k∨W1.heap.size≤k∨xb x k)∧(∀ k,D' k→W.heap.size≤k∧k<W'.heap.size)∧J D' (pre++[x]) W')∧Kp W1 W')∨(e=.returned (.bool false)∧Jx (pre++[x]) W'))) →
  J (fun _=>False) [] W →
  CallsIn Fence.wide n P g (#[.func (.yield l) #[] #[]]++lb) W fun e W'=>(∃ v,e=.returned v)∧((∃ xs D,S xs∧J D xs W')∨(∃ pre,Sp pre∧Jx pre W'))
def postD {α:Type} (B:Nat) (D xb:Nat→Prop) (Kp:World→World→Prop) (I:(Nat→Prop)→List α→World→Prop) (Ix:Code→List α→World→Prop) (xs:List α) (W:World):Exit→Act→World→Prop
 | .normal,_,W'=>KeepD B D W W'∧Kp W W'∧∃ D',(∀ k,D' k→D k∨W.heap.size≤k∨xb k)∧(∀ k,D' k→B+2≤k∧k<W'.heap.size)∧I D' xs W'
 | .ret,_,W'=>KeepD B D W W'∧Ix .ret xs W'
 | .exit id,_,W'=>KeepD B D W W'∧Ix (.exit id) xs W'
 | .goto t,_,W'=>KeepD B D W W'∧Ix (.goto t) xs W'
 | .panic _,_,_=>False
 | .outgrown,_,_=>False
theorem rangeFunc_D {α:Type} {P:Program} {n:Nat} {g:Operand} {ps:Array Tmp} {assign body:Code} {Q:Exit→Act→World→Prop} {a:Act} {w:World}
 {gf:Nat} {lb:Array Value} (hg:a.eval g=.func (.func gf) #[] lb) (eg:∀ args w,(callFunc gf args).run P w=.ok (.enter gf args) w)
 {encs:α→Array Value} {xb:α→Nat→Prop} {Px:α→World→Prop} {Kp:World→World→Prop} {S Sp:List α→Prop} {N:Nat} {w0:World} (hseq:SeqD P gf lb encs xb Px Kp S Sp N w0) (hb0:Below w0.heap.size w0 w)
 (hKt:∀ {A B C:World},Kp A B→Kp B C→Kp A C) (hKb:∀ (W:World) (l:Nat) (o o':Obj),w.heap.size≤l→W.heap[l]?=some o→o.isCells=false→o.isWalk=false→Kp W (W.putObj l o')) (hps:∀ x,(encs x).size=ps.size)
 (hPx:∀ x X Y,Px x X→KeepW (fun k=>k<w.heap.size∨xb x k) X Y→Px x Y)
 (I:(Nat→Prop)→List α→World→Prop) (Ix:Code→List α→World→Prop) (hI:OwnK w.heap.size I) (hIx:∀ c,OwnK0 w.heap.size (Ix c)) (h0:I (fun _=>False) [] w)
 (Ax:α→Act→World→Prop) (hAx:∀ x a' X Y,Ax x a' X→KeepW (fun k=>k≠w.heap.size∧k≠w.heap.size+1) X Y→Ax x a' Y)
 (hassign:∀ (l:Nat) (D:Nat→Prop) (pre:List α) (x:α) (W:World) (K:Act→World→Prop),I D pre W→Px x W→w.heap.size+2≤W.heap.size→(∀ k,D k→w.heap.size+2≤k∧k<W.heap.size)→(∀ b,xb x b→w.heap.size+2≤b∧b<W.heap.size∧¬ D b) →
  (∀ a' W',KeepD w.heap.size D W W'→Kp W W'→I D pre W'→Px x W'→Ax x a' W'→K a' W') →
  assign.wpIn (Fence.wide.inRound l) (n-1-1) P (Exit.then K (fun _ _ _=>False)) { tmps:=(ps.zip (encs x)).foldl (fun t (p,v)=>t.setIfInBounds p v) a.tmps,defers:=[] } W)
 (hbody:∀ (l:Nat) (D:Nat→Prop) (pre:List α) (x:α) (a':Act) (W:World),w.heap.size<l→(∃ r,W.heap[l]?=some (.loop r))→w.heap.size+2≤W.heap.size→(∀ k,D k→w.heap.size+2≤k∧k<W.heap.size)→(∀ b,xb x b→w.heap.size+2≤b∧b<W.heap.size∧¬ D b)→I D pre W→Px x W→Ax x a' W→pre.length<N →
  body.wpIn (Fence.wide.inRound l) (n-1-1) P (postD w.heap.size D (xb x) Kp I Ix (pre++[x]) W) a' W)
 (hdone:∀ (D:Nat) (xs:List α) (Ds:Nat→Prop) (W:World),w.heap.size≤D→S xs→I Ds xs W→(∀ k,Ds k→w.heap.size+2≤k)→W.heap[D]?=some (.deferred (some []))→D<w.heap.size+2→Q .normal { a with defers:={ target:=.collected D,args:=#[] }::a.defers } W)
 (hstop:∀ (D:Nat) (c:Code) (pre:List α) (W:World),w.heap.size≤D→Sp pre→Ix c pre W→W.heap[D]?=some (.deferred (some []))→c.wpIn Fence.wide n P Q { a with defers:={ target:=.collected D,args:=#[] }::a.defers } W) :
 (Code.rangeFunc g ps assign body).wpIn Fence.wide n P Q a w:=by
 refine wpIn_rangeFunc fun fn hfn=>?_
 let R:LoopState→Option Code→Obj:=fun st j=>.loop { state:=st,pending:=j,fn:=fn,tmps:=a.tmps,params:=ps,assign:=assign,body:=body,defers:=w.heap.size }
 obtain ⟨W1,e1⟩:∃ W1,(w.alloc (.deferred (some []))).alloc (R .ready none)=W1:=⟨_,rfl⟩
 have hs1:W1.heap.size=w.heap.size+2:=by rw [← e1];simp
 have hd1:W1.heap[w.heap.size]?=some (.deferred (some [])):=by rw [← e1];exact (Below.heap_alloc _ _ _ (by simp)).trans (World.alloc_heap_new w _)
 have hr1:W1.heap[w.heap.size+1]?=some (R .ready none):=by
  rw [← e1];have h:=World.alloc_heap_new (w.alloc (.deferred (some []))) (R .ready none);rwa [World.size_alloc] at h
 have hi1:I (fun _=>False) [] W1:=by rw [← e1];exact hI _ _ _ _ h0 ((KeepW.alloc _ _ _).trans (KeepW.alloc _ _ _))
 have hb1:Below w0.heap.size w0 W1:=by
  rw [← e1];exact (hb0.alloc hb0.size _).alloc (by have:=hb0.size;simp;omega) _
 have own2:∀ (o:Obj),OwnK W1.heap.size (fun (D:Nat→Prop) (s:List α) W=>I D s W∧(∀ k,D k→w.heap.size+2≤k)∧W.heap[w.heap.size+1]?=some o∧W.heap[w.heap.size]?=some (.deferred (some []))):=by
  intro o D s X Y hs hk
  refine ⟨hI _ _ _ _ hs.1 (hk.weaken fun i _ h=>h.imp (fun h=>by omega) id),hs.2.1,?_,?_⟩
  · exact (hk.block _ (Array.getElem?_eq_some_iff.1 hs.2.2.1).1 (.inl (by omega))).trans hs.2.2.1
  · exact (hk.block _ (Array.getElem?_eq_some_iff.1 hs.2.2.2).1 (.inl (by omega))).trans hs.2.2.2
 have hIx2:OwnK0 W1.heap.size (fun (s:List α) W=>∃ c,Ix c s W∧W.heap[w.heap.size+1]?=some (R .done (some c))∧W.heap[w.heap.size]?=some (.deferred (some []))):=by
  intro s X Y ⟨c,hs1',hs2,hs3⟩ hk
  exact ⟨c,hIx c _ _ _ hs1' (hk.weaken fun i _ h=>by omega),(hk.block _ (Array.getElem?_eq_some_iff.1 hs2).1 (by omega)).trans hs2,(hk.block _ (Array.getElem?_eq_some_iff.1 hs3).1 (by omega)).trans hs3⟩
 refine ⟨w.heap.size+1,[{ target:=.collected w.heap.size,args:=#[] }],W1,{ target:=.fn (.func gf) lb,args:=#[.func (.yield (w.heap.size+1)) #[] #[]] },W1,gf,
  #[.func (.yield (w.heap.size+1)) #[] #[]]++lb,W1,?_,?_,fun _ _=>trivial,?_,(fun h=>by cases h),?_⟩
 · rw [← e1];exact run_enterLoop_outer _ _ _ _ _
 · simp only [resolve,hg];simp [go_sem]
 · simp [invoke,go_sem,eg]
 refine (hseq (n-1) (n-1-1) (w.heap.size+1) _ _ W1 hb1 (own2 (R .ready none)) hIx2 ?_ ⟨hi1,(fun _ h=>h.elim),hr1,hd1⟩).mono ?_
 · rintro D pre x W ⟨hi,hDl,hr,hd⟩ hDs hG hpx hxb hlen
   have hy:=run_yield (P:=P) (args:=encs x) hr (hps x)
   refine ⟨fn,_,assign,body,hy,roundIn_of_wpIn hfn (hassign _ D pre x W _ hi hpx (by omega) (fun k hk=>⟨hDl k hk,(hDs k hk).2⟩) (fun b hb=>⟨by have:=(hxb b hb).1;omega,(hxb b hb).2⟩) ?_)⟩
   intro a' Wa kA pA iA pxA xA
   have lt1:w.heap.size+1<W.heap.size:=(Array.getElem?_eq_some_iff.1 hr).1
   have nD1:¬ D (w.heap.size+1):=fun h=>by have:=hDl _ h;omega
   have nD0:¬ D w.heap.size:=fun h=>by have:=hDl _ h;omega
   have hrA:Wa.heap[w.heap.size+1]?=some (R .ready none):=(kA.same _ (by omega) lt1 nD1).trans hr
   have hdA:Wa.heap[w.heap.size]?=some (.deferred (some [])):=(kA.same _ (Nat.le_refl _) (by omega) nD0).trans hd
   have ltA:w.heap.size+1<Wa.heap.size:=(Array.getElem?_eq_some_iff.1 hrA).1
   refine ⟨_,run_beginRound hrA rfl,?_⟩
   obtain ⟨Wb,eb⟩:∃ Wb,Wa.putObj (w.heap.size+1) (R .busy none)=Wb:=⟨_,rfl⟩
   have hrB:Wb.heap[w.heap.size+1]?=some (R .busy none):=by rw [← eb];exact World.putObj_heap_same ltA
   have hdB:Wb.heap[w.heap.size]?=some (.deferred (some [])):=by rw [← eb];exact (World.putObj_heap_other (by omega)).trans hdA
   have iB:I D pre Wb:=by rw [← eb];exact hI _ _ _ _ iA (KeepW.putObj _ _ (fun h=>h.elim (fun h=>by omega) nD1))
   have pxB:Px x Wb:=by rw [← eb];exact hPx _ _ _ pxA (KeepW.putObj _ _ (fun h=>h.elim (fun h=>by omega) (fun h=>by have:=(hxb _ h).1;omega)))
   have xB:Ax x a' Wb:=by rw [← eb];exact hAx _ _ _ _ xA (KeepW.putObj _ _ (fun h=>h.2 rfl))
   have pB:Kp Wa Wb:=by rw [← eb];exact hKb _ _ _ _ (by omega) hrA rfl rfl
   have sB:Wb.heap.size=Wa.heap.size:=by rw [← eb];simp
   have kB:KeepD W1.heap.size D W Wb:=by
    rw [← eb];exact (kA.weaken (by omega)).trans (KeepD.putObj _ _ (by omega))
   show body.wpIn _ _ _ _ a' (Wa.putObj (w.heap.size+1) (R .busy none))
   rw [eb]
   have sz:=kA.size
   refine wpIn_mono (hbody _ D pre x a' Wb (by omega) ⟨_,hrB⟩ (by omega) (fun k hk=>⟨hDl k hk,by have:=(hDs k hk).2;omega⟩) (fun b hb=>by have h3:=hxb b hb;exact ⟨by omega,by omega,h3.2.2⟩) iB pxB xB hlen) ?_
   have fin:∀ (j:Option Code) (W3:World),KeepD w.heap.size D Wb W3→∃ W4,W4=W3.putObj (w.heap.size+1) (R (if j.isNone then .ready else .done) j) ∧
    (Instr.endRound (w.heap.size+1) j).run P W3=.ok (.bool j.isNone) W4∧W3.heap[w.heap.size+1]?=some (R .busy none) ∧
    W4.heap[w.heap.size+1]?=some (R (if j.isNone then .ready else .done) j)∧W4.heap[w.heap.size]?=some (.deferred (some []))∧KeepD W1.heap.size D W W4:=by
    intro j W3 k3
    have hr3:=(k3.same _ (by omega) (Array.getElem?_eq_some_iff.1 hrB).1 nD1).trans hrB
    have hd3:=(k3.same _ (Nat.le_refl _) (Array.getElem?_eq_some_iff.1 hdB).1 nD0).trans hdB
    refine ⟨_,rfl,run_endRound j hr3,hr3,World.putObj_heap_same (Array.getElem?_eq_some_iff.1 hr3).1,(World.putObj_heap_other (by omega)).trans hd3,?_⟩
    exact (kB.trans (k3.weaken (by omega))).trans (KeepD.putObj _ _ (by omega))
   rintro e a3 W3 hp
   cases e with
   | normal =>
    obtain ⟨k3,p3,D',hD1,hD2,i3⟩:=hp
    obtain ⟨W4,e4,hrun,hr3,hr4,hd4,k4⟩:=fin none W3 k3
    have nD':¬ D' (w.heap.size+1):=fun h=>by have:=(hD2 _ h).1;omega
    refine ⟨_,_,hrun,k4,.inl ⟨rfl,⟨D',fun k hk=>?_,fun k hk=>?_,?_,fun k hk=>(hD2 k hk).1,hr4,hd4⟩,?_⟩⟩
    · rcases hD1 k hk with h|h|h
      · exact .inl h
      · exact .inr (.inl (by omega))
      · exact .inr (.inr h)
    · rw [e4]
      have:=hD2 k hk
      exact ⟨by omega,by simpa using this.2⟩
    · rw [e4];exact hI _ _ _ _ i3 (KeepW.putObj _ _ (fun h=>h.elim (fun h=>by omega) nD'))
    · rw [e4];exact hKt (hKt pA pB) (hKt p3 (hKb _ _ _ _ (by omega) hr3 rfl rfl))
   | ret =>
    obtain ⟨k3,i3⟩:=hp
    obtain ⟨W4,e4,hrun,hr3,hr4,hd4,k4⟩:=fin (some .ret) W3 k3
    exact ⟨_,_,hrun,k4,.inr ⟨rfl,.ret,by rw [e4];exact (hIx _) _ _ _ i3 (KeepW.putObj _ _ (by omega)),hr4,hd4⟩⟩
   | exit id =>
    obtain ⟨k3,i3⟩:=hp
    obtain ⟨W4,e4,hrun,hr3,hr4,hd4,k4⟩:=fin (some (.exit id)) W3 k3
    exact ⟨_,_,hrun,k4,.inr ⟨rfl,.exit id,by rw [e4];exact (hIx _) _ _ _ i3 (KeepW.putObj _ _ (by omega)),hr4,hd4⟩⟩
   | goto t =>
    obtain ⟨k3,i3⟩:=hp
    obtain ⟨W4,e4,hrun,hr3,hr4,hd4,k4⟩:=fin (some (.goto t)) W3 k3
    exact ⟨_,_,hrun,k4,.inr ⟨rfl,.goto t,by rw [e4];exact (hIx _) _ _ _ i3 (KeepW.putObj _ _ (by omega)),hr4,hd4⟩⟩
   | panic ch=>exact hp.elim
   | outgrown=>exact hp.elim
 · rintro e W2 ⟨⟨v,rfl⟩,(⟨xs,D,hS,hi,hDl,hr,hd⟩|⟨pre,hSp,c,hi,hr,hd⟩)⟩
   · exact ⟨none,_,run_endLoop (P:=P) hr (by simp),hdone _ xs D _ (Nat.le_refl _) hS (hI _ _ _ _ hi (KeepW.putObj _ _ (fun h=>h.elim (fun h=>by omega) (fun h=>by have:=hDl _ h;omega)))) hDl ((World.putObj_heap_other (by omega)).trans hd) (by omega)⟩
   · exact ⟨some c,_,run_endLoop (P:=P) hr (by simp),hstop _ c pre _ (Nat.le_refl _) hSp ((hIx c) _ _ _ hi (KeepW.putObj _ _ (by omega))) ((World.putObj_heap_other (by omega)).trans hd)⟩
end Go.Proofs.YtokpblmgdmokoaaGreat
