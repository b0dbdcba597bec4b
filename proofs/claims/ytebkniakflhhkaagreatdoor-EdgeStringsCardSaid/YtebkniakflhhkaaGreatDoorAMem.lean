import Derived.BigQuiet
import Derived.Deep.RegionHeld3
import Derived.Deep.WholeRow
import Derived.Lib.Hide
import Derived.OwnWalkIn
import Derived.WalkLawsBesides
import Derived.WalkSpells
import Derived.Test.YtebkniakflhhkaaGreatDoorANum
set_option maxHeartbeats 400000
set_option linter.unusedSimpArgs false
set_option linter.unusedVariables false
namespace Go.Proofs.YtebkniakflhhkaaGreatDoor
open Go.RowKit
def Bnd.cells (x:Bnd):List Value:=[.int .i64 x.f,.int .i64 x.t,.int .i64 x.m,.int .i64 x.b]
def bcells (l:List Bnd):List Value:=l.flatMap Bnd.cells
theorem bcells_length (l:List Bnd):(bcells l).length=l.length * 4:=by
 induction l with
 | nil=>rfl
 | cons x l ih=>simp only [bcells,List.flatMap_cons,List.length_append,List.length_cons] at ih ⊢;rw [ih];simp [Bnd.cells];omega
theorem bcells_get (l:List Bnd) (k j:Nat) (x:Bnd) (h:l[k]?=some x) (hj:j<4):(bcells l)[k * 4+j]?=x.cells[j]?:=by
 induction l generalizing k with
 | nil=>simp at h
 | cons y l ih =>
  cases k with
  | zero =>
   simp at h
   subst h
   simp only [bcells,List.flatMap_cons,Nat.zero_mul,Nat.zero_add]
   rw [List.getElem?_append_left (by simp [Bnd.cells];omega)]
  | succ k =>
   simp only [bcells,List.flatMap_cons]
   rw [List.getElem?_append_right (by simp [Bnd.cells];omega)]
   have e:(k+1) * 4+j-y.cells.length=k * 4+j:=by simp [Bnd.cells];omega
   rw [e]
   exact ih k (by simpa using h)
theorem bcells_one (l:List Bnd):∀ u∈bcells l,u.oneCell'=true:=by
 intro u hu
 obtain ⟨x,_,h⟩:=List.mem_flatMap.1 hu
 simp only [Bnd.cells,List.mem_cons,List.not_mem_nil,or_false] at h
 rcases h with rfl|rfl|rfl|rfl<;>rfl
def Cells (w:World) (A:Option Addr) (cs:List Value):Prop :=
 cs=[]∨∃ b o,A=some ⟨b,o,none⟩∧b<w.heap.size∧∀ j u,cs[j]?=some u→w.cell? ⟨b,o+j,none⟩=some u
theorem Cells.below {w w':World} {A:Option Addr} {cs:List Value} (h:Cells w A cs) (hb:Below w.heap.size w w'):Cells w' A cs:=by
 rcases h with h|⟨b,o,e,hlt,hc⟩
 · exact .inl h
 · exact .inr ⟨b,o,e,Nat.lt_of_lt_of_le hlt hb.size,fun j u hu=>(hb.cell (p:=⟨b,_,none⟩) hlt).trans (hc j u hu)⟩
structure RdB (w:World) (A:Option Addr) (n c:Nat) (l:List Bnd):Prop where
 len:l.length=n
 cap:n≤c
 nil:A=none→n=0∧c=0
 cells:Cells w A (bcells l)
structure RdI (w:World) (A:Option Addr) (n c:Nat) (l:List Int):Prop where
 len:l.length=n
 cap:n≤c
 nil:A=none→n=0∧c=0
 cells:Cells w A (l.map (Value.int .i64))
section
variable {w w':World} {A:Option Addr} {n c:Nat}
theorem RdB.below {l:List Bnd} (h:RdB w A n c l) (hb:Below w.heap.size w w'):RdB w' A n c l:=⟨h.len,h.cap,h.nil,h.cells.below hb⟩
theorem RdI.below {l:List Int} (h:RdI w A n c l) (hb:Below w.heap.size w w'):RdI w' A n c l:=⟨h.len,h.cap,h.nil,h.cells.below hb⟩
theorem Cells.alloc {cs:List Value} (h:Cells w A cs) (o:Obj):Cells (w.alloc o) A cs:=h.below ((Below.refl _ w).alloc (Nat.le_refl _) o)
theorem Cells.drew {cs:List Value} (h:Cells w A cs):Cells w.drew A cs:=h
theorem RdB.alloc {l:List Bnd} (h:RdB w A n c l) (o:Obj):RdB (w.alloc o) A n c l:=⟨h.len,h.cap,h.nil,h.cells.alloc o⟩
theorem RdB.drew {l:List Bnd} (h:RdB w A n c l):RdB w.drew A n c l:=⟨h.len,h.cap,h.nil,h.cells.drew⟩
theorem RdI.alloc {l:List Int} (h:RdI w A n c l) (o:Obj):RdI (w.alloc o) A n c l:=⟨h.len,h.cap,h.nil,h.cells.alloc o⟩
theorem RdI.drew {l:List Int} (h:RdI w A n c l):RdI w.drew A n c l:=⟨h.len,h.cap,h.nil,h.cells.drew⟩
theorem RdB.get {l:List Bnd} (h:RdB w A n c l) {k:Nat} (hk:k<n):∃ b o f t m i,A=some ⟨b,o,none⟩∧b<w.heap.size∧l[k]?=some ⟨f,t,m,i⟩ ∧
 w.cell? ⟨b,o+k * 4,none⟩=some (.int .i64 f)∧w.cell? ⟨b,o+k * 4+1,none⟩=some (.int .i64 t) ∧
 w.cell? ⟨b,o+k * 4+2,none⟩=some (.int .i64 m)∧w.cell? ⟨b,o+k * 4+3,none⟩=some (.int .i64 i):=by
 have hl:k<l.length:=by rw [h.len];exact hk
 rcases h.cells with h0|⟨b,o,e,hlt,hc⟩
 · have:=congrArg List.length h0
   rw [bcells_length] at this
   simp only [List.length_nil] at this
   omega
 · have hx:=List.getElem?_eq_getElem hl
   have g:=fun j hj=>bcells_get l k j l[k] hx hj
   refine ⟨b,o,_,_,_,_,e,hlt,hx,?_,?_,?_,?_⟩
   · have:=hc (k * 4+0) _ (g 0 (by omega));rwa [Nat.add_zero] at this
   · have:=hc (k * 4+1) _ (g 1 (by omega));rwa [← Nat.add_assoc] at this
   · have:=hc (k * 4+2) _ (g 2 (by omega));rwa [← Nat.add_assoc] at this
   · have:=hc (k * 4+3) _ (g 3 (by omega));rwa [← Nat.add_assoc] at this
theorem RdI.get {l:List Int} (h:RdI w A n c l) {k:Nat} (hk:k<n):∃ b o x,A=some ⟨b,o,none⟩∧b<w.heap.size∧l[k]?=some x∧w.cell? ⟨b,o+k,none⟩=some (.int .i64 x):=by
 have hl:k<l.length:=by rw [h.len];exact hk
 rcases h.cells with h0|⟨b,o,e,hlt,hc⟩
 · simp at h0
   rw [h0] at hl
   simp at hl
 · have hx:=List.getElem?_eq_getElem hl
   exact ⟨b,o,_,e,hlt,hx,hc k _ (by simp [hx])⟩
end
def OwnB (w:World) (base:Nat) (A:Option Addr) (n c:Nat) (l:List Bnd):Prop:=w.ownsRow base 50 4 (.slice A n c) n (bcells l)
def OwnI (w:World) (base:Nat) (A:Option Addr) (n c:Nat) (l:List Int):Prop:=w.ownsRow base 3 1 (.slice A n c) n (l.map (Value.int .i64))
theorem own_form {w:World} {base:Nat} {e:TypeId} {size:Nat} {v:Value} {n:Nat} {xs:List Value} (h:w.ownsRow base e size v n xs):∃ A c,v=.slice A n c∧n≤c∧c≤maxLen∧(A=none→n=0∧c=0)∧Cells w A xs:=by
 have hcell:=fun g=>h.cells (g:=g)
 rcases h.2 with ⟨rfl,rfl⟩|⟨g,cap,cur,rfl,hb,hg,hn,hm,hs,ht⟩
 · refine ⟨none,0,rfl,Nat.le_refl _,Nat.zero_le _,fun _=>⟨rfl,rfl⟩,.inl ?_⟩
   have:=h.1
   simp at this
   exact this
 · refine ⟨_,cap,rfl,hn,hm,(fun h=>by cases h),.inr ⟨g,0,rfl,(Array.getElem?_eq_some_iff.1 hg).1,fun j u hu=>?_⟩⟩
   have:=hcell g rfl j u hu
   rwa [Addr.add_lit] at this
theorem OwnB.rd {w:World} {base:Nat} {A:Option Addr} {n c:Nat} {l:List Bnd} (h:OwnB w base A n c l):RdB w A n c l∧c≤maxLen:=by
 obtain ⟨A',c',e,h1,h2,h3,h4⟩:=own_form h
 injection e with e1 e2 e3
 subst e1 e3
 refine ⟨⟨?_,h1,h3,h4⟩,h2⟩
 have:=h.1
 rw [bcells_length] at this
 omega
theorem OwnI.rd {w:World} {base:Nat} {A:Option Addr} {n c:Nat} {l:List Int} (h:OwnI w base A n c l):RdI w A n c l∧c≤maxLen:=by
 obtain ⟨A',c',e,h1,h2,h3,h4⟩:=own_form h
 injection e with e1 e2 e3
 subst e1 e3
 refine ⟨⟨?_,h1,h3,h4⟩,h2⟩
 have:=h.1
 simp at this
 omega
theorem owns_below {w w':World} {base:Nat} {e:TypeId} {size:Nat} {v:Value} {n:Nat} {xs:List Value} (h:w.ownsRow base e size v n xs) (hb:Below w.heap.size w w'):w'.ownsRow base e size v n xs:=by
 refine ⟨h.1,?_⟩
 rcases h.2 with h2|⟨g,cap,cur,hv,hg,hh,r⟩
 · exact .inl h2
 · exact .inr ⟨g,cap,cur,hv,hg,(hb.block g (Array.getElem?_eq_some_iff.1 hh).1).trans hh,r⟩
theorem owns_base {w:World} {base base':Nat} {e:TypeId} {size:Nat} {v:Value} {n:Nat} {xs:List Value} (h:w.ownsRow base e size v n xs) (hb:base'≤base):w.ownsRow base' e size v n xs:=by
 refine ⟨h.1,?_⟩
 rcases h.2 with h2|⟨g,cap,cur,hv,hg,r⟩
 · exact .inl h2
 · exact .inr ⟨g,cap,cur,hv,Nat.le_trans hb hg,r⟩
theorem box_out {w wr:World} {o:Obj} (h:Below (w.heap.size+1) (w.alloc o) wr):Below w.heap.size w wr :=
 ((Below.refl _ w).alloc (Nat.le_refl _) o).trans (h.mono (by simp))
theorem box_size {w wr:World} {o:Obj} (h:Below (w.heap.size+1) (w.alloc o) wr):w.heap.size<wr.heap.size:=by
 have:=h.size;simp at this;omega
theorem box_cell {w wr:World} {cs:Array Value} {t:TypeId} (h:Below (w.heap.size+1) (w.alloc (.cells cs t)) wr) (i:Nat):wr.cell? ⟨w.heap.size,i,none⟩=cs[i]?:=by
 rw [h.cell (p:=⟨w.heap.size,i,none⟩) (by simp)]
 exact cell_of_row _ _ i cs t (0,0) (heap_alloc_new w _)
def Blk (w:World) (g:Nat) (t:TypeId) (cs:Array Value):Prop:=w.heap[g]?=some (.cells cs t (0,0))
section
variable {w w':World} {g:Nat} {t:TypeId} {cs:Array Value}
theorem Blk.lt (h:Blk w g t cs):g<w.heap.size:=(Array.getElem?_eq_some_iff.1 h).1
theorem Blk.cell (h:Blk w g t cs) (i:Nat):w.cell? ⟨g,i,none⟩=cs[i]?:=cell_of_row w g i cs t (0,0) h
theorem Blk.frozen (h:Blk w g t cs) (i:Nat):w.frozen? ⟨g,i,none⟩=false:=frozen_of_row w g i cs t h
theorem Blk.new (w:World) (t:TypeId) (cs:Array Value):Blk (w.alloc (.cells cs t)) w.heap.size t cs:=heap_alloc_new w _
theorem Blk.below {B:Nat} (h:Blk w g t cs) (hb:Below B w w') (hg:g<B):Blk w' g t cs:=(hb.block g hg).trans h
theorem Blk.keep (h:Blk w g t cs) (hb:Below w.heap.size w w'):Blk w' g t cs:=(hb.block g h.lt).trans h
theorem Blk.alloc (h:Blk w g t cs) (o:Obj):Blk (w.alloc o) g t cs:=(Below.heap_alloc w o g h.lt).trans h
theorem Blk.drew (h:Blk w g t cs):Blk w.drew g t cs:=h
theorem Blk.set_ (h:Blk w g t cs) (i:Nat) (u:Value):Blk (w.setCell ⟨g,i,none⟩ u) g t (cs.setIfInBounds i u):=heap_setCell_same w g i cs t u h
theorem Blk.far (h:Blk w g t cs) {p:Addr} (hp:g≠p.block) (u:Value):Blk (w.setCell p u) g t cs:=(heap_setCell_other w p g u hp).trans h
theorem Blk.row (h:Blk w g t cs) (cs':Array Value):Blk (w.setRow g cs') g t cs':=setRow_heap w g cs cs' t (0,0) h
theorem Blk.rowFar (h:Blk w g t cs) {g':Nat} (hp:g≠g') (cs':Array Value):Blk (w.setRow g' cs') g t cs:=(setRow_other w g' g cs' hp).trans h
end
theorem below_setRow {B:Nat} {a w:World} (h:Below B a w) {g:Nat} (hg:B≤g) (cs:Array Value):Below B a (w.setRow g cs) :=
 h.trans ⟨rfl,rfl,rfl,by simp,fun k hk=>setRow_other w g k cs (by omega)⟩
def arr (x:List Int):Array Value:=(x.map (Value.int .i64)).toArray
theorem arr_size (x:List Int):(arr x).size=x.length:=by simp [arr]
theorem arr_get (x:List Int) (i:Nat) (h:i<x.length):(arr x)[i]?=some (.int .i64 (at_ x i)):=by
 simp [arr,at_,List.getD_eq_getElem?_getD,List.getElem?_eq_getElem h]
theorem arr_set (x:List Int) (i:Nat) (v:Int):(arr x).setIfInBounds i (.int .i64 v)=arr (x.set i v):=by
 simp [arr,List.map_set]
theorem arr_one (x:List Int):(arr x).all (·.oneCell')=true:=by
 rw [Array.all_eq_true]
 intro i h
 simp [arr,Value.oneCell']
section
variable {P:Program} {w:World} {ops:Array Oper} {rest:List Oper} {o:Oper} {a:Act} {Q:Exit→Act→World→Prop}
theorem wp_alloc_row {K:Act→World→Prop} (ty:TypeId) (ho:o.op=.alloc ty) (cs:Array Value) (hz:∀ w,(zeroValue ty).run P w=.ok (.agg cs) w)
 (h:K (a.put o.dst (.pointer (some ⟨w.heap.size,0,none⟩))) (w.alloc (.cells cs ty))):o.wp P a w K Q:=by
 unfold Oper.wp execOp
 simp only [ho,Instr.alloc,Sem.run_bind,hz,Result.andThen_ok]
 exact h
theorem wpList_alloc_row (hgd:o.guard=none) (ty:TypeId) (ho:o.op=.alloc ty) (cs:Array Value) (hz:∀ w,(zeroValue ty).run P w=.ok (.agg cs) w)
 (h:wpList P ops Q rest (a.put o.dst (.pointer (some ⟨w.heap.size,0,none⟩))) (w.alloc (.cells cs ty))):wpList P ops Q (o::rest) a w :=
 wpList_plain hgd fun K hK=>by
  unfold Oper.wp execOp
  simp only [ho,Instr.alloc,Sem.run_bind,hz,Result.andThen_ok]
  exact hK _ _ h
theorem wpList_build0 (hgd:o.guard=none) (ty:TypeId) (ho:o.op=.build ty #[]) (cs:Array Value) (hb:P.built ty []=some cs)
 (h:wpList P ops Q rest (a.put o.dst (.agg cs)) w):wpList P ops Q (o::rest) a w :=
 wpList_build hgd ty #[] ho (by simp [hb]) (by simpa [hb] using h)
variable {F:Fence} {nn:Nat}
theorem wpIn_val {v:Value} {w':World} {K:Act→World→Prop} (hd:∀ c,o.op≠.defer c) (hab:o.about P w a.eval=none) (hrun:(execOp a.eval o).run P w=.ok (.value v) w') (h:K (a.put o.dst v) w'):o.wpIn F nn P a w K Q:=by
 unfold Oper.wpIn
 refine ⟨fun f hf=>(by rw [hab] at hf;cases hf),?_⟩
 rw [Oper.semAt_plain F _ _ hd,hrun]
 exact h
theorem wpIn_skip {w':World} {K:Act→World→Prop} (hd:∀ c,o.op≠.defer c) (hab:o.about P w a.eval=none) (hrun:(execOp a.eval o).run P w=.ok .skip w') (h:K (a.put o.dst undef) w'):o.wpIn F nn P a w K Q:=by
 unfold Oper.wpIn
 refine ⟨fun f hf=>(by rw [hab] at hf;cases hf),?_⟩
 rw [Oper.semAt_plain F _ _ hd,hrun]
 exact h
theorem wpListIn_alloc_row (hgd:o.guard=none) (ty:TypeId) (ho:o.op=.alloc ty) (cs:Array Value) (hz:∀ w,(zeroValue ty).run P w=.ok (.agg cs) w)
 (h:wpListIn F nn P ops Q rest (a.put o.dst (.pointer (some ⟨w.heap.size,0,none⟩))) (w.alloc (.cells cs ty))):wpListIn F nn P ops Q (o::rest) a w :=
 wpListIn_plain hgd fun K hK=>wpIn_val (by rw [ho];intro c hc;cases hc) (by simp [Oper.about,ho]) (w':=w.alloc (.cells cs ty))
  (by unfold execOp;simp only [ho,Instr.alloc,Sem.run_bind,hz,Result.andThen_ok];rfl) (hK _ _ h)
theorem wpListIn_load_row (hgd:o.guard=none) (ty:TypeId) (x:Operand) (ho:o.op=.load ty x)
 (g:Nat) (hx:a.eval x=.pointer (some ⟨g,0,none⟩)) (t:TypeId) (cs:Array Value) (fr:Nat × Nat) (d:TypeDesc) (hg:w.heap[g]?=some (.cells cs t fr))
 (hu:P.underlying ty=some d) (hd:(match d with | .struct _ | .array _ _=>true|_=>false)=true) (hi:(P.info? ty).map (·.size)=some cs.size)
 (h:wpListIn F nn P ops Q rest (a.put o.dst (.agg cs)) w):wpListIn F nn P ops Q (o::rest) a w :=
 wpListIn_plain hgd fun K hK=>wpIn_val (by rw [ho];intro c hc;cases hc) (by simp [Oper.about,ho]) (w':=w)
  (by unfold execOp;simp only [ho,hx,Instr.loadAt,Instr.sureAddr,Sem.run_bind,Sem.run_pure,Result.andThen_ok,run_loadVar_row w g t ty cs fr d hg hu hd hi]) (hK _ _ h)
theorem wpListIn_store_row (hgd:o.guard=none) (ty:TypeId) (x y:Operand) (ho:o.op=.store ty x y)
 (g:Nat) (cells:Array Value) (hx:a.eval x=.pointer (some ⟨g,0,none⟩)) (hy:a.eval y=.agg cells)
 (t:TypeId) (old:Array Value) (hg:w.heap[g]?=some (.cells old t (0,0))) (hi:(P.info? ty).map (·.size)=some cells.size)
 (hold:old.size=cells.size) (h1:cells.all (·.oneCell')=true)
 (h:wpListIn F nn P ops Q rest (a.put o.dst undef) (w.setRow g cells)):wpListIn F nn P ops Q (o::rest) a w :=
 wpListIn_plain hgd fun K hK=>wpIn_skip (by rw [ho];intro c hc;cases hc) (by simp [Oper.about,ho]) (w':=w.setRow g cells)
  (by unfold execOp;simp only [ho,hx,hy,Instr.storeAt,Instr.sureAddr,Sem.run_bind,Sem.run_pure,Result.andThen_ok,run_storeVar_row w g t ty old cells hg hi hold h1]) (hK _ _ h)
end
def zeros:List Int:=List.replicate 60 0
theorem zeros_length:zeros.length=60:=rfl
theorem zero_sums:(∀ w,(zeroValue 196).run Tryz.prog w=.ok (.agg (arr zeros)) w)∧(Tryz.prog.info? 196).map (·.size)=some 60 :=
 zero_of_info (by kernel_rfl)
theorem built_sums:Tryz.prog.built 196 []=some (arr zeros):=by kernel_rfl
theorem size_sums {x:List Int} (h:x.length=60):(Tryz.prog.info? 196).map (·.size)=some (arr x).size:=by rw [zero_sums.2,arr_size,h]
theorem run_equal_arr {P:Program} (d:Nat) (t e:TypeId) (n:Nat) (ht:P.underlying t=some (.array n e)) (he:P.underlying e=some (.int .i64)) (hsz:∀ w,(sizeOf e).run P w=.ok 1 w)
 (x y:List Int) (hx:x.length=n) (hy:y.length=n) (w:World):(Op.equalIn (d+2) t (.agg (arr x)) (.agg (arr y))).run P w=.ok (decide (x=y)) w:=by
 have hpart:∀ (z:List Int),z.length=n→∀ i,i<n→(part e (arr z) (i * 1)).run P w=.ok (.int .i64 (at_ z i)) w:=by
  intro z hz i hi
  have h1:=arr_get z i (by omega)
  simp [part,isAgg,run_underlying he,h1]
 have hall:∀ (k s:Nat),s+k=n→(forIn (m:=Sem) (List.range' s k 1) ((none,()):Option Bool × Unit) (fun i r=>do
  if !(← Op.equalIn (d+1) e (← part e (arr x) (i * 1)) (← part e (arr y) (i * 1))) then pure (ForInStep.done (some false,())) else pure (ForInStep.yield (none,())))).run P w =
  .ok (if x.drop s=y.drop s then (none,()) else (some false,())) w:=by
  intro k
  induction k with
  | zero =>
   intro s hs
   rw [List.drop_eq_nil_of_le (by omega),List.drop_eq_nil_of_le (by omega)]
   simp
  | succ k ih =>
   intro s hs
   have hdx:x.drop s=at_ x s::x.drop (s+1):=by
    rw [List.drop_eq_getElem_cons (by omega)]
    simp [at_,List.getD_eq_getElem?_getD,List.getElem?_eq_getElem (show s<x.length by omega)]
   have hdy:y.drop s=at_ y s::y.drop (s+1):=by
    rw [List.drop_eq_getElem_cons (by omega)]
    simp [at_,List.getD_eq_getElem?_getD,List.getElem?_eq_getElem (show s<y.length by omega)]
   have pe:(Op.equalIn (d+1) e (.int .i64 (at_ x s)) (.int .i64 (at_ y s))).run P w=.ok (at_ x s == at_ y s) w:=run_equalIn_int w d e .i64 .i64 _ _ he
   rw [List.range'_succ,List.forIn_cons]
   simp only [Sem.run_bind,hpart x hx s (by omega),hpart y hy s (by omega),pe,Result.andThen_ok]
   by_cases hb:at_ x s=at_ y s
   · simp only [hb,beq_self_eq_true,Bool.not_true,Bool.false_eq_true,if_false,Sem.run_pure,Result.andThen_ok]
     rw [ih (s+1) (by omega),hdx,hdy,hb]
     simp
   · have hb':(at_ x s == at_ y s)=false:=by simpa using hb
     rw [hdx,hdy]
     simp [hb',hb]
 have h0:=hall n 0 (by omega)
 simp only [List.drop_zero] at h0
 rw [Op.equalIn]
 simp only [Sem.run_bind,run_underlying ht,Result.andThen_ok,hsz,Std.Legacy.Range.forIn_eq_forIn_range',Std.Legacy.Range.size,Nat.sub_zero,Nat.add_sub_cancel,Nat.div_one]
 rw [h0]
 by_cases hxy:x=y
 · simp [hxy]
 · simp [hxy]
theorem results_row_tmp {P:Program} {fn:Func} {p u:Tmp} {ty:TypeId} (h:fn.results=#[.cell p ty,.tmp u]) (tmps:Array Value) (w:World) (g:Nat) (t:TypeId) (cs:Array Value) (fr:Nat × Nat) (d:TypeDesc)
 (hp:tmps.getD p undef=.pointer (some ⟨g,0,none⟩)) (hg:w.heap[g]?=some (.cells cs t fr))
 (hu:P.underlying ty=some d) (hd:(match d with | .struct _ | .array _ _=>true|_=>false)=true) (hi:(P.info? ty).map (·.size)=some cs.size) :
 (results fn tmps).run P w=.ok (.tuple #[.agg cs,tmps.getD u undef]) w:=by
 rw [results_cell_tmp h,hp]
 simp only [asAddr,Sem.run_pure,Result.andThen_ok,run_loadVar_row w g t ty cs fr d hg hu hd hi]
theorem ret_int {k:IntKind} {a b:Int} (h:a=b):Ending.returned (.int k a)=.returned (.int k b):=by rw [h]
theorem ret_bool {a b:Bool} (h:a=b):Ending.returned (.bool a)=.returned (.bool b):=by rw [h]
end Go.Proofs.YtebkniakflhhkaaGreatDoor
/- CheckSystem of gauge, and what it calls. -/
namespace Go.Proofs.YtebkniakflhhkaaGreatDoor
open Go.RowKit
theorem within_any (n lo hi:Int) (w:World) :
 Calls Tryz.prog 75 #[.int .i64 n,.int .i64 lo,.int .i64 hi] w fun e w'=>e=.returned (.bool (decide (lo≤n)&&decide (n≤hi)))∧w=w':=by
 by_cases h:lo≤n
 · go_enter Tryz.func75,Tryz.ntmps75
   go_wp2
   go_ret
   exact ⟨by simp [h],rfl⟩
 · go_enter Tryz.func75,Tryz.ntmps75
   go_wp2
   go_ret
   exact ⟨by simp [h];omega,rfl⟩
theorem within_yes (n lo hi:Int) (w:World) (h:lo≤n∧n≤hi) :
 Calls Tryz.prog 75 #[.int .i64 n,.int .i64 lo,.int .i64 hi] w fun e w'=>e=.returned (.bool true)∧w=w':=
 (within_any n lo hi w).mono fun _ _ ⟨h1,h2⟩=>⟨by simp [h1,h.1,h.2],h2⟩
theorem within_no (n lo hi:Int) (w:World) (h:¬ (lo≤n∧n≤hi)) :
 Calls Tryz.prog 75 #[.int .i64 n,.int .i64 lo,.int .i64 hi] w fun e w'=>e=.returned (.bool false)∧w=w':=
 (within_any n lo hi w).mono fun _ _ ⟨h1,h2⟩=>⟨by rw [h1];congr 2;simpa using h,h2⟩
theorem isMost_any (n:Int) (w:World) :
 Calls Tryz.prog 136 #[.int .i64 n] w fun e w'=>e=.returned (.bool (decide (-1000000≤n)&&decide (n≤1000000)))∧w=w':=by
 go_enter Tryz.func136,Tryz.ntmps136
 go_wp2_with (go_at_call 75;with_reducible refine (within_any _ _ _ _).mono ?_;rintro e w' ⟨rfl,rfl⟩)
 go_ret
 exact ⟨rfl,rfl⟩
theorem isMost_yes (n:Int) (w:World) (h:-1000000≤n∧n≤1000000) :
 Calls Tryz.prog 136 #[.int .i64 n] w fun e w'=>e=.returned (.bool true)∧w=w' :=
 (isMost_any n w).mono fun _ _ ⟨h1,h2⟩=>⟨by simp [h1,h.1,h.2],h2⟩
theorem isMost_no (n:Int) (w:World) (h:¬ (-1000000≤n∧n≤1000000)) :
 Calls Tryz.prog 136 #[.int .i64 n] w fun e w'=>e=.returned (.bool false)∧w=w' :=
 (isMost_any n w).mono fun _ _ ⟨h1,h2⟩=>⟨by rw [h1];congr 2;simpa using h,h2⟩
theorem isBy_any (n:Int) (w:World) :
 Calls Tryz.prog 137 #[.int .i64 n] w fun e w'=>e=.returned (.bool (decide (0≤n)&&decide (n≤1000000)))∧w=w':=by
 go_enter Tryz.func137,Tryz.ntmps137
 go_wp2_with (go_at_call 75;with_reducible refine (within_any _ _ _ _).mono ?_;rintro e w' ⟨rfl,rfl⟩)
 go_ret
 exact ⟨rfl,rfl⟩
theorem isBound_any (f t m b p:Int) (w:World) (hp:-1000≤p) (hp':p≤1000) :
 Calls Tryz.prog 105 #[.agg #[.int .i64 f,.int .i64 t,.int .i64 m,.int .i64 b],.int .i64 p] w fun e w'=>e=.returned (.bool (okBnd (p-1) ⟨f,t,m,b⟩))∧Below w.heap.size w w':=by
 by_cases h1:0≤f∧f≤p-1
 · by_cases h2:0≤t∧t≤p-1
   · by_cases h3:f=t
     · have h3':(f != t)=false:=by simp [h3]
       have H3:=Lib.hid h3;clear h3
       go_enter Tryz.func105,Tryz.ntmps105
       go_wp2_with (first | (go_at_call 75;with_reducible refine (within_yes _ _ _ _ h1).mono ?_;rintro e w' ⟨rfl,rfl⟩) | (go_at_call 75;with_reducible refine (within_yes _ _ _ _ h2).mono ?_;rintro e w' ⟨rfl,rfl⟩))
       go_ret
       exact ⟨by simp [okBnd,H3.out],(by (repeat (first|exact Below.refl _ _|refine Below.drew ?_|refine Below.alloc ?_ (by simp) _)))⟩
     · have h3':(f != t)=true:=by simpa using h3
       by_cases h4:-1000000≤m∧m≤1000000
       · go_enter Tryz.func105,Tryz.ntmps105
         go_wp2_with (first | (go_at_call 75;with_reducible refine (within_yes _ _ _ _ h1).mono ?_;rintro e w' ⟨rfl,rfl⟩) | (go_at_call 75;with_reducible refine (within_yes _ _ _ _ h2).mono ?_;rintro e w' ⟨rfl,rfl⟩) | (go_at_call 136;with_reducible refine (isMost_yes _ _ h4).mono ?_;rintro e w' ⟨rfl,rfl⟩) | (go_at_call 137;with_reducible refine (isBy_any _ _).mono ?_;rintro e w' ⟨rfl,rfl⟩))
         go_ret
         exact ⟨by simp [okBnd,h1,h2,h3,h4],(by (repeat (first|exact Below.refl _ _|refine Below.drew ?_|refine Below.alloc ?_ (by simp) _)))⟩
       · go_enter Tryz.func105,Tryz.ntmps105
         go_wp2_with (first | (go_at_call 75;with_reducible refine (within_yes _ _ _ _ h1).mono ?_;rintro e w' ⟨rfl,rfl⟩) | (go_at_call 75;with_reducible refine (within_yes _ _ _ _ h2).mono ?_;rintro e w' ⟨rfl,rfl⟩) | (go_at_call 136;with_reducible refine (isMost_no _ _ h4).mono ?_;rintro e w' ⟨rfl,rfl⟩))
         go_ret
         exact ⟨by simp [okBnd,h4],(by (repeat (first|exact Below.refl _ _|refine Below.drew ?_|refine Below.alloc ?_ (by simp) _)))⟩
   · go_enter Tryz.func105,Tryz.ntmps105
     go_wp2_with (first | (go_at_call 75;with_reducible refine (within_yes _ _ _ _ h1).mono ?_;rintro e w' ⟨rfl,rfl⟩) | (go_at_call 75;with_reducible refine (within_no _ _ _ _ h2).mono ?_;rintro e w' ⟨rfl,rfl⟩))
     go_ret
     exact ⟨by simp [okBnd,h2],(by (repeat (first|exact Below.refl _ _|refine Below.drew ?_|refine Below.alloc ?_ (by simp) _)))⟩
 · go_enter Tryz.func105,Tryz.ntmps105
   go_wp2_with (first | (go_at_call 75;with_reducible refine (within_no _ _ _ _ h1).mono ?_;rintro e w' ⟨rfl,rfl⟩))
   go_ret
   exact ⟨by simp [okBnd,h1],(by (repeat (first|exact Below.refl _ _|refine Below.drew ?_|refine Below.alloc ?_ (by simp) _)))⟩
theorem all_take_succ {l:List Bnd} {f:Bnd→Bool} {k:Nat} {x:Bnd} (h:l[k]?=some x) (ha:(l.take k).all f=true) (hk:f x=true):(l.take (k+1)).all f=true:=by
 rw [List.take_add_one,List.all_append,ha,h]
 simpa using hk
theorem all_no {l:List Bnd} {f:Bnd→Bool} {k:Nat} {x:Bnd} (h:l[k]?=some x) (hk:f x=false):l.all f=false:=by
 rw [List.all_eq_false]
 exact ⟨x,List.mem_of_getElem? h,by simp [hk]⟩
theorem checkSystem_any (p:Int) (A:Option Addr) (n cap:Nat) (l:List Bnd) (w:World) (hr:RdB w A n cap l) (hn:n≤maxLen) :
 Calls Tryz.prog 68 #[.agg #[.int .i64 p,.slice A n cap]] w fun e w'=>e=.returned (.int .i64 (chk p l))∧Below w.heap.size w w':=by
 unfold maxLen at hn
 have HR:=Lib.hid hr
 by_cases h:p≤60
 · by_cases h2:n≤400
   · by_cases h1:1≤p
     · have hl:=hr.len
       have HL:=Lib.hid hl;clear hl
       clear hr
       go_enter Tryz.func68,Tryz.ntmps68
       go_wp2
       go_loopw [20] (fun i wr=>∃ k:Nat,k≤n∧i=.int .i64 k∧(l.take k).all (okBnd (p-1))=true∧Below (w.heap.size+1) (w.alloc (.cells #[.int .i64 p,.slice A n cap] 84)) wr) (fun i _=>n-(intOf i).toNat)
       case atStart=>exact ⟨0,Nat.zero_le _,rfl,rfl,Below.refl _ _⟩
       case round=>
        obtain ⟨k,hk,rfl,hall,hb⟩:=hrel
        have HA:=Lib.hid hall;clear hall
        have hz:=box_size hb
        have hc:wr.cell? ⟨w.heap.size,0,none⟩=some (.int .i64 p):=box_cell hb 0
        have ho:=box_out hb
        by_cases hlt:k<n
        · obtain ⟨b,o,f,t,m,i,rfl,hbw,hx,c0,c1,c2,c3⟩:=(HR.out.below ho).get hlt
          have HX:=Lib.hid hx;clear hx
          cases hok:okBnd (p-1) ⟨f,t,m,i⟩
          · have HO:=Lib.hid hok;clear hok
            go_wp2_with fail
            refine (isBound_any _ _ _ _ _ _ (by omega) (by omega)).mono ?_
            rw [HO.out]
            rintro e w2 ⟨rfl,hb2⟩
            go_wp2
            go_ret
            exact ⟨ret_int (by rw [chk,if_neg (by rw [HL.out];omega),if_neg (by omega),if_neg];rw [all_no HX.out HO.out];simp),(ho.alloc (Nat.le_of_lt hz) _).trans (hb2.mono (by simp;omega))⟩
          · have HO:=Lib.hid hok;clear hok
            go_wp2_with fail
            refine (isBound_any _ _ _ _ _ _ (by omega) (by omega)).mono ?_
            rw [HO.out]
            rintro e w2 ⟨rfl,hb2⟩
            go_wp2
            go_roundw
            case rel=>exact ⟨k+1,by omega,by go_num,all_take_succ HX.out HA.out HO.out,(hb.alloc hz _).trans (hb2.mono (by simp;omega))⟩
            case measure=>simp [intOf];omega
        · go_wp2
          go_ret
          obtain rfl:k=n:=by omega
          exact ⟨ret_int (by rw [chk,if_neg (by rw [HL.out];omega),if_neg (by omega),if_pos];have:=HA.out;rwa [List.take_of_length_le (by rw [HL.out];omega)] at this),ho⟩
     · go_enter Tryz.func68,Tryz.ntmps68
       go_wp2
       go_ret
       exact ⟨ret_int (by rw [chk,if_neg (by rw [HR.out.len];omega),if_pos (by omega)]),(by (repeat (first|exact Below.refl _ _|refine Below.drew ?_|refine Below.alloc ?_ (by simp) _)))⟩
   · go_enter Tryz.func68,Tryz.ntmps68
     go_wp2
     go_ret
     exact ⟨ret_int (by rw [chk,if_pos (by rw [HR.out.len];omega)]),(by (repeat (first|exact Below.refl _ _|refine Below.drew ?_|refine Below.alloc ?_ (by simp) _)))⟩
 · go_enter Tryz.func68,Tryz.ntmps68
   go_wp2
   go_ret
   exact ⟨ret_int (by rw [chk,if_pos (by omega)]),(by (repeat (first|exact Below.refl _ _|refine Below.drew ?_|refine Below.alloc ?_ (by simp) _)))⟩
end Go.Proofs.YtebkniakflhhkaaGreatDoor
/- Short forms for the walks' texts: cells by their place, an operation that is taken first or comes up next (its text is read off the region), facts kept hidden. -/
namespace Go.Proofs.YtebkniakflhhkaaGreatDoor
open Go.RowKit
theorem Blk.nth {w:World} {g:Nat} {t:TypeId} {l:List Value} (h:Blk w g t l.toArray) (i:Nat) {v:Value} (hv:l[i]?=some v:=by rfl):w.cell? ⟨g,i,none⟩=some v :=
 (h.cell i).trans (by rw [← hv];simp)
section
variable {P:Program} {ops:Array Oper} {Q:Exit→Act→World→Prop} {md:Region.Mode} {S:World→Prop} {fuel:Nat} {listed:Array Bool} {a:Act} {w:World}
theorem opAt {i:Nat} {o:Oper} (h:ops.toList[i]?=some o):ops[i]?=some o:=by rw [← Array.getElem?_toList];exact h
def mayTake (md:Region.Mode) (ops:Array Oper) (listed:Array Bool) (i:Nat):Bool:=Region.noSelect ops&&(Region.free md ops listed i&&(Region.ready md ops listed).contains i)
theorem mayTake_ok {i:Nat} (h:mayTake md ops listed i=true):Region.noSelect ops=true∧Region.free md ops listed i=true∧(Region.ready md ops listed).contains i=true:=by
 unfold mayTake at h
 simp only [Bool.and_eq_true] at h
 exact h
theorem tkY (i:Nat) {oi:Oper} {v:Value} (hy:∀ w,(execOp a.eval oi).run P w=.ok (.value v) w) (h:wpAny P md ops Q fuel (listed.setIfInBounds i true) (a.put oi.dst v) w)
 (hi:ops.toList[i]?=some oi:=by rfl) (hk:mayTake md ops listed i=true:=by kernel_rfl) (hw:Region.wanted oi (yielded ops a.tmps)=true:=by rfl) (hQ:∀ c a w,Q (.panic c) (a.put oi.dst v) w→Q (.panic c) a w:=by exact fun _ _ _ h=>h):wpAny P md ops Q (fuel+1) listed a w :=
 wpAny_take (opAt hi) (mayTake_ok hk).1 (mayTake_ok hk).2.1 (mayTake_ok hk).2.2 hQ (.inl ⟨hw,hy⟩) h
theorem tkH (i:Nat) {oi:Oper} {v:Value} (hS:S w) (hy:∀ w,S w→(execOp a.eval oi).run P w=.ok (.value v) w) (h:wpAnyH P md ops Q S fuel (listed.setIfInBounds i true) (a.put oi.dst v) w)
 (hi:ops.toList[i]?=some oi:=by rfl) (hk:mayTake md ops listed i=true:=by kernel_rfl) (hw:Region.wanted oi (yielded ops a.tmps)=true:=by rfl) (hQ:∀ c a w,Q (.panic c) (a.put oi.dst v) w→Q (.panic c) a w:=by exact fun _ _ _ h=>h):wpAnyH P md ops Q S (fuel+1) listed a w :=
 wpAnyH_take (opAt hi) (mayTake_ok hk).1 (mayTake_ok hk).2.1 (mayTake_ok hk).2.2 hQ (.inl ⟨hw,hy⟩) hS h
theorem tkNH (i:Nat) {oi:Oper} (hS:S w) (h:wpAnyH P md ops Q S fuel (listed.setIfInBounds i true) (a.put oi.dst undef) w)
 (hi:ops.toList[i]?=some oi:=by rfl) (hk:mayTake md ops listed i=true:=by kernel_rfl) (hw:Region.wanted oi (yielded ops a.tmps)=false:=by rfl) (hQ:∀ c a w,Q (.panic c) (a.put oi.dst undef) w→Q (.panic c) a w:=by exact fun _ _ _ h=>h):wpAnyH P md ops Q S (fuel+1) listed a w :=
 wpAnyH_take (opAt hi) (mayTake_ok hk).1 (mayTake_ok hk).2.1 (mayTake_ok hk).2.2 hQ (.inr ⟨hw,rfl⟩) hS h
theorem twY (i:Nat) {oi:Oper} {v:Value} (h:wpAny P md ops Q fuel (listed.setIfInBounds i true) (a.put oi.dst v) w)
 (hi:ops.toList[i]?=some oi:=by rfl) (hk:mayTake md ops listed i=true:=by kernel_rfl) (hw:Region.wanted oi (yielded ops a.tmps)=true:=by rfl) (hy:∀ w,(execOp a.eval oi).run P w=.ok (.value v) w:=by intro w;go_simp;try with_reducible rfl) (hQ:∀ c a w,Q (.panic c) (a.put oi.dst v) w→Q (.panic c) a w:=by exact fun _ _ _ h=>h):wpAny P md ops Q (fuel+1) listed a w :=
 tkY i hy h hi hk hw hQ
theorem twH (i:Nat) {oi:Oper} {v:Value} (hS:S w) (h:wpAnyH P md ops Q S fuel (listed.setIfInBounds i true) (a.put oi.dst v) w)
 (hi:ops.toList[i]?=some oi:=by rfl) (hk:mayTake md ops listed i=true:=by kernel_rfl) (hw:Region.wanted oi (yielded ops a.tmps)=true:=by rfl) (hy:∀ w,S w→(execOp a.eval oi).run P w=.ok (.value v) w:=by rintro _ -;go_simp;try with_reducible rfl) (hQ:∀ c a w,Q (.panic c) (a.put oi.dst v) w→Q (.panic c) a w:=by exact fun _ _ _ h=>h):wpAnyH P md ops Q S (fuel+1) listed a w :=
 tkH i hS hy h hi hk hw hQ
theorem rdY {i:Nat} {o:Oper} {rs:List Nat} (ho:ops.toList[i]?=some o)
 (h:∀ K':Act→World→Prop,(∀ a w,wpAny P md ops Q fuel (listed.setIfInBounds i true) a w→K' a w)→if Region.wanted o (yielded ops a.tmps)=true then Oper.wp P o a w K' Q else K' (a.put o.dst undef) w)
 (hs:AllReady P md ops Q fuel listed a w rs):AllReady P md ops Q fuel listed a w (i::rs):=AllReady.cons (opAt ho) h hs
theorem rdH {i:Nat} {o:Oper} {rs:List Nat} (ho:ops.toList[i]?=some o)
 (h:∀ K':Act→World→Prop,Shut (∀ a w,S w→(S w→wpAnyH P md ops Q S fuel (listed.setIfInBounds i true) a w)→K' a w)→if Region.wanted o (yielded ops a.tmps)=true then Oper.wp P o a w K' Q else K' (a.put o.dst undef) w)
 (hs:AllReadyH P md ops Q S fuel listed a w rs):AllReadyH P md ops Q S fuel listed a w (i::rs):=AllReadyH.cons (opAt ho) h hs
theorem oneY (i:Nat) {o:Oper} (ho:ops.toList[i]?=some o)
 (h:∀ K':Act→World→Prop,(∀ a w,wpAny P md ops Q fuel (listed.setIfInBounds i true) a w→K' a w)→if Region.wanted o (yielded ops a.tmps)=true then Oper.wp P o a w K' Q else K' (a.put o.dst undef) w)
 (hr:Region.ready md ops listed=[i]:=by kernel_rfl):wpAny P md ops Q (fuel+1) listed a w:=wpAny_ready hr (by simp) (rdY ho h .nil)
theorem oneH (i:Nat) {o:Oper} (ho:ops.toList[i]?=some o)
 (h:∀ K':Act→World→Prop,Shut (∀ a w,S w→(S w→wpAnyH P md ops Q S fuel (listed.setIfInBounds i true) a w)→K' a w)→if Region.wanted o (yielded ops a.tmps)=true then Oper.wp P o a w K' Q else K' (a.put o.dst undef) w)
 (hr:Region.ready md ops listed=[i]:=by kernel_rfl):wpAnyH P md ops Q S (fuel+1) listed a w:=wpAnyH_ready hr (by simp) (rdH ho h .nil)
end
theorem qsA {α:Type} (l:List α) (i:Nat) (x:α):l.toArray.setIfInBounds i x=(l.set i x).toArray:=List.setIfInBounds_toArray ..
theorem qsZ {α:Type} (y:α) (l:List α) (x:α):(y::l).set 0 x=x::l:=rfl
theorem qsS {α:Type} (y:α) (l:List α) (n:Nat) (x:α):(y::l).set (n+1) x=y::l.set n x:=rfl
theorem pq:(∀ (a:Act) (d:Nat) (v:Value),a.put (some d) v={ a with tmps:=a.tmps.setIfInBounds d v })∧(∀ (a:Act) (v:Value),a.put none v=a)∧(∀ (l:List Value) (i:Nat) (x:Value),l.toArray.setIfInBounds i x=(l.set i x).toArray)∧(∀ (y:Value) (l:List Value) (x:Value),(y::l).set 0 x=x::l)∧∀ (y:Value) (l:List Value) (n:Nat) (x:Value),(y::l).set (n+1) x=y::l.set n x :=
 ⟨fun _ _ _=>rfl,fun _ _=>rfl,fun _ _ _=>List.setIfInBounds_toArray ..,fun _ _ _=>rfl,fun _ _ _ _=>rfl⟩
theorem at1 {w:World} {g:Nat} {t:TypeId} {a0:Value} (h:Hid (Blk w g t #[a0])):w.cell? ⟨g,0,none⟩=some a0:=h.out.nth 0
theorem at2 {w:World} {g:Nat} {t:TypeId} {a0 a1:Value} (h:Hid (Blk w g t #[a0,a1])):w.cell? ⟨g,0,none⟩=some a0∧w.cell? ⟨g,1,none⟩=some a1:=⟨h.out.nth 0,h.out.nth 1⟩
theorem at3 {w:World} {g:Nat} {t:TypeId} {a0 a1 a2:Value} (h:Hid (Blk w g t #[a0,a1,a2])):w.cell? ⟨g,0,none⟩=some a0∧w.cell? ⟨g,1,none⟩=some a1∧w.cell? ⟨g,2,none⟩=some a2:=⟨h.out.nth 0,h.out.nth 1,h.out.nth 2⟩
theorem at4 {w:World} {g:Nat} {t:TypeId} {a0 a1 a2 a3:Value} (h:Hid (Blk w g t #[a0,a1,a2,a3])):w.cell? ⟨g,0,none⟩=some a0∧w.cell? ⟨g,1,none⟩=some a1∧w.cell? ⟨g,2,none⟩=some a2∧w.cell? ⟨g,3,none⟩=some a3:=⟨h.out.nth 0,h.out.nth 1,h.out.nth 2,h.out.nth 3⟩
theorem at6 {w:World} {g:Nat} {t:TypeId} {a0 a1 a2 a3 a4 a5:Value} (h:Hid (Blk w g t #[a0,a1,a2,a3,a4,a5])):w.cell? ⟨g,0,none⟩=some a0∧w.cell? ⟨g,1,none⟩=some a1∧w.cell? ⟨g,2,none⟩=some a2∧w.cell? ⟨g,3,none⟩=some a3∧w.cell? ⟨g,4,none⟩=some a4∧w.cell? ⟨g,5,none⟩=some a5:=⟨h.out.nth 0,h.out.nth 1,h.out.nth 2,h.out.nth 3,h.out.nth 4,h.out.nth 5⟩
theorem at10 {w:World} {g:Nat} {t:TypeId} {a0 a1 a2 a3 a4 a5 a6 a7 a8 a9:Value} (h:Hid (Blk w g t #[a0,a1,a2,a3,a4,a5,a6,a7,a8,a9])):w.cell? ⟨g,0,none⟩=some a0∧w.cell? ⟨g,1,none⟩=some a1∧w.cell? ⟨g,2,none⟩=some a2∧w.cell? ⟨g,3,none⟩=some a3∧w.cell? ⟨g,4,none⟩=some a4∧w.cell? ⟨g,5,none⟩=some a5∧w.cell? ⟨g,6,none⟩=some a6∧w.cell? ⟨g,7,none⟩=some a7∧w.cell? ⟨g,8,none⟩=some a8∧w.cell? ⟨g,9,none⟩=some a9:=⟨h.out.nth 0,h.out.nth 1,h.out.nth 2,h.out.nth 3,h.out.nth 4,h.out.nth 5,h.out.nth 6,h.out.nth 7,h.out.nth 8,h.out.nth 9⟩
section
open Go.Lib
variable {w w' w0:World} {g B:Nat} {t:TypeId} {cs:Array Value} {A:Option Addr} {n c:Nat} {l:List Bnd} {x:List Int}
theorem kH (h:Hid (Blk w g t cs)) (hb:Hid (Below w.heap.size w w')):Hid (Blk w' g t cs):=hid (h.out.keep hb.out)
theorem rH (h:Hid (RdB w A n c l)) (hb:Hid (Below w.heap.size w w')):Hid (RdB w' A n c l):=hid (h.out.below hb.out)
theorem iH (h:Hid (RdI w A n c x)) (hb:Hid (Below w.heap.size w w')):Hid (RdI w' A n c x):=hid (h.out.below hb.out)
theorem bH (h:Hid (Below w0.heap.size w0 w)) (hb:Hid (Below w.heap.size w w')):Hid (Below w0.heap.size w0 w'):=hid (h.out.trans (hb.out.mono h.out.size))
theorem rI (h:RdB w A n c l) (hb:Hid (Below w.heap.size w w')):Hid (RdB w' A n c l):=hid (h.below hb.out)
theorem iI (h:RdI w A n c x) (hb:Hid (Below w.heap.size w w')):Hid (RdI w' A n c x):=hid (h.below hb.out)
theorem kD (h:Hid (Blk w g t cs)):Hid (Blk w.drew g t cs):=hid h.out.drew
theorem kA (h:Hid (Blk w g t cs)) (o:Obj):Hid (Blk (w.alloc o) g t cs):=hid (h.out.alloc o)
theorem rB (h:Hid (RdB w A n c l)) (hb:Below w.heap.size w w'):Hid (RdB w' A n c l):=hid (h.out.below hb)
theorem rD (h:Hid (RdB w A n c l)):Hid (RdB w.drew A n c l):=hid h.out.drew
theorem rA (h:Hid (RdB w A n c l)) (o:Obj):Hid (RdB (w.alloc o) A n c l):=hid (h.out.alloc o)
theorem iD (h:Hid (RdI w A n c x)):Hid (RdI w.drew A n c x):=hid h.out.drew
theorem iA (h:Hid (RdI w A n c x)) (o:Obj):Hid (RdI (w.alloc o) A n c x):=hid (h.out.alloc o)
theorem bD (h:Hid (Below w0.heap.size w0 w)):Hid (Below w0.heap.size w0 w.drew):=hid h.out.drew
theorem bA (h:Hid (Below w0.heap.size w0 w)) (o:Obj):Hid (Below w0.heap.size w0 (w.alloc o)):=hid (h.out.alloc h.out.size o)
theorem ent1 (w:World) (c0:Array Value) (t0:TypeId):Hid (Blk (w.alloc (.cells c0 t0)) w.heap.size t0 c0)∧Hid (Below w.heap.size w (w.alloc (.cells c0 t0))):=⟨hid (Blk.new ..),hid ((Below.refl _ w).alloc (Nat.le_refl _) _)⟩
theorem ent2 (w:World) (c0:Array Value) (t0:TypeId) (c1:Array Value) (t1:TypeId):Hid (Blk ((w.alloc (.cells c0 t0)).alloc (.cells c1 t1)) w.heap.size t0 c0)∧Hid (Blk ((w.alloc (.cells c0 t0)).alloc (.cells c1 t1)) (w.heap.size+1) t1 c1)∧Hid (Below w.heap.size w ((w.alloc (.cells c0 t0)).alloc (.cells c1 t1))):=by
 obtain ⟨h1,h2⟩:=ent1 w c0 t0
 have h3:=Blk.new (w.alloc (.cells c0 t0)) t1 c1
 simp only [World.size_alloc] at h3
 exact ⟨kA h1 _,hid h3,bA h2 _⟩
theorem ent3 (w:World) (c0:Array Value) (t0:TypeId) (c1:Array Value) (t1:TypeId) (c2:Array Value) (t2:TypeId):Hid (Blk (((w.alloc (.cells c0 t0)).alloc (.cells c1 t1)).alloc (.cells c2 t2)) w.heap.size t0 c0)∧Hid (Blk (((w.alloc (.cells c0 t0)).alloc (.cells c1 t1)).alloc (.cells c2 t2)) (w.heap.size+1) t1 c1)∧Hid (Blk (((w.alloc (.cells c0 t0)).alloc (.cells c1 t1)).alloc (.cells c2 t2)) (w.heap.size+1+1) t2 c2)∧Hid (Below w.heap.size w (((w.alloc (.cells c0 t0)).alloc (.cells c1 t1)).alloc (.cells c2 t2))):=by
 obtain ⟨h1,h2,h4⟩:=ent2 w c0 t0 c1 t1
 have h3:=Blk.new ((w.alloc (.cells c0 t0)).alloc (.cells c1 t1)) t2 c2
 simp only [World.size_alloc] at h3
 exact ⟨kA h1 _,kA h2 _,hid h3,bA h4 _⟩
theorem ent4 (w:World) (c0:Array Value) (t0:TypeId) (c1:Array Value) (t1:TypeId) (c2:Array Value) (t2:TypeId) (c3:Array Value) (t3:TypeId):Hid (Blk ((((w.alloc (.cells c0 t0)).alloc (.cells c1 t1)).alloc (.cells c2 t2)).alloc (.cells c3 t3)) (w.heap.size) t0 c0)∧Hid (Blk ((((w.alloc (.cells c0 t0)).alloc (.cells c1 t1)).alloc (.cells c2 t2)).alloc (.cells c3 t3)) (w.heap.size+1) t1 c1)∧Hid (Blk ((((w.alloc (.cells c0 t0)).alloc (.cells c1 t1)).alloc (.cells c2 t2)).alloc (.cells c3 t3)) (w.heap.size+1+1) t2 c2)∧Hid (Blk ((((w.alloc (.cells c0 t0)).alloc (.cells c1 t1)).alloc (.cells c2 t2)).alloc (.cells c3 t3)) (w.heap.size+1+1+1) t3 c3)∧Hid (Below w.heap.size w ((((w.alloc (.cells c0 t0)).alloc (.cells c1 t1)).alloc (.cells c2 t2)).alloc (.cells c3 t3))):=by
 obtain ⟨h0,h1,h2,hb⟩:=ent3 w c0 t0 c1 t1 c2 t2
 have hn:=Blk.new (((w.alloc (.cells c0 t0)).alloc (.cells c1 t1)).alloc (.cells c2 t2)) t3 c3
 simp only [World.size_alloc] at hn
 exact ⟨kA h0 _,kA h1 _,kA h2 _,hid hn,bA hb _⟩
end
end Go.Proofs.YtebkniakflhhkaaGreatDoor
