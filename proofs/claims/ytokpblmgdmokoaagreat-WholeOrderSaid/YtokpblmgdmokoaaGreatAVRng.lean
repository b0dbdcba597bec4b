import Derived.DeepKeys4
import Derived.Test.YtokpblmgdmokoaaGreatAVEnt
set_option linter.unusedSimpArgs false
set_option linter.unusedVariables false
namespace Go.Proofs.YtokpblmgdmokoaaGreat
open Go.RowKit Go.Maps
structure Rng where
 lo:Int
 hi:Int
deriving DecidableEq,Inhabited
def encR (r:Rng):Value:=.agg #[.int .i64 r.lo,.int .i64 r.hi]
def WfR (r:Rng):Prop:=WfI r.lo∧WfI r.hi
theorem encR_inj {p q:Rng} (h:encR p=encR q):p=q:=by
 obtain ⟨a,b⟩:=p
 obtain ⟨a',b'⟩:=q
 simp [encR] at h
 simp [h]
theorem v_laidOut:laidOutB Tryz.prog=true:=by kernel_rfl
theorem v_rowR:(41:TypeId)<Tryz.prog.types.size:=of_decide_eq_true (by kernel_rfl)
theorem v_wideR:(match Tryz.prog.underlying 41 with|some (.array _ _)|some (.struct _)=>true|_=>false)=true:=by kernel_rfl
set_option maxRecDepth 100000 in
theorem lawR:Maps.Keyed Tryz.prog 41:=Maps.Keyed.of_law (deep_law_laid v_laidOut (m:=2) (by omega) v_rowR (by kernel_rfl) v_wideR)
theorem keyTypeR:Tryz.prog.keyType 41=true:=by kernel_rfl
theorem cellsR:Tryz.prog.cellsOf 41=2:=by kernel_rfl
theorem cellsI:Tryz.prog.cellsOf 3=1:=by kernel_rfl
section
variable {P:Program}
theorem kli {t:TypeId} (hu:P.underlying t=some (.int .i64)) (d:Nat) {x:Int} (h:WfI x):P.keyLits (d+1) t [.int .i64 x]=some [.int .i64 x]:=by
 unfold Program.keyLits
 rw [hu]
 unfold WfI at h
 simp [h]
theorem kli_inv {t:TypeId} (hu:P.underlying t=some (.int .i64)) (d:Nat) {l:List Value} {ls:List Lit} (h:P.keyLits (d+1) t l=some ls):∃ x,l=[.int .i64 x]∧WfI x:=by
 unfold Program.keyLits at h
 rw [hu] at h
 rcases l with _|⟨v,_|⟨v2,l⟩⟩
 · simp at h
 · cases v<;>simp at h
   obtain ⟨⟨rfl,hw⟩,_⟩:=h
   exact ⟨_,rfl,hw⟩
 · simp at h
theorem kl2 {t:TypeId} {f1 f2:Field} (hu:P.underlying t=some (.struct #[f1,f2])) {c1:Nat} (ho1:f1.offset=0) (ho2:f2.offset=c1) (n1:(f1.name != "_")=true) (n2:(f2.name != "_")=true) (k1:P.cellsOf f1.type=c1) (k2:P.cellsOf f2.type=c1) (hc:P.cellsOf t=c1+c1) (d:Nat) {l:List Value} :
 P.keyLits (d+1) t l=if l.length=c1+c1 then (P.keyLits d f1.type (l.take c1)).bind (fun a=>(P.keyLits d f2.type ((l.drop c1).take c1)).bind fun b=>some (a++b)) else none:=by
 conv=>lhs;unfold Program.keyLits
 rw [hu]
 simp only [hc]
 have hall:(#[f1,f2].all fun x=>x.name != "_")=true:=by simp [n1,n2]
 by_cases hl:l.length=c1+c1
 · rw [if_pos ⟨hl,hall⟩,if_pos hl]
   simp only [List.mapM_cons,List.mapM_nil,ho1,ho2,k1,k2,List.drop_zero]
   cases P.keyLits d f1.type (l.take c1) with
   | none=>rfl
   | some a =>
    cases hb:P.keyLits d f2.type ((l.drop c1).take c1) with
    | none=>simp [hb]
    | some b=>simp [hb]
 · rw [if_neg (fun h=>hl h.1),if_neg hl]
end
theorem kl_rg (d:Nat) {l:List Value}:Tryz.prog.keyLits (d+1) 41 l=if l.length=1+1 then (Tryz.prog.keyLits d 3 (l.take 1)).bind (fun a=>(Tryz.prog.keyLits d 3 ((l.drop 1).take 1)).bind fun b=>some (a++b)) else none :=
 kl2 Tryz.underlying41 rfl rfl (by decide) (by decide) cellsI cellsI cellsR d
theorem typesDeep2:∃ m,Tryz.prog.types.size+1=m+2:=by
 obtain ⟨k,hk⟩:∃ k,Tryz.prog.types.size=k+1:=⟨Tryz.prog.types.size-1,by have h:1≤Tryz.prog.types.size:=of_decide_eq_true (by kernel_rfl);omega⟩
 exact ⟨k,by rw [hk]⟩
theorem keyOfR_eq (v:Value):keyOf Tryz.prog 41 v=if v.formed Tryz.prog 41 then (Tryz.prog.keyLits (Tryz.prog.types.size+1) 41 v.cells.toList).map (fun ls=>.string (keyBytes ls)) else none:=by
 unfold keyOf
 rw [Tryz.underlying41]
 dsimp only
 rw [keyTypeR,Bool.true_and]
theorem keyOfR_mk {r:Rng} (h:WfR r):∃ kl,keyOf Tryz.prog 41 (encR r)=some kl:=by
 obtain ⟨h1,h2⟩:=h
 obtain ⟨m,hm⟩:=typesDeep2
 have hf:(encR r).formed Tryz.prog 41=true:=by
  unfold Value.formed encR
  rw [Tryz.underlying41]
  dsimp only
  rw [cellsR]
  rfl
 rw [keyOfR_eq,if_pos hf,hm]
 have e:(encR r).cells.toList=[.int .i64 r.lo,.int .i64 r.hi]:=by simp [encR,Value.cells]
 rw [e,kl_rg]
 simp only [List.length_cons,List.length_nil,Nat.reduceAdd,if_true,List.take_succ_cons,List.take_zero,List.drop_succ_cons,List.drop_zero]
 rw [kli Tryz.underlying3 m h1,kli Tryz.underlying3 m h2]
 exact ⟨_,rfl⟩
theorem bindS_inv {α β:Type} {x:Option α} {f:α→Option β} {b:β} (h:x.bind f=some b):∃ a,x=some a∧f a=some b:=by
 cases x with
 | none=>cases h
 | some a=>exact ⟨a,rfl,h⟩
set_option maxRecDepth 100000 in
theorem keyOfR_inv {v:Value} {kl:Lit} (h:keyOf Tryz.prog 41 v=some kl):∃ r,v=encR r∧WfR r:=by
 obtain ⟨m,hm⟩:=typesDeep2
 rw [keyOfR_eq] at h
 split at h
 · rename_i hf
   rw [hm,kl_rg] at h
   obtain ⟨ls,hls,-⟩:=Option.map_eq_some_iff.1 h
   split at hls
   · rename_i hl
     obtain ⟨a,ha,hls⟩:=bindS_inv hls
     obtain ⟨b,hb,-⟩:=bindS_inv hls
     obtain ⟨x,h1,w1⟩:=kli_inv Tryz.underlying3 m ha
     obtain ⟨y,h2,w2⟩:=kli_inv Tryz.underlying3 m hb
     clear ha hb hls h
     unfold Value.formed at hf
     rw [Tryz.underlying41] at hf
     generalize hvc:v.cells.toList=vc at h1 h2 hl
     cases v<;>simp at hf
     rename_i cs
     obtain ⟨l⟩:=cs
     simp only [Value.cells] at hvc
     subst hvc
     rcases l with _|⟨v1,_|⟨v2,_|⟨v3,l⟩⟩⟩<;>simp at hl h1 h2
     subst h1 h2
     exact ⟨⟨x,y⟩,rfl,w1,w2⟩
   · cases hls
 · cases h
noncomputable def keyR (r:Rng):Lit:=(keyOf Tryz.prog 41 (encR r)).getD (.bool false)
theorem keyR_of {r:Rng} (h:WfR r):keyOf Tryz.prog 41 (encR r)=some (keyR r):=by
 obtain ⟨kl,hk⟩:=keyOfR_mk h
 unfold keyR
 rw [hk]
 rfl
theorem keyR_inj {p q:Rng} (hp:WfR p) (hq:WfR q) (h:keyR p=keyR q):p=q:=by
 have h1:=keyR_of hp
 rw [h] at h1
 exact encR_inj (lawR.inj h1 (keyR_of hq))
theorem keyR_ne {p q:Rng} (hp:WfR p) (hq:WfR q) (h:p≠q):keyR p≠keyR q:=fun e=>h (keyR_inj hp hq e)
set_option maxRecDepth 100000 in
theorem keyR_key {r:Rng} (hr:WfR r):WideAt.IsKeyLit (keyR r):=Maps.Keyed.key lawR (keyR_of hr)
def colR (p:Prt):Rng:=⟨p.lo,p.hi⟩
def cntR (l:List Prt) (r:Rng):Nat:=l.countP fun p=>decide (colR p=r)&&p.ft
abbrev zlit:DataW Unit:=.lit (.int .i64 0)
def CntD (D:DataW Unit) (l:List Prt):Prop:=IsMap D∧(∀ r,WfR r→has D (keyR r)=decide (r∈l.map colR))∧∀ r,WfR r→D.atKey (keyR r) zlit=.lit (.int .i64 (cntR l r))
theorem cntD_nil:CntD (.map []) []:=⟨isMap_empty,fun x _=>rfl,fun x _=>rfl⟩
theorem cntR_snoc (l:List Prt) (p:Prt) (r:Rng):cntR (l++[p]) r=cntR l r+(if colR p=r∧p.ft=true then 1 else 0):=by
 unfold cntR
 rw [List.countP_append]
 by_cases h:colR p=r<;>cases hf:p.ft<;>simp [h,hf]
set_option maxRecDepth 100000 in
theorem CntD.put {D:DataW Unit} {l:List Prt} (h:CntD D l) {p:Prt} (hp:WfR (colR p)) {c:Int} (hc:c=cntR (l++[p]) (colR p)):CntD (D.put (keyR (colR p)) (.lit (.int .i64 c))) (l++[p]):=by
 obtain ⟨h1,h2,h3⟩:=h
 subst hc
 refine ⟨h1.put _ _,fun y hy=>?_,fun y hy=>?_⟩
 · by_cases e:y=colR p
   · subst e;rw [has_put_same h1 (keyR_key hy)];simp
   · rw [has_put_other (keyR_ne hy hp e),h2 y hy];simp [e]
 · by_cases e:y=colR p
   · subst e;rw [atKey_put_same h1 (keyR_key hy)]
   · rw [atKey_put_other (keyR_ne hy hp e),h3 y hy,cntR_snoc,if_neg (fun h=>e h.1.symm),Nat.add_zero]
def OwnR (w:World) (b:Nat) (l:List Prt):Prop:=∃ n D,w.ownsMap Tryz.prog 41 (plainElem (H:=Unit) Tryz.prog 3) b n D∧n≤l.length∧CntD D l∧∀ p∈l,WfR (colR p)
theorem OwnR.lt {w:World} {b:Nat} {l:List Prt} (h:OwnR w b l):b<w.heap.size:=by obtain ⟨_,_,h,_⟩:=h;exact h.lt
theorem OwnR.keep_ {w w':World} {b:Nat} {l:List Prt} (h:OwnR w b l) (hb:w'.heap[b]?=w.heap[b]?):OwnR w' b l:=by
 obtain ⟨n,D,⟨es,clock,hh,F,hs,hD⟩,h2⟩:=h
 exact ⟨n,D,⟨es,clock,hb.trans hh,F,hs,hD⟩,h2⟩
theorem OwnR.keep {w w':World} {b:Nat} {l:List Prt} (h:OwnR w b l) (hb:Below w.heap.size w w'):OwnR w' b l:=h.keep_ (hb.block b h.lt)
theorem OwnR.alloc {w:World} {b:Nat} {l:List Prt} (h:OwnR w b l) (o:Obj):OwnR (w.alloc o) b l:=h.keep_ (Below.heap_alloc w o b h.lt)
theorem OwnR.drew {w:World} {b:Nat} {l:List Prt} (h:OwnR w b l):OwnR w.drew b l:=h.keep_ rfl
theorem OwnR.far {w:World} {b:Nat} {l:List Prt} (h:OwnR w b l) {a:Addr} (ha:b≠a.block) (v:Value):OwnR (w.setCell a v) b l:=h.keep_ (Below.heap_setCell w a v b ha)
theorem ownR_made (w:World):OwnR (w.alloc (.map #[] 0)) w.heap.size [] :=
 ⟨0,_,World.ownsMap_made w Tryz.prog 41 (plainElem (H:=Unit) Tryz.prog 3),Nat.le_refl _,cntD_nil,by simp⟩
def LkR (w:World) (b:Nat) (r:Rng) (c:Int):Prop:=∃ n D,w.ownsMap Tryz.prog 41 (plainElem (H:=Unit) Tryz.prog 3) b n D∧D.atKey (keyR r) zlit=.lit (.int .i64 c)∧WfR r
theorem LkR.lt {w:World} {b:Nat} {r:Rng} {c:Int} (h:LkR w b r c):b<w.heap.size:=by obtain ⟨_,_,h,_⟩:=h;exact h.lt
theorem LkR.keep_ {w w':World} {b:Nat} {r:Rng} {c:Int} (h:LkR w b r c) (hb:w'.heap[b]?=w.heap[b]?):LkR w' b r c:=by
 obtain ⟨n,D,⟨es,clock,hh,F,hs,hD⟩,h2⟩:=h
 exact ⟨n,D,⟨es,clock,hb.trans hh,F,hs,hD⟩,h2⟩
theorem LkR.keep {w w':World} {b:Nat} {r:Rng} {c:Int} (h:LkR w b r c) (hb:Below w.heap.size w w'):LkR w' b r c:=h.keep_ (hb.block b h.lt)
theorem LkR.alloc {w:World} {b:Nat} {r:Rng} {c:Int} (h:LkR w b r c) (o:Obj):LkR (w.alloc o) b r c:=h.keep_ (Below.heap_alloc w o b h.lt)
theorem LkR.drew {w:World} {b:Nat} {r:Rng} {c:Int} (h:LkR w b r c):LkR w.drew b r c:=h.keep_ rfl
set_option maxRecDepth 100000 in
theorem LkR.look {w:World} {b:Nat} {r:Rng} {c:Int} (h:LkR w b r c):(Instr.lookup 85 (.map (some b)) (encR r) false).run Tryz.prog w=.ok (.int .i64 c) w:=by
 obtain ⟨n,D,hown,hat,hw⟩:=h
 obtain ⟨c0,hlk,hc0,-⟩:=hown.lookup_int lawR Tryz.underlying85 Tryz.underlying3 (by kernel_rfl) (keyR_of hw)
 rw [hat] at hc0
 injection hc0 with hc0
 injection hc0 with _ hc0
 rw [hc0]
 exact hlk
theorem OwnR.lk {w:World} {b:Nat} {l:List Prt} (h:OwnR w b l) {r:Rng} (hr:WfR r):LkR w b r (cntR l r:Nat):=by
 obtain ⟨n,D,hown,_,hc,_⟩:=h
 exact ⟨n,D,hown,hc.2.2 r hr,hr⟩
set_option maxRecDepth 100000 in
theorem OwnR.entry {w:World} {b:Nat} {l:List Prt} (h:OwnR w b l) (hl:l.length<100000) {p:Prt} (hp:WfR (colR p)) :
 ∃ (st:Nat) (w1:World),(Instr.mapEntry 85 (.map (some b)) (encR (colR p))).run Tryz.prog w=.ok (.tuple #[.int .i64 (cntR l (colR p):Nat),.int .i64 st]) w1∧LkR w1 b (colR p) (cntR l (colR p):Nat)∧w.mapTurned w1 b ∧
  ∃ w2,(Instr.entryStore 85 (.map (some b)) (.int .i64 st) (.int .i64 ((cntR l (colR p):Nat)+(if p.ft then 1 else 0)))).run Tryz.prog w1=.ok () w2∧OwnR w2 b (l++[p])∧w.mapTurned w2 b:=by
 obtain ⟨n,D,hown,hn,hc,hw⟩:=h
 have hle:cntR l (colR p)≤l.length:=List.countP_le_length
 obtain ⟨st,w1,e1,-,-,e4,⟨D1,o1,o2⟩,e5⟩:=entryI hown lawR Tryz.underlying85 Tryz.underlying3 (fun _=>by kernel_rfl) (by unfold maxLen;omega) (keyR_of hp) _ (hc.2.2 _ hp)
 have hcn:((cntR l (colR p):Nat):Int)+(if p.ft then 1 else 0)=(cntR (l++[p]) (colR p):Nat):=by
  rw [cntR_snoc]
  cases p.ft<;>simp
 obtain ⟨w2,f1,f2,f3⟩:=e5 (((cntR l (colR p):Nat):Int)+(if p.ft then 1 else 0)) (wfI_of (by cases p.ft<;>simp<;>omega))
 exact ⟨st,w1,e1,⟨_,D1,o1,o2,hp⟩,e4,w2,f1,⟨n+1,_,f2,by simp;omega,hc.put hp hcn,fun q hq=>by
  rcases List.mem_append.1 hq with hq|hq
  · exact hw q hq
  · obtain rfl:=List.mem_singleton.1 hq
    exact hp⟩,f3⟩
set_option maxRecDepth 100000 in
theorem OwnR.entryN {w:World} {b:Nat} {l:List Prt} (h:OwnR w b l) (hl:l.length<100000) {p:Prt} (hp:WfR (colR p)) (c:Nat) (hc:cntR l (colR p)=c) (v:Int) (hv:v=(c:Int)+(if p.ft then 1 else 0)) :
 ∃ (st:Nat) (w1:World),(Instr.mapEntry 85 (.map (some b)) (encR (colR p))).run Tryz.prog w=.ok (.tuple #[.int .i64 c,.int .i64 st]) w1∧LkR w1 b (colR p) c∧w.mapTurned w1 b ∧
  ∃ w2,(Instr.entryStore 85 (.map (some b)) (.int .i64 st) (.int .i64 v)).run Tryz.prog w1=.ok () w2∧OwnR w2 b (l++[p])∧w.mapTurned w2 b:=by
 subst hc hv
 exact h.entry hl hp
theorem blk_turned {w w':World} {g b:Nat} {t:TypeId} {cs:Array Value} (h:Blk w g t cs) (ht:w.mapTurned w' b):Blk w' g t cs:=by
 obtain ⟨es,clock,es',clock',hb,rfl⟩:=ht
 have hne:g≠b:=fun e=>by subst e;unfold Blk at h;rw [h] at hb;cases hb
 exact (ChangeMaps.heap_setBlock_other hb _ hne).trans h
theorem bel_turned {w0 w w':World} {b:Nat} (h:Below w0.heap.size w0 w) (hb:w0.heap.size≤b) (ht:w.mapTurned w' b):Below w0.heap.size w0 w' :=
 h.grown ht.grown h.size (fun q e=>by cases e;exact hb)
end Go.Proofs.YtokpblmgdmokoaaGreat
