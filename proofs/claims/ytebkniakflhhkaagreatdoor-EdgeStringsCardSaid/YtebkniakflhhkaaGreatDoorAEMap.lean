import Derived.Test.YtebkniakflhhkaaGreatDoorAEFitM
import Derived.Test.YtebkniakflhhkaaGreatDoorAELoop
import Derived.Test.YtebkniakflhhkaaGreatDoorAEWays
set_option linter.unusedSimpArgs false
set_option linter.unusedVariables false
namespace Go.Proofs.YtebkniakflhhkaaGreatDoor
open Go.RowKit Go.Maps
def encV (p:Prg):Value:=.agg #[.int .i64 p.af,.int .i64 p.at2,.int .i64 p.bf,.int .i64 p.bt]
def WfP (p:Prg):Prop:=Wf p.af∧Wf p.at2∧Wf p.bf∧Wf p.bt
theorem encV_inj {p q:Prg} (h:encV p=encV q):p=q:=by
 obtain ⟨a,b,c,d⟩:=p
 obtain ⟨a',b',c',d'⟩:=q
 simp [encV] at h
 simp [h]
theorem TryzlaidOut:laidOutB Tryz.prog=true:=by kernel_rfl
theorem TryzrowPR:(25:TypeId)<Tryz.prog.types.size:=of_decide_eq_true (by kernel_rfl)
theorem TryzwidePR:(match Tryz.prog.underlying 25 with|some (.array _ _)|some (.struct _)=>true|_=>false)=true:=by kernel_rfl
set_option maxRecDepth 100000 in
theorem lawPR:Maps.Keyed Tryz.prog 25:=Maps.Keyed.of_law (deep_law_laid TryzlaidOut (m:=4) (by omega) TryzrowPR (by kernel_rfl) TryzwidePR)
theorem keyTypePR:Tryz.prog.keyType 25=true:=by kernel_rfl
theorem cellsPR:Tryz.prog.cellsOf 25=4:=by kernel_rfl
theorem cellsST:Tryz.prog.cellsOf 23=2:=by kernel_rfl
theorem cellsIT:Tryz.prog.cellsOf 3=1:=by kernel_rfl
section
variable {P:Program}
theorem kl_int {t:TypeId} (hu:P.underlying t=some (.int .i64)) (d:Nat) {x:Int} (h:Wf x):P.keyLits (d+1) t [.int .i64 x]=some [.int .i64 x]:=by
 unfold Program.keyLits
 rw [hu]
 unfold Wf at h
 simp [h]
theorem kl_int_inv {t:TypeId} (hu:P.underlying t=some (.int .i64)) (d:Nat) {l:List Value} {ls:List Lit} (h:P.keyLits (d+1) t l=some ls):∃ x,l=[.int .i64 x]∧Wf x:=by
 unfold Program.keyLits at h
 rw [hu] at h
 rcases l with _|⟨v,_|⟨v2,l⟩⟩
 · simp at h
 · cases v<;>simp at h
   obtain ⟨⟨rfl,hw⟩,_⟩:=h
   exact ⟨_,rfl,hw⟩
 · simp at h
theorem kl_two {t:TypeId} {f1 f2:Field} (hu:P.underlying t=some (.struct #[f1,f2])) {c1:Nat} (ho1:f1.offset=0) (ho2:f2.offset=c1) (n1:(f1.name != "_")=true) (n2:(f2.name != "_")=true) (k1:P.cellsOf f1.type=c1) (k2:P.cellsOf f2.type=c1) (hc:P.cellsOf t=c1+c1) (d:Nat) {l:List Value} :
 P.keyLits (d+1) t l=if l.length=c1+c1 then (P.keyLits d f1.type (l.take c1)).bind (fun a=>(P.keyLits d f2.type ((l.drop c1).take c1)).bind fun b=>some (a++b)) else none:=by
 conv=>lhs;unfold Program.keyLits
 rw [hu]
 simp only [hc]
 have hall:(#[f1,f2].all fun x=>x.name != "_")=true:=by simp [n1,n2]
 by_cases hl:l.length=c1+c1
 · rw [if_pos ⟨hl,hall⟩,if_pos hl]
   simp only [List.mapM_cons,List.mapM_nil,ho1,ho2,k1,k2,List.drop_zero]
   cases P.keyLits d f1.type (l.take c1) with
   | none=>rfl
   | some a =>
    cases hb:P.keyLits d f2.type ((l.drop c1).take c1) with
    | none=>simp [hb]
    | some b=>simp [hb]
 · rw [if_neg (fun h=>hl h.1),if_neg hl]
end
theorem kl_st (d:Nat) {l:List Value}:Tryz.prog.keyLits (d+1) 23 l=if l.length=1+1 then (Tryz.prog.keyLits d 3 (l.take 1)).bind (fun a=>(Tryz.prog.keyLits d 3 ((l.drop 1).take 1)).bind fun b=>some (a++b)) else none :=
 kl_two Tryz.underlying23 rfl rfl (by decide) (by decide) cellsIT cellsIT cellsST d
theorem kl_pr (d:Nat) {l:List Value}:Tryz.prog.keyLits (d+1) 25 l=if l.length=2+2 then (Tryz.prog.keyLits d 23 (l.take 2)).bind (fun a=>(Tryz.prog.keyLits d 23 ((l.drop 2).take 2)).bind fun b=>some (a++b)) else none :=
 kl_two Tryz.underlying25 rfl rfl (by decide) (by decide) cellsST cellsST cellsPR d
theorem typesDeep:∃ m,Tryz.prog.types.size+1=m+3:=by
 have h:Tryz.prog.types.size=Tryz.prog.types.size:=rfl
 obtain ⟨k,hk⟩:∃ k,Tryz.prog.types.size=k+2:=⟨Tryz.prog.types.size-2,by have h:2≤Tryz.prog.types.size:=of_decide_eq_true (by kernel_rfl);omega⟩
 exact ⟨k,by rw [hk]⟩
theorem keyOf_eq (v:Value):keyOf Tryz.prog 25 v=if v.formed Tryz.prog 25 then (Tryz.prog.keyLits (Tryz.prog.types.size+1) 25 v.cells.toList).map (fun ls=>.string (keyBytes ls)) else none:=by
 unfold keyOf
 rw [Tryz.underlying25]
 dsimp only
 rw [keyTypePR,Bool.true_and]
theorem keyOf_mk {p:Prg} (h:WfP p):∃ kl,keyOf Tryz.prog 25 (encV p)=some kl:=by
 obtain ⟨h1,h2,h3,h4⟩:=h
 obtain ⟨m,hm⟩:=typesDeep
 have hf:(encV p).formed Tryz.prog 25=true:=by
  unfold Value.formed encV
  rw [Tryz.underlying25]
  dsimp only
  rw [cellsPR]
  rfl
 rw [keyOf_eq,if_pos hf,hm]
 have e:(encV p).cells.toList=[.int .i64 p.af,.int .i64 p.at2,.int .i64 p.bf,.int .i64 p.bt]:=by simp [encV,Value.cells]
 rw [e,kl_pr]
 simp only [List.length_cons,List.length_nil,Nat.reduceAdd,if_true,List.take_succ_cons,List.take_zero,List.drop_succ_cons,List.drop_zero]
 rw [kl_st,kl_st]
 simp only [List.length_cons,List.length_nil,Nat.reduceAdd,if_true,List.take_succ_cons,List.take_zero,List.drop_succ_cons,List.drop_zero]
 rw [kl_int Tryz.underlying3 m h1,kl_int Tryz.underlying3 m h2,kl_int Tryz.underlying3 m h3,kl_int Tryz.underlying3 m h4]
 exact ⟨_,rfl⟩
theorem bind_some_inv {α β:Type} {x:Option α} {f:α→Option β} {b:β} (h:x.bind f=some b):∃ a,x=some a∧f a=some b:=by
 cases x with
 | none=>cases h
 | some a=>exact ⟨a,rfl,h⟩
theorem st_inv {d:Nat} {l:List Value} {ls:List Lit} (h:Tryz.prog.keyLits (d+1+1) 23 l=some ls):∃ x y,l=[.int .i64 x,.int .i64 y]∧Wf x∧Wf y:=by
 rw [kl_st] at h
 split at h
 · rename_i hl
   obtain ⟨a,ha,h⟩:=bind_some_inv h
   obtain ⟨b,hb,-⟩:=bind_some_inv h
   obtain ⟨x,hx,wx⟩:=kl_int_inv Tryz.underlying3 d ha
   obtain ⟨y,hy,wy⟩:=kl_int_inv Tryz.underlying3 d hb
   rcases l with _|⟨v1,_|⟨v2,_|⟨v3,l⟩⟩⟩<;>simp at hl hx hy
   subst hx hy
   exact ⟨x,y,rfl,wx,wy⟩
 · cases h
set_option maxRecDepth 100000 in
theorem keyOf_inv {v:Value} {kl:Lit} (h:keyOf Tryz.prog 25 v=some kl):∃ p,v=encV p∧WfP p:=by
 obtain ⟨m,hm⟩:=typesDeep
 rw [keyOf_eq] at h
 split at h
 · rename_i hf
   rw [hm,kl_pr] at h
   obtain ⟨ls,hls,-⟩:=Option.map_eq_some_iff.1 h
   split at hls
   · rename_i hl
     obtain ⟨a,ha,hls⟩:=bind_some_inv hls
     obtain ⟨b,hb,-⟩:=bind_some_inv hls
     obtain ⟨x,y,h1,w1,w2⟩:=st_inv ha
     obtain ⟨z,t,h2,w3,w4⟩:=st_inv hb
     clear ha hb hls h
     unfold Value.formed at hf
     rw [Tryz.underlying25] at hf
     generalize hvc:v.cells.toList=vc at h1 h2 hl
     cases v<;>simp at hf
     rename_i cs
     obtain ⟨l⟩:=cs
     simp only [Value.cells] at hvc
     subst hvc
     rcases l with _|⟨v1,_|⟨v2,_|⟨v3,_|⟨v4,_|⟨v5,l⟩⟩⟩⟩⟩<;>simp at hl h1 h2
     obtain ⟨rfl,rfl⟩:=h1
     obtain ⟨rfl,rfl⟩:=h2
     exact ⟨⟨x,y,z,t⟩,rfl,w1,w2,w3,w4⟩
   · cases hls
 · cases h
noncomputable def keyP (p:Prg):Lit:=(keyOf Tryz.prog 25 (encV p)).getD (.bool false)
theorem keyP_of {p:Prg} (h:WfP p):keyOf Tryz.prog 25 (encV p)=some (keyP p):=by
 obtain ⟨kl,hk⟩:=keyOf_mk h
 unfold keyP
 rw [hk]
 rfl
theorem keyP_inj {p q:Prg} (hp:WfP p) (hq:WfP q) (h:keyP p=keyP q):p=q:=by
 have h1:=keyP_of hp
 rw [h] at h1
 exact encV_inj (lawPR.inj h1 (keyP_of hq))
theorem keyP_ne {p q:Prg} (hp:WfP p) (hq:WfP q) (h:p≠q):keyP p≠keyP q:=fun e=>h (keyP_inj hp hq e)
set_option maxRecDepth 100000 in
theorem keyP_key {p:Prg} (hp:WfP p):WideAt.IsKeyLit (keyP p):=Maps.Keyed.key lawPR (keyP_of hp)
def SetP (D:DataW Unit) (S:List Prg):Prop:=IsMap D∧(∀ p,WfP p→has D (keyP p)=decide (p∈S))∧∀ p,WfP p→D.atKey (keyP p) (.lit (.bool false))=.lit (.bool (decide (p∈S)))
theorem setP_nil:SetP (.map []) []:=⟨isMap_empty,fun x _=>rfl,fun x _=>rfl⟩
set_option maxRecDepth 100000 in
theorem SetP.put {D:DataW Unit} {S:List Prg} (h:SetP D S) {x:Prg} (hx:WfP x):SetP (D.put (keyP x) (.lit (.bool true))) (S++[x]):=by
 obtain ⟨h1,h2,h3⟩:=h
 refine ⟨h1.put _ _,fun y hy=>?_,fun y hy=>?_⟩
 · by_cases e:y=x
   · subst e;rw [has_put_same h1 (keyP_key hy)];simp
   · rw [has_put_other (keyP_ne hy hx e),h2 y hy];simp [e]
 · by_cases e:y=x
   · subst e;rw [atKey_put_same h1 (keyP_key hy)];simp
   · rw [atKey_put_other (keyP_ne hy hx e),h3 y hy];simp [e]
abbrev OMap (w:World) (b n:Nat) (D:DataW Unit):Prop:=w.ownsMap Tryz.prog 25 (plainElem (H:=Unit) Tryz.prog 4) b n D
def OwnP (w:World) (b:Nat) (S:List Prg):Prop:=∃ n D,OMap w b n D∧n≤S.length∧SetP D S∧∀ p∈S,WfP p
theorem OwnP.lt {w:World} {b:Nat} {S:List Prg} (h:OwnP w b S):b<w.heap.size:=by obtain ⟨_,_,h,_⟩:=h;exact h.lt
theorem OwnP.keep_ {w w':World} {b:Nat} {S:List Prg} (h:OwnP w b S) (hb:w'.heap[b]?=w.heap[b]?):OwnP w' b S:=by
 obtain ⟨n,D,⟨es,clock,hh,F,hs,hD⟩,h2⟩:=h
 exact ⟨n,D,⟨es,clock,hb.trans hh,F,hs,hD⟩,h2⟩
theorem OwnP.keep {w w':World} {b:Nat} {S:List Prg} (h:OwnP w b S) (hb:Below w.heap.size w w'):OwnP w' b S:=h.keep_ (hb.block b h.lt)
theorem OwnP.alloc {w:World} {b:Nat} {S:List Prg} (h:OwnP w b S) (o:Obj):OwnP (w.alloc o) b S:=h.keep_ (Below.heap_alloc w o b h.lt)
theorem OwnP.drew {w:World} {b:Nat} {S:List Prg} (h:OwnP w b S):OwnP w.drew b S:=h.keep_ rfl
theorem OwnP.far {w:World} {b:Nat} {S:List Prg} (h:OwnP w b S) {a:Addr} (ha:b≠a.block) (v:Value):OwnP (w.setCell a v) b S:=h.keep_ (Below.heap_setCell w a v b ha)
theorem OwnP.look {w:World} {b:Nat} {S:List Prg} (h:OwnP w b S) {p:Prg} (hp:WfP p):(Instr.lookup 88 (.map (some b)) (encV p) false).run Tryz.prog w=.ok (.bool (decide (p∈S))) w:=by
 obtain ⟨n,D,hown,_,⟨_,_,h3⟩,_⟩:=h
 obtain ⟨v,ps,hrun,hv⟩:=hown.lookup lawPR Tryz.underlying88 (z:=.bool false) (by kernel_rfl) (zd:=.lit (.bool false)) (zp:=[]) (plainElem_bool Tryz.underlying4 false) (keyP_of hp)
 rw [h3 p hp] at hv
 rw [plain_bool_inv Tryz.underlying4 hv] at hrun
 exact hrun
theorem wpList_lookup_P (w:World) {ops:Array Oper} {rest:List Oper} {o:Oper} {a:Act} {Q:Exit→Act→World→Prop} (hg:o.guard=none) (m x:Operand) (hop:o.op=Op.lookup 88 m x false)
 (b:Nat) (S:List Prg) (hm:a.eval m=.map (some b)) (hown:OwnP w b S) (p:Prg) (hx:a.eval x=encV p) (hp:WfP p) (q:Bool) (hq:decide (p∈S)=q)
 (hK:wpList Tryz.prog ops Q rest (a.put o.dst (.bool q)) w):wpList Tryz.prog ops Q (o::rest) a w:=by
 refine wpList_plain hg fun K' hK'=>?_
 have hrun:=hown.look hp
 rw [hq] at hrun
 unfold Oper.wp
 simp [execOp,hop,hm,hx,hrun,Result.andThen]
 exact hK' _ _ hK
theorem wf_small2 {x:Int} (h1:-1000000000000≤x) (h2:x≤1000000000000):Wf x:=by
 have e1:IntKind.i64.min=-9223372036854775808:=by decide
 have e2:IntKind.i64.max=9223372036854775807:=by decide
 unfold Wf
 simp [Lit.wf,e1,e2]
 omega
end Go.Proofs.YtebkniakflhhkaaGreatDoor
