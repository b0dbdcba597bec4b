import Derived.Test.YtjjmifcjailpaaaGreatUClosed
import Derived.Test.YtjjmifcjailpaaaGreatUEIter
import Derived.Test.YtjjmifcjailpaaaGreatUEWays
set_option linter.unusedSimpArgs false
set_option linter.unusedVariables false
namespace Go.Proofs.YtjjmifcjailpaaaGreat
open Go.Lib (hid)
open Go.RowKit Go.Maps
def encV (p:Prg):Value:=.agg #[.int .i64 p.af,.int .i64 p.at2,.int .i64 p.bf,.int .i64 p.bt]
def WfP (p:Prg):Prop:=Wf p.af∧Wf p.at2∧Wf p.bf∧Wf p.bt
theorem encV_inj {p q:Prg} (h:encV p=encV q):p=q:=by
 obtain ⟨a,b,c,d⟩:=p
 obtain ⟨a',b',c',d'⟩:=q
 simp [encV] at h
 simp [h]
theorem TryzlaidOut:laidOutB Tryz.prog=true:=by kernel_rfl
theorem TryzrowPR:(28:TypeId)<Tryz.prog.types.size:=of_decide_eq_true (by kernel_rfl)
theorem TryzwidePR:(match Tryz.prog.underlying 28 with|some (.array _ _)|some (.struct _)=>true|_=>false)=true:=by kernel_rfl
set_option maxRecDepth 100000 in
theorem lawPR:Maps.Keyed Tryz.prog 28:=Maps.Keyed.of_law (deep_law_laid TryzlaidOut (m:=4) (by omega) TryzrowPR (by kernel_rfl) TryzwidePR)
theorem keyTypePR:Tryz.prog.keyType 28=true:=by kernel_rfl
theorem cellsPR:Tryz.prog.cellsOf 28=4:=by kernel_rfl
theorem cellsST:Tryz.prog.cellsOf 26=2:=by kernel_rfl
theorem cellsIT:Tryz.prog.cellsOf 3=1:=by kernel_rfl
section
variable {P:Program}
theorem kl_int {t:TypeId} (hu:P.underlying t=some (.int .i64)) (d:Nat) {x:Int} (h:Wf x):P.keyLits (d+1) t [.int .i64 x]=some [.int .i64 x]:=by
 unfold Program.keyLits
 rw [hu]
 unfold Wf at h
 simp [h]
theorem kl_int_inv {t:TypeId} (hu:P.underlying t=some (.int .i64)) (d:Nat) {l:List Value} {ls:List Lit} (h:P.keyLits (d+1) t l=some ls):∃ x,l=[.int .i64 x]∧Wf x:=by
 unfold Program.keyLits at h
 rw [hu] at h
 rcases l with _|⟨v,_|⟨v2,l⟩⟩
 · simp at h
 · cases v<;>simp at h
   obtain ⟨⟨rfl,hw⟩,_⟩:=h
   exact ⟨_,rfl,hw⟩
 · simp at h
theorem kl_two {t:TypeId} {f1 f2:Field} (hu:P.underlying t=some (.struct #[f1,f2])) {c1:Nat} (ho1:f1.offset=0) (ho2:f2.offset=c1) (n1:(f1.name != "_")=true) (n2:(f2.name != "_")=true) (k1:P.cellsOf f1.type=c1) (k2:P.cellsOf f2.type=c1) (hc:P.cellsOf t=c1+c1) (d:Nat) {l:List Value} :
 P.keyLits (d+1) t l=if l.length=c1+c1 then (P.keyLits d f1.type (l.take c1)).bind (fun a=>(P.keyLits d f2.type ((l.drop c1).take c1)).bind fun b=>some (a++b)) else none:=by
 conv=>lhs;unfold Program.keyLits
 rw [hu]
 simp only [hc]
 have hall:(#[f1,f2].all fun x=>x.name != "_")=true:=by simp [n1,n2]
 by_cases hl:l.length=c1+c1
 · rw [if_pos ⟨hl,hall⟩,if_pos hl]
   simp only [List.mapM_cons,List.mapM_nil,ho1,ho2,k1,k2,List.drop_zero]
   cases P.keyLits d f1.type (l.take c1) with
   | none=>rfl
   | some a =>
    cases hb:P.keyLits d f2.type ((l.drop c1).take c1) with
    | none=>simp [hb]
    | some b=>simp [hb]
 · rw [if_neg (fun h=>hl h.1),if_neg hl]
end
theorem kl_st (d:Nat) {l:List Value}:Tryz.prog.keyLits (d+1) 26 l=if l.length=1+1 then (Tryz.prog.keyLits d 3 (l.take 1)).bind (fun a=>(Tryz.prog.keyLits d 3 ((l.drop 1).take 1)).bind fun b=>some (a++b)) else none :=
 kl_two Tryz.underlying26 rfl rfl (by decide) (by decide) cellsIT cellsIT cellsST d
theorem kl_pr (d:Nat) {l:List Value}:Tryz.prog.keyLits (d+1) 28 l=if l.length=2+2 then (Tryz.prog.keyLits d 26 (l.take 2)).bind (fun a=>(Tryz.prog.keyLits d 26 ((l.drop 2).take 2)).bind fun b=>some (a++b)) else none :=
 kl_two Tryz.underlying28 rfl rfl (by decide) (by decide) cellsST cellsST cellsPR d
theorem typesDeep:∃ m,Tryz.prog.types.size+1=m+3:=by
 have h:Tryz.prog.types.size=Tryz.prog.types.size:=rfl
 obtain ⟨k,hk⟩:∃ k,Tryz.prog.types.size=k+2:=⟨Tryz.prog.types.size-2,by have h:2≤Tryz.prog.types.size:=of_decide_eq_true (by kernel_rfl);omega⟩
 exact ⟨k,by rw [hk]⟩
theorem keyOf_eq (v:Value):keyOf Tryz.prog 28 v=if v.formed Tryz.prog 28 then (Tryz.prog.keyLits (Tryz.prog.types.size+1) 28 v.cells.toList).map (fun ls=>.string (keyBytes ls)) else none:=by
 unfold keyOf
 rw [Tryz.underlying28]
 dsimp only
 rw [keyTypePR,Bool.true_and]
theorem keyOf_mk {p:Prg} (h:WfP p):∃ kl,keyOf Tryz.prog 28 (encV p)=some kl:=by
 obtain ⟨h1,h2,h3,h4⟩:=h
 obtain ⟨m,hm⟩:=typesDeep
 have hf:(encV p).formed Tryz.prog 28=true:=by
  unfold Value.formed encV
  rw [Tryz.underlying28]
  dsimp only
  rw [cellsPR]
  rfl
 rw [keyOf_eq,if_pos hf,hm]
 have e:(encV p).cells.toList=[.int .i64 p.af,.int .i64 p.at2,.int .i64 p.bf,.int .i64 p.bt]:=by simp [encV,Value.cells]
 rw [e,kl_pr]
 simp only [List.length_cons,List.length_nil,Nat.reduceAdd,if_true,List.take_succ_cons,List.take_zero,List.drop_succ_cons,List.drop_zero]
 rw [kl_st,kl_st]
 simp only [List.length_cons,List.length_nil,Nat.reduceAdd,if_true,List.take_succ_cons,List.take_zero,List.drop_succ_cons,List.drop_zero]
 rw [kl_int Tryz.underlying3 m h1,kl_int Tryz.underlying3 m h2,kl_int Tryz.underlying3 m h3,kl_int Tryz.underlying3 m h4]
 exact ⟨_,rfl⟩
theorem bind_some_inv {α β:Type} {x:Option α} {f:α→Option β} {b:β} (h:x.bind f=some b):∃ a,x=some a∧f a=some b:=by
 cases x with
 | none=>cases h
 | some a=>exact ⟨a,rfl,h⟩
theorem st_inv {d:Nat} {l:List Value} {ls:List Lit} (h:Tryz.prog.keyLits (d+1+1) 26 l=some ls):∃ x y,l=[.int .i64 x,.int .i64 y]∧Wf x∧Wf y:=by
 rw [kl_st] at h
 split at h
 · rename_i hl
   obtain ⟨a,ha,h⟩:=bind_some_inv h
   obtain ⟨b,hb,-⟩:=bind_some_inv h
   obtain ⟨x,hx,wx⟩:=kl_int_inv Tryz.underlying3 d ha
   obtain ⟨y,hy,wy⟩:=kl_int_inv Tryz.underlying3 d hb
   rcases l with _|⟨v1,_|⟨v2,_|⟨v3,l⟩⟩⟩<;>simp at hl hx hy
   subst hx hy
   exact ⟨x,y,rfl,wx,wy⟩
 · cases h
set_option maxRecDepth 100000 in
theorem keyOf_inv {v:Value} {kl:Lit} (h:keyOf Tryz.prog 28 v=some kl):∃ p,v=encV p∧WfP p:=by
 obtain ⟨m,hm⟩:=typesDeep
 rw [keyOf_eq] at h
 split at h
 · rename_i hf
   rw [hm,kl_pr] at h
   obtain ⟨ls,hls,-⟩:=Option.map_eq_some_iff.1 h
   split at hls
   · rename_i hl
     obtain ⟨a,ha,hls⟩:=bind_some_inv hls
     obtain ⟨b,hb,-⟩:=bind_some_inv hls
     obtain ⟨x,y,h1,w1,w2⟩:=st_inv ha
     obtain ⟨z,t,h2,w3,w4⟩:=st_inv hb
     clear ha hb hls h
     unfold Value.formed at hf
     rw [Tryz.underlying28] at hf
     generalize hvc:v.cells.toList=vc at h1 h2 hl
     cases v<;>simp at hf
     rename_i cs
     obtain ⟨l⟩:=cs
     simp only [Value.cells] at hvc
     subst hvc
     rcases l with _|⟨v1,_|⟨v2,_|⟨v3,_|⟨v4,_|⟨v5,l⟩⟩⟩⟩⟩<;>simp at hl h1 h2
     obtain ⟨rfl,rfl⟩:=h1
     obtain ⟨rfl,rfl⟩:=h2
     exact ⟨⟨x,y,z,t⟩,rfl,w1,w2,w3,w4⟩
   · cases hls
 · cases h
noncomputable def keyP (p:Prg):Lit:=(keyOf Tryz.prog 28 (encV p)).getD (.bool false)
theorem keyP_of {p:Prg} (h:WfP p):keyOf Tryz.prog 28 (encV p)=some (keyP p):=by
 obtain ⟨kl,hk⟩:=keyOf_mk h
 unfold keyP
 rw [hk]
 rfl
theorem keyP_inj {p q:Prg} (hp:WfP p) (hq:WfP q) (h:keyP p=keyP q):p=q:=by
 have h1:=keyP_of hp
 rw [h] at h1
 exact encV_inj (lawPR.inj h1 (keyP_of hq))
theorem keyP_ne {p q:Prg} (hp:WfP p) (hq:WfP q) (h:p≠q):keyP p≠keyP q:=fun e=>h (keyP_inj hp hq e)
set_option maxRecDepth 100000 in
theorem keyP_key {p:Prg} (hp:WfP p):WideAt.IsKeyLit (keyP p):=Maps.Keyed.key lawPR (keyP_of hp)
def SetP (D:DataW Unit) (S:List Prg):Prop:=IsMap D∧(∀ p,WfP p→has D (keyP p)=decide (p∈S))∧∀ p,WfP p→D.atKey (keyP p) (.lit (.bool false))=.lit (.bool (decide (p∈S)))
theorem setP_nil:SetP (.map []) []:=⟨isMap_empty,fun x _=>rfl,fun x _=>rfl⟩
set_option maxRecDepth 100000 in
theorem SetP.put {D:DataW Unit} {S:List Prg} (h:SetP D S) {x:Prg} (hx:WfP x):SetP (D.put (keyP x) (.lit (.bool true))) (S++[x]):=by
 obtain ⟨h1,h2,h3⟩:=h
 refine ⟨h1.put _ _,fun y hy=>?_,fun y hy=>?_⟩
 · by_cases e:y=x
   · subst e;rw [has_put_same h1 (keyP_key hy)];simp
   · rw [has_put_other (keyP_ne hy hx e),h2 y hy];simp [e]
 · by_cases e:y=x
   · subst e;rw [atKey_put_same h1 (keyP_key hy)];simp
   · rw [atKey_put_other (keyP_ne hy hx e),h3 y hy];simp [e]
abbrev OMap (w:World) (b n:Nat) (D:DataW Unit):Prop:=w.ownsMap Tryz.prog 28 (plainElem (H:=Unit) Tryz.prog 4) b n D
def OwnP (w:World) (b:Nat) (S:List Prg):Prop:=∃ n D,OMap w b n D∧n≤S.length∧SetP D S∧∀ p∈S,WfP p
theorem OwnP.lt {w:World} {b:Nat} {S:List Prg} (h:OwnP w b S):b<w.heap.size:=by obtain ⟨_,_,h,_⟩:=h;exact h.lt
theorem OwnP.keep_ {w w':World} {b:Nat} {S:List Prg} (h:OwnP w b S) (hb:w'.heap[b]?=w.heap[b]?):OwnP w' b S:=by
 obtain ⟨n,D,⟨es,clock,hh,F,hs,hD⟩,h2⟩:=h
 exact ⟨n,D,⟨es,clock,hb.trans hh,F,hs,hD⟩,h2⟩
theorem OwnP.keep {w w':World} {b:Nat} {S:List Prg} (h:OwnP w b S) (hb:Below w.heap.size w w'):OwnP w' b S:=h.keep_ (hb.block b h.lt)
theorem OwnP.alloc {w:World} {b:Nat} {S:List Prg} (h:OwnP w b S) (o:Obj):OwnP (w.alloc o) b S:=h.keep_ (Below.heap_alloc w o b h.lt)
theorem OwnP.drew {w:World} {b:Nat} {S:List Prg} (h:OwnP w b S):OwnP w.drew b S:=h.keep_ rfl
theorem OwnP.far {w:World} {b:Nat} {S:List Prg} (h:OwnP w b S) {a:Addr} (ha:b≠a.block) (v:Value):OwnP (w.setCell a v) b S:=h.keep_ (Below.heap_setCell w a v b ha)
theorem OwnP.look {w:World} {b:Nat} {S:List Prg} (h:OwnP w b S) {p:Prg} (hp:WfP p):(Instr.lookup 106 (.map (some b)) (encV p) false).run Tryz.prog w=.ok (.bool (decide (p∈S))) w:=by
 obtain ⟨n,D,hown,_,⟨_,_,h3⟩,_⟩:=h
 obtain ⟨v,ps,hrun,hv⟩:=hown.lookup lawPR Tryz.underlying106 (z:=.bool false) (by kernel_rfl) (zd:=.lit (.bool false)) (zp:=[]) (plainElem_bool Tryz.underlying4 false) (keyP_of hp)
 rw [h3 p hp] at hv
 rw [plain_bool_inv Tryz.underlying4 hv] at hrun
 exact hrun
theorem wpList_lookup_P (w:World) {ops:Array Oper} {rest:List Oper} {o:Oper} {a:Act} {Q:Exit→Act→World→Prop} (hg:o.guard=none) (m x:Operand) (hop:o.op=Op.lookup 106 m x false)
 (b:Nat) (S:List Prg) (hm:a.eval m=.map (some b)) (hown:OwnP w b S) (p:Prg) (hx:a.eval x=encV p) (hp:WfP p) (q:Bool) (hq:decide (p∈S)=q)
 (hK:wpList Tryz.prog ops Q rest (a.put o.dst (.bool q)) w):wpList Tryz.prog ops Q (o::rest) a w:=by
 refine wpList_plain hg fun K' hK'=>?_
 have hrun:=hown.look hp
 rw [hq] at hrun
 unfold Oper.wp
 simp [execOp,hop,hm,hx,hrun,Result.andThen]
 exact hK' _ _ hK
theorem wf_small2 {x:Int} (h1:-1000000000000≤x) (h2:x≤1000000000000):Wf x:=by
 have e1:IntKind.i64.min=-9223372036854775808:=by decide
 have e2:IntKind.i64.max=9223372036854775807:=by decide
 unfold Wf
 simp [Lit.wf,e1,e2]
 omega
def grownV (S:List Prg) (p:Prg):Prg:=if befP p∈S then befP p else if behP p∈S then behP p else p
set_option maxRecDepth 100000 in
set_option maxHeartbeats 4000000 in
theorem grown_any (p1 p2 p3 p4:Int) (hp:(0≤p1∧p1≤16)∧(0≤p2∧p2≤16)∧(0≤p3∧p3≤16)∧(0≤p4∧p4≤16)) (b:Nat) (S:List Prg) (w:World) (hown:OwnP w b S) :
 Calls Tryz.prog 65 #[.agg #[.int .i64 p1,.int .i64 p2,.int .i64 p3,.int .i64 p4],.map (some b)] w fun e w'=>e=.returned (encV (grownV S ⟨p1,p2,p3,p4⟩))∧Below w.heap.size w w':=by
 have hbl:=hown.lt
 obtain ⟨⟨l1,u1⟩,⟨l2,u2⟩,⟨l3,u3⟩,⟨l4,u4⟩⟩:=hp
 have HW1:=hid (show WfP (befP ⟨p1,p2,p3,p4⟩) from ⟨wf_small2 (by simp only [befP];omega) (by simp only [befP];omega),wf_small2 (by simp only [befP];omega) (by simp only [befP];omega),wf_small2 (by simp only [befP];omega) (by simp only [befP];omega),wf_small2 (by simp only [befP];omega) (by simp only [befP];omega)⟩)
 have HW2:=hid (show WfP (behP ⟨p1,p2,p3,p4⟩) from ⟨wf_small2 (by simp only [behP];omega) (by simp only [behP];omega),wf_small2 (by simp only [behP];omega) (by simp only [behP];omega),wf_small2 (by simp only [behP];omega) (by simp only [behP];omega),wf_small2 (by simp only [behP];omega) (by simp only [behP];omega)⟩)
 obtain ⟨q1,hq1⟩:∃ q,decide (befP ⟨p1,p2,p3,p4⟩∈S)=q:=⟨_,rfl⟩
 obtain ⟨q2,hq2⟩:∃ q,decide (behP ⟨p1,p2,p3,p4⟩∈S)=q:=⟨_,rfl⟩
 have HA:=hid (fun (h:q1=true)=>show grownV S ⟨p1,p2,p3,p4⟩=befP ⟨p1,p2,p3,p4⟩ from if_pos (by rw [h] at hq1;simpa using hq1))
 have HBB:=hid (fun (h:q1=false) (h':q2=true)=>show grownV S ⟨p1,p2,p3,p4⟩=behP ⟨p1,p2,p3,p4⟩ by unfold grownV;rw [if_neg (by rw [h] at hq1;simpa using hq1),if_pos (by rw [h'] at hq2;simpa using hq2)])
 have HC:=hid (fun (h:q1=false) (h':q2=false)=>show grownV S ⟨p1,p2,p3,p4⟩=⟨p1,p2,p3,p4⟩ by unfold grownV;rw [if_neg (by rw [h] at hq1;simpa using hq1),if_neg (by rw [h'] at hq2;simpa using hq2)])
 have HQ1:=hid hq1;have HQ2:=hid hq2;clear hq1 hq2
 generalize grownV S ⟨p1,p2,p3,p4⟩=G at *
 have wr1:IntKind.i64.wrap (p1-1)=p1-1:=IntWalk.i64_in _ (by omega)
 have wr2:IntKind.i64.wrap (p2+1)=p2+1:=IntWalk.i64_in _ (by omega)
 have wr3:IntKind.i64.wrap (p3-1)=p3-1:=IntWalk.i64_in _ (by omega)
 have wr4:IntKind.i64.wrap (p4+1)=p4+1:=IntWalk.i64_in _ (by omega)
 go_enter Tryz.func65,Tryz.ntmps65
 obtain ⟨a4,a7,a5⟩:=ent2 w #[.int .i64 p1,.int .i64 p2,.int .i64 p3,.int .i64 p4] 28 #[.int .i64 0,.int .i64 0,.int .i64 0,.int .i64 0] 28
 have a8:=hid (OwnP.keep (hown) a5.out)
 clear hown
 obtain ⟨o5,o6,o7,o8⟩:=at4 a4
 obtain ⟨o9,k6,k7,k8⟩:=at4 a7
 go_wp2_with fail
 clear o5 o6 o7 o8 o9 k6 k7 k8
 replace a5:=bD a5
 replace a8:=hid (OwnP.drew (a8.out))
 replace a4:=kD a4
 replace a7:=kD a7
 refine wp_region_held_drew (S:=(fun W'=>Blk W' (w.heap.size) 28 #[.int .i64 p1,.int .i64 p2,.int .i64 p3,.int .i64 p4])) (by kernel_rfl) a4.out (fun _=>?_)
 obtain ⟨h1,h3⟩:∃ w',w'=(((w.alloc (.cells #[.int .i64 p1,.int .i64 p2,.int .i64 p3,.int .i64 p4] 28)).alloc (.cells #[.int .i64 0,.int .i64 0,.int .i64 0,.int .i64 0] 28)).drew):=⟨_,rfl⟩
 rw [← h3] at a5 a8 a4 a7
 rw [← h3]
 clear h3
 refine' tkH 0 a4.out ?j2 ?_
 case j2=>(rintro W' hS0;have hc0:=Blk.nth hS0 0;have hc1:=Blk.nth hS0 1;have hc2:=Blk.nth hS0 2;have hc3:=Blk.nth hS0 3;clear hS0;go_simp;try with_reducible rfl)
 refine' tkH 1 a4.out ?j3 ?_
 case j3=>(rintro W' hS0;have hc0:=Blk.nth hS0 0;have hc1:=Blk.nth hS0 1;have hc2:=Blk.nth hS0 2;have hc3:=Blk.nth hS0 3;clear hS0;go_simp;try with_reducible rfl)
 try simp only [pq]
 refine wpAnyH_ready (rs:=[2,3]) (by kernel_rfl) (by simp) ?_
 refine rdH rfl (fun K hK=>?_) ?_
 · -- 2: alloc
  go_simp
  have f3:=hid (a5.out.size)
  have e5:=hid (Nat.ne_of_lt (OwnP.lt a8.out))
  have f4:=hid (Nat.ne_of_lt (Blk.lt a4.out))
  have f5:=hid (Nat.ne_of_lt (Blk.lt a7.out))
  obtain ⟨o_,ho_⟩:∃ o,o=(.cells #[.int .i64 0,.int .i64 0,.int .i64 0,.int .i64 0] 28:Obj):=⟨_,rfl⟩
  replace a5:=bA a5 o_
  replace a8:=hid (OwnP.alloc (a8.out) (o_))
  replace a4:=kA a4 o_
  replace a7:=kA a7 o_
  subst ho_
  have a6:=hid (Blk.new (h1) 28 #[.int .i64 0,.int .i64 0,.int .i64 0,.int .i64 0])
  obtain ⟨a0,h4⟩:∃ g,g=(h1).heap.size:=⟨_,rfl⟩
  obtain ⟨i8,h5⟩:∃ w',w'=(h1).alloc (.cells #[.int .i64 0,.int .i64 0,.int .i64 0,.int .i64 0] 28):=⟨_,rfl⟩
  rw [← h5] at a5 a8 a4 a7 a6
  rw [← h4] at f3 e5 f4 f5 a6
  rw [← h4,← h5]
  clear h4 h5
  refine hK.out _ _ a4.out (fun _=>?_);clear hK K
  try simp only [pq]
  refine oneH 3 rfl fun K hK=>?_
  go_simp
  have f6:=hid (a5.out.size)
  have e6:=hid (Nat.ne_of_lt (OwnP.lt a8.out))
  have f7:=hid (Nat.ne_of_lt (Blk.lt a4.out))
  have f8:=hid (Nat.ne_of_lt (Blk.lt a7.out))
  have b0:=hid (Nat.ne_of_lt (Blk.lt a6.out))
  obtain ⟨o_,ho_⟩:∃ o,o=(.cells #[.int .i64 0,.int .i64 0,.int .i64 0,.int .i64 0] 28:Obj):=⟨_,rfl⟩
  replace a5:=bA a5 o_
  replace a8:=hid (OwnP.alloc (a8.out) (o_))
  replace a4:=kA a4 o_
  replace a7:=kA a7 o_
  replace a6:=kA a6 o_
  subst ho_
  have h2:=hid (Blk.new (i8) 28 #[.int .i64 0,.int .i64 0,.int .i64 0,.int .i64 0])
  obtain ⟨a1,h6⟩:∃ g,g=(i8).heap.size:=⟨_,rfl⟩
  obtain ⟨e7,h7⟩:∃ w',w'=(i8).alloc (.cells #[.int .i64 0,.int .i64 0,.int .i64 0,.int .i64 0] 28):=⟨_,rfl⟩
  rw [← h7] at a5 a8 a4 a7 a6 h2
  rw [← h6] at f6 e6 f7 f8 b0 h2
  rw [← h6,← h7]
  clear h6 h7
  refine hK.out _ _ a4.out (fun _=>?_);clear hK K
  try simp only [pq]
  refine oneH 4 rfl fun K hK=>?_
  have k9:(e7).cell? ⟨a0,0,none⟩=some (.int .i64 0):=Blk.cell (a6.out) 0
  have l0:(e7).frozen? ⟨a0,0,none⟩=false:=Blk.frozen (a6.out) 0
  have l5:(e7).cell? ⟨a0,1,none⟩=some (.int .i64 0):=Blk.cell (a6.out) 1
  have l6:(e7).frozen? ⟨a0,1,none⟩=false:=Blk.frozen (a6.out) 1
  have l7:(e7).cell? ⟨a0,2,none⟩=some (.int .i64 0):=Blk.cell (a6.out) 2
  have l8:(e7).frozen? ⟨a0,2,none⟩=false:=Blk.frozen (a6.out) 2
  have l9:(e7).cell? ⟨a0,3,none⟩=some (.int .i64 0):=Blk.cell (a6.out) 3
  have m0:(e7).frozen? ⟨a0,3,none⟩=false:=Blk.frozen (a6.out) 3
  have hlt_:=Blk.lt (a6.out)
  go_simp
  have j4:=hid (Below.setCell (Below.setCell (Below.setCell (Below.setCell (a5.out) (p:=⟨a0,0,none⟩) (f3.out) (.int .i64 p1)) (p:=⟨a0,1,none⟩) (f3.out) (.int .i64 p2)) (p:=⟨a0,2,none⟩) (f3.out) (.int .i64 p3)) (p:=⟨a0,3,none⟩) (f3.out) (.int .i64 p4))
  have j5:=hid (OwnP.far (OwnP.far (OwnP.far (OwnP.far (a8.out) (a:=⟨a0,0,none⟩) (e5.out) (.int .i64 p1)) (a:=⟨a0,1,none⟩) (e5.out) (.int .i64 p2)) (a:=⟨a0,2,none⟩) (e5.out) (.int .i64 p3)) (a:=⟨a0,3,none⟩) (e5.out) (.int .i64 p4))
  have i9:=hid (Blk.far (Blk.far (Blk.far (Blk.far (a4.out) (p:=⟨a0,0,none⟩) (f4.out) (.int .i64 p1)) (p:=⟨a0,1,none⟩) (f4.out) (.int .i64 p2)) (p:=⟨a0,2,none⟩) (f4.out) (.int .i64 p3)) (p:=⟨a0,3,none⟩) (f4.out) (.int .i64 p4))
  have j6:=hid (Blk.far (Blk.far (Blk.far (Blk.far (a7.out) (p:=⟨a0,0,none⟩) (f5.out) (.int .i64 p1)) (p:=⟨a0,1,none⟩) (f5.out) (.int .i64 p2)) (p:=⟨a0,2,none⟩) (f5.out) (.int .i64 p3)) (p:=⟨a0,3,none⟩) (f5.out) (.int .i64 p4))
  have j7:=hid (Blk.set_ (Blk.set_ (Blk.set_ (Blk.set_ (a6.out) 0 (.int .i64 p1)) 1 (.int .i64 p2)) 2 (.int .i64 p3)) 3 (.int .i64 p4))
  have c6:=hid (Blk.far (Blk.far (Blk.far (Blk.far (h2.out) (p:=⟨a0,0,none⟩) ((Ne.symm b0.out)) (.int .i64 p1)) (p:=⟨a0,1,none⟩) ((Ne.symm b0.out)) (.int .i64 p2)) (p:=⟨a0,2,none⟩) ((Ne.symm b0.out)) (.int .i64 p3)) (p:=⟨a0,3,none⟩) ((Ne.symm b0.out)) (.int .i64 p4))
  obtain ⟨e8,h8⟩:∃ w',w'=(((((e7).setCell ⟨a0,0,none⟩ (.int .i64 p1)).setCell ⟨a0,1,none⟩ (.int .i64 p2)).setCell ⟨a0,2,none⟩ (.int .i64 p3)).setCell ⟨a0,3,none⟩ (.int .i64 p4)):=⟨_,rfl⟩
  rw [← h8] at j4 j5 i9 j6 j7 c6
  rw [← h8]
  clear h8 k9 l0 l5 l6 l7 l8 l9 m0 hlt_
  refine hK.out _ _ i9.out (fun _=>?_);clear hK K
  try simp only [pq]
  refine oneH 5 rfl fun K hK=>?_
  have m1:(e8).cell? ⟨a1,0,none⟩=some (.int .i64 0):=Blk.cell (c6.out) 0
  have m2:(e8).frozen? ⟨a1,0,none⟩=false:=Blk.frozen (c6.out) 0
  have m3:(e8).cell? ⟨a1,1,none⟩=some (.int .i64 0):=Blk.cell (c6.out) 1
  have m4:(e8).frozen? ⟨a1,1,none⟩=false:=Blk.frozen (c6.out) 1
  have m5:(e8).cell? ⟨a1,2,none⟩=some (.int .i64 0):=Blk.cell (c6.out) 2
  have m6:(e8).frozen? ⟨a1,2,none⟩=false:=Blk.frozen (c6.out) 2
  have m7:(e8).cell? ⟨a1,3,none⟩=some (.int .i64 0):=Blk.cell (c6.out) 3
  have m8:(e8).frozen? ⟨a1,3,none⟩=false:=Blk.frozen (c6.out) 3
  have hlt_:=Blk.lt (c6.out)
  go_simp
  have j8:=hid (Below.setCell (Below.setCell (Below.setCell (Below.setCell (j4.out) (p:=⟨a1,0,none⟩) (f6.out) (.int .i64 p1)) (p:=⟨a1,1,none⟩) (f6.out) (.int .i64 p2)) (p:=⟨a1,2,none⟩) (f6.out) (.int .i64 p3)) (p:=⟨a1,3,none⟩) (f6.out) (.int .i64 p4))
  have j9:=hid (OwnP.far (OwnP.far (OwnP.far (OwnP.far (j5.out) (a:=⟨a1,0,none⟩) (e6.out) (.int .i64 p1)) (a:=⟨a1,1,none⟩) (e6.out) (.int .i64 p2)) (a:=⟨a1,2,none⟩) (e6.out) (.int .i64 p3)) (a:=⟨a1,3,none⟩) (e6.out) (.int .i64 p4))
  have h9:=hid (Blk.far (Blk.far (Blk.far (Blk.far (i9.out) (p:=⟨a1,0,none⟩) (f7.out) (.int .i64 p1)) (p:=⟨a1,1,none⟩) (f7.out) (.int .i64 p2)) (p:=⟨a1,2,none⟩) (f7.out) (.int .i64 p3)) (p:=⟨a1,3,none⟩) (f7.out) (.int .i64 p4))
  have g5:=hid (Blk.far (Blk.far (Blk.far (Blk.far (j6.out) (p:=⟨a1,0,none⟩) (f8.out) (.int .i64 p1)) (p:=⟨a1,1,none⟩) (f8.out) (.int .i64 p2)) (p:=⟨a1,2,none⟩) (f8.out) (.int .i64 p3)) (p:=⟨a1,3,none⟩) (f8.out) (.int .i64 p4))
  have g6:=hid (Blk.far (Blk.far (Blk.far (Blk.far (j7.out) (p:=⟨a1,0,none⟩) (b0.out) (.int .i64 p1)) (p:=⟨a1,1,none⟩) (b0.out) (.int .i64 p2)) (p:=⟨a1,2,none⟩) (b0.out) (.int .i64 p3)) (p:=⟨a1,3,none⟩) (b0.out) (.int .i64 p4))
  have g7:=hid (Blk.set_ (Blk.set_ (Blk.set_ (Blk.set_ (c6.out) 0 (.int .i64 p1)) 1 (.int .i64 p2)) 2 (.int .i64 p3)) 3 (.int .i64 p4))
  obtain ⟨c4,i0⟩:∃ w',w'=(((((e8).setCell ⟨a1,0,none⟩ (.int .i64 p1)).setCell ⟨a1,1,none⟩ (.int .i64 p2)).setCell ⟨a1,2,none⟩ (.int .i64 p3)).setCell ⟨a1,3,none⟩ (.int .i64 p4)):=⟨_,rfl⟩
  rw [← i0] at j8 j9 h9 g5 g6 g7
  rw [← i0]
  clear i0 m1 m2 m3 m4 m5 m6 m7 m8 hlt_
  refine hK.out _ _ h9.out (fun _=>?_);clear hK K
  try simp only [pq]
  refine wpAnyH_done (by kernel_rfl) ?_ _
  have lt5:=Blk.lt g6.out;have lt6:=Blk.lt g7.out;have ltz:=Blk.lt g5.out;have ltp:=Blk.lt h9.out
  have hne1:=b0.out;have hne2:=Ne.symm b0.out
  have hl5:w.heap.size≤a0:=f3.out;have hl6:w.heap.size≤a1:=f6.out
  have hnp5:w.heap.size≠a0:=f4.out;have hnp6:w.heap.size≠a1:=f7.out
  have hnz5:w.heap.size+1≠a0:=f5.out;have hnz6:w.heap.size+1≠a1:=f8.out
  have OW:=hid (OwnP.far (OwnP.far (OwnP.far (OwnP.far (j9.out) (a:=⟨a0,0,none⟩) e5.out (.int .i64 (p1-1))) (a:=⟨a0,3,none⟩) e5.out (.int .i64 (p4+1))) (a:=⟨a1,1,none⟩) e6.out (.int .i64 (p2+1))) (a:=⟨a1,2,none⟩) e6.out (.int .i64 (p3-1)))
  have HBL:=hid (j8.out)
  obtain ⟨c7,c8,c9,d0⟩:=at4 h9
  obtain ⟨d1,d2,d3,d4⟩:=at4 g5
  obtain ⟨d5,d6,d7,d8⟩:=at4 g6
  obtain ⟨d9,e0,e1,e2⟩:=at4 g7
  have b2:(c4).frozen? ⟨a0,0,none⟩=false:=Blk.frozen g6.out 0
  have b3:(c4).frozen? ⟨a0,1,none⟩=false:=Blk.frozen g6.out 1
  have b4:(c4).frozen? ⟨a0,2,none⟩=false:=Blk.frozen g6.out 2
  have b5:(c4).frozen? ⟨a0,3,none⟩=false:=Blk.frozen g6.out 3
  have b6:(c4).frozen? ⟨a1,0,none⟩=false:=Blk.frozen g7.out 0
  have b7:(c4).frozen? ⟨a1,1,none⟩=false:=Blk.frozen g7.out 1
  have b8:(c4).frozen? ⟨a1,2,none⟩=false:=Blk.frozen g7.out 2
  have b9:(c4).frozen? ⟨a1,3,none⟩=false:=Blk.frozen g7.out 3
  have c0:(c4).frozen? ⟨w.heap.size+1,0,none⟩=false:=Blk.frozen g5.out 0
  have c1:(c4).frozen? ⟨w.heap.size+1,1,none⟩=false:=Blk.frozen g5.out 1
  have c2:(c4).frozen? ⟨w.heap.size+1,2,none⟩=false:=Blk.frozen g5.out 2
  have c3:(c4).frozen? ⟨w.heap.size+1,3,none⟩=false:=Blk.frozen g5.out 3
  go_wp2_with (at_lookup;first|refine wpList_lookup_P _ rfl _ _ rfl b S rfl OW.out (befP ⟨p1,p2,p3,p4⟩) rfl HW1.out q1 HQ1.out ?_|refine wpList_lookup_P _ rfl _ _ rfl b S rfl OW.out (behP ⟨p1,p2,p3,p4⟩) rfl HW2.out q2 HQ2.out ?_)
  · refine bodyPost_ret (v:=.agg #[.int .i64 (p1-1),.int .i64 p2,.int .i64 p3,.int .i64 (p4+1)]) (by simp [results,Tryz.results65,go_sem,c7,c8,c9,d0,d1,d2,d3,d4,d5,d6,d7,d8,d9,e0,e1,e2,b2,b3,b4,b5,b6,b7,b8,b9,c0,c1,c2,c3]) rfl ⟨by rw [HA.out (by assumption)];rfl,(by have hsz_:=Below.size HBL.out;repeat' (first|with_reducible exact HBL.out|with_reducible exact Below.refl _ _|with_reducible refine Below.alloc ?_ ?_ _|with_reducible refine Below.setCell ?_ ?_ _|with_reducible refine Below.drew ?_|with_reducible refine below_setRow ?_ ?_ _|omega | (simp;done) | (simp;omega)))⟩
  · refine bodyPost_ret (v:=.agg #[.int .i64 p1,.int .i64 (p2+1),.int .i64 (p3-1),.int .i64 p4]) (by simp [results,Tryz.results65,go_sem,c7,c8,c9,d0,d1,d2,d3,d4,d5,d6,d7,d8,d9,e0,e1,e2,b2,b3,b4,b5,b6,b7,b8,b9,c0,c1,c2,c3]) rfl ⟨by rw [HBB.out (by assumption) (by assumption)];rfl,(by have hsz_:=Below.size HBL.out;repeat' (first|with_reducible exact HBL.out|with_reducible exact Below.refl _ _|with_reducible refine Below.alloc ?_ ?_ _|with_reducible refine Below.setCell ?_ ?_ _|with_reducible refine Below.drew ?_|with_reducible refine below_setRow ?_ ?_ _|omega | (simp;done) | (simp;omega)))⟩
  · refine bodyPost_ret (v:=.agg #[.int .i64 p1,.int .i64 p2,.int .i64 p3,.int .i64 p4]) (by simp [results,Tryz.results65,go_sem,c7,c8,c9,d0,d1,d2,d3,d4,d5,d6,d7,d8,d9,e0,e1,e2,b2,b3,b4,b5,b6,b7,b8,b9,c0,c1,c2,c3]) rfl ⟨by rw [HC.out (by assumption) (by assumption)];rfl,(by have hsz_:=Below.size HBL.out;repeat' (first|with_reducible exact HBL.out|with_reducible exact Below.refl _ _|with_reducible refine Below.alloc ?_ ?_ _|with_reducible refine Below.setCell ?_ ?_ _|with_reducible refine Below.drew ?_|with_reducible refine below_setRow ?_ ?_ _|omega | (simp;done) | (simp;omega)))⟩
 refine rdH rfl (fun K hK=>?_) ?_
 · -- 3: alloc
  go_simp
  have f9:=hid (a5.out.size)
  have e9:=hid (Nat.ne_of_lt (OwnP.lt a8.out))
  have g0:=hid (Nat.ne_of_lt (Blk.lt a4.out))
  have g1:=hid (Nat.ne_of_lt (Blk.lt a7.out))
  obtain ⟨o_,ho_⟩:∃ o,o=(.cells #[.int .i64 0,.int .i64 0,.int .i64 0,.int .i64 0] 28:Obj):=⟨_,rfl⟩
  replace a5:=bA a5 o_
  replace a8:=hid (OwnP.alloc (a8.out) (o_))
  replace a4:=kA a4 o_
  replace a7:=kA a7 o_
  subst ho_
  have e3:=hid (Blk.new (h1) 28 #[.int .i64 0,.int .i64 0,.int .i64 0,.int .i64 0])
  obtain ⟨a2,i1⟩:∃ g,g=(h1).heap.size:=⟨_,rfl⟩
  obtain ⟨j0,i2⟩:∃ w',w'=(h1).alloc (.cells #[.int .i64 0,.int .i64 0,.int .i64 0,.int .i64 0] 28):=⟨_,rfl⟩
  rw [← i2] at a5 a8 a4 a7 e3
  rw [← i1] at f9 e9 g0 g1 e3
  rw [← i1,← i2]
  clear i1 i2
  refine hK.out _ _ a4.out (fun _=>?_);clear hK K
  try simp only [pq]
  refine oneH 2 rfl fun K hK=>?_
  go_simp
  have g2:=hid (a5.out.size)
  have f0:=hid (Nat.ne_of_lt (OwnP.lt a8.out))
  have g3:=hid (Nat.ne_of_lt (Blk.lt a4.out))
  have g4:=hid (Nat.ne_of_lt (Blk.lt a7.out))
  have b1:=hid (Nat.ne_of_lt (Blk.lt e3.out))
  obtain ⟨o_,ho_⟩:∃ o,o=(.cells #[.int .i64 0,.int .i64 0,.int .i64 0,.int .i64 0] 28:Obj):=⟨_,rfl⟩
  replace a5:=bA a5 o_
  replace a8:=hid (OwnP.alloc (a8.out) (o_))
  replace a4:=kA a4 o_
  replace a7:=kA a7 o_
  replace e3:=kA e3 o_
  subst ho_
  have a9:=hid (Blk.new (j0) 28 #[.int .i64 0,.int .i64 0,.int .i64 0,.int .i64 0])
  obtain ⟨a3,i3⟩:∃ g,g=(j0).heap.size:=⟨_,rfl⟩
  obtain ⟨f1,i4⟩:∃ w',w'=(j0).alloc (.cells #[.int .i64 0,.int .i64 0,.int .i64 0,.int .i64 0] 28):=⟨_,rfl⟩
  rw [← i4] at a5 a8 a4 a7 e3 a9
  rw [← i3] at g2 f0 g3 g4 b1 a9
  rw [← i3,← i4]
  clear i3 i4
  refine hK.out _ _ a4.out (fun _=>?_);clear hK K
  try simp only [pq]
  refine oneH 4 rfl fun K hK=>?_
  have m9:(f1).cell? ⟨a3,0,none⟩=some (.int .i64 0):=Blk.cell (a9.out) 0
  have n0:(f1).frozen? ⟨a3,0,none⟩=false:=Blk.frozen (a9.out) 0
  have n1:(f1).cell? ⟨a3,1,none⟩=some (.int .i64 0):=Blk.cell (a9.out) 1
  have n2:(f1).frozen? ⟨a3,1,none⟩=false:=Blk.frozen (a9.out) 1
  have n3:(f1).cell? ⟨a3,2,none⟩=some (.int .i64 0):=Blk.cell (a9.out) 2
  have n4:(f1).frozen? ⟨a3,2,none⟩=false:=Blk.frozen (a9.out) 2
  have n5:(f1).cell? ⟨a3,3,none⟩=some (.int .i64 0):=Blk.cell (a9.out) 3
  have n6:(f1).frozen? ⟨a3,3,none⟩=false:=Blk.frozen (a9.out) 3
  have hlt_:=Blk.lt (a9.out)
  go_simp
  have k0:=hid (Below.setCell (Below.setCell (Below.setCell (Below.setCell (a5.out) (p:=⟨a3,0,none⟩) (g2.out) (.int .i64 p1)) (p:=⟨a3,1,none⟩) (g2.out) (.int .i64 p2)) (p:=⟨a3,2,none⟩) (g2.out) (.int .i64 p3)) (p:=⟨a3,3,none⟩) (g2.out) (.int .i64 p4))
  have k1:=hid (OwnP.far (OwnP.far (OwnP.far (OwnP.far (a8.out) (a:=⟨a3,0,none⟩) (f0.out) (.int .i64 p1)) (a:=⟨a3,1,none⟩) (f0.out) (.int .i64 p2)) (a:=⟨a3,2,none⟩) (f0.out) (.int .i64 p3)) (a:=⟨a3,3,none⟩) (f0.out) (.int .i64 p4))
  have j1:=hid (Blk.far (Blk.far (Blk.far (Blk.far (a4.out) (p:=⟨a3,0,none⟩) (g3.out) (.int .i64 p1)) (p:=⟨a3,1,none⟩) (g3.out) (.int .i64 p2)) (p:=⟨a3,2,none⟩) (g3.out) (.int .i64 p3)) (p:=⟨a3,3,none⟩) (g3.out) (.int .i64 p4))
  have k2:=hid (Blk.far (Blk.far (Blk.far (Blk.far (a7.out) (p:=⟨a3,0,none⟩) (g4.out) (.int .i64 p1)) (p:=⟨a3,1,none⟩) (g4.out) (.int .i64 p2)) (p:=⟨a3,2,none⟩) (g4.out) (.int .i64 p3)) (p:=⟨a3,3,none⟩) (g4.out) (.int .i64 p4))
  have e4:=hid (Blk.far (Blk.far (Blk.far (Blk.far (e3.out) (p:=⟨a3,0,none⟩) (b1.out) (.int .i64 p1)) (p:=⟨a3,1,none⟩) (b1.out) (.int .i64 p2)) (p:=⟨a3,2,none⟩) (b1.out) (.int .i64 p3)) (p:=⟨a3,3,none⟩) (b1.out) (.int .i64 p4))
  have k3:=hid (Blk.set_ (Blk.set_ (Blk.set_ (Blk.set_ (a9.out) 0 (.int .i64 p1)) 1 (.int .i64 p2)) 2 (.int .i64 p3)) 3 (.int .i64 p4))
  obtain ⟨f2,i5⟩:∃ w',w'=(((((f1).setCell ⟨a3,0,none⟩ (.int .i64 p1)).setCell ⟨a3,1,none⟩ (.int .i64 p2)).setCell ⟨a3,2,none⟩ (.int .i64 p3)).setCell ⟨a3,3,none⟩ (.int .i64 p4)):=⟨_,rfl⟩
  rw [← i5] at k0 k1 j1 k2 e4 k3
  rw [← i5]
  clear i5 m9 n0 n1 n2 n3 n4 n5 n6 hlt_
  refine hK.out _ _ j1.out (fun _=>?_);clear hK K
  try simp only [pq]
  refine oneH 5 rfl fun K hK=>?_
  have n7:(f2).cell? ⟨a2,0,none⟩=some (.int .i64 0):=Blk.cell (e4.out) 0
  have n8:(f2).frozen? ⟨a2,0,none⟩=false:=Blk.frozen (e4.out) 0
  have n9:(f2).cell? ⟨a2,1,none⟩=some (.int .i64 0):=Blk.cell (e4.out) 1
  have o0:(f2).frozen? ⟨a2,1,none⟩=false:=Blk.frozen (e4.out) 1
  have o1:(f2).cell? ⟨a2,2,none⟩=some (.int .i64 0):=Blk.cell (e4.out) 2
  have o2:(f2).frozen? ⟨a2,2,none⟩=false:=Blk.frozen (e4.out) 2
  have o3:(f2).cell? ⟨a2,3,none⟩=some (.int .i64 0):=Blk.cell (e4.out) 3
  have o4:(f2).frozen? ⟨a2,3,none⟩=false:=Blk.frozen (e4.out) 3
  have hlt_:=Blk.lt (e4.out)
  go_simp
  have k4:=hid (Below.setCell (Below.setCell (Below.setCell (Below.setCell (k0.out) (p:=⟨a2,0,none⟩) (f9.out) (.int .i64 p1)) (p:=⟨a2,1,none⟩) (f9.out) (.int .i64 p2)) (p:=⟨a2,2,none⟩) (f9.out) (.int .i64 p3)) (p:=⟨a2,3,none⟩) (f9.out) (.int .i64 p4))
  have k5:=hid (OwnP.far (OwnP.far (OwnP.far (OwnP.far (k1.out) (a:=⟨a2,0,none⟩) (e9.out) (.int .i64 p1)) (a:=⟨a2,1,none⟩) (e9.out) (.int .i64 p2)) (a:=⟨a2,2,none⟩) (e9.out) (.int .i64 p3)) (a:=⟨a2,3,none⟩) (e9.out) (.int .i64 p4))
  have i6:=hid (Blk.far (Blk.far (Blk.far (Blk.far (j1.out) (p:=⟨a2,0,none⟩) (g0.out) (.int .i64 p1)) (p:=⟨a2,1,none⟩) (g0.out) (.int .i64 p2)) (p:=⟨a2,2,none⟩) (g0.out) (.int .i64 p3)) (p:=⟨a2,3,none⟩) (g0.out) (.int .i64 p4))
  have g8:=hid (Blk.far (Blk.far (Blk.far (Blk.far (k2.out) (p:=⟨a2,0,none⟩) (g1.out) (.int .i64 p1)) (p:=⟨a2,1,none⟩) (g1.out) (.int .i64 p2)) (p:=⟨a2,2,none⟩) (g1.out) (.int .i64 p3)) (p:=⟨a2,3,none⟩) (g1.out) (.int .i64 p4))
  have g9:=hid (Blk.set_ (Blk.set_ (Blk.set_ (Blk.set_ (e4.out) 0 (.int .i64 p1)) 1 (.int .i64 p2)) 2 (.int .i64 p3)) 3 (.int .i64 p4))
  have h0:=hid (Blk.far (Blk.far (Blk.far (Blk.far (k3.out) (p:=⟨a2,0,none⟩) ((Ne.symm b1.out)) (.int .i64 p1)) (p:=⟨a2,1,none⟩) ((Ne.symm b1.out)) (.int .i64 p2)) (p:=⟨a2,2,none⟩) ((Ne.symm b1.out)) (.int .i64 p3)) (p:=⟨a2,3,none⟩) ((Ne.symm b1.out)) (.int .i64 p4))
  obtain ⟨c5,i7⟩:∃ w',w'=(((((f2).setCell ⟨a2,0,none⟩ (.int .i64 p1)).setCell ⟨a2,1,none⟩ (.int .i64 p2)).setCell ⟨a2,2,none⟩ (.int .i64 p3)).setCell ⟨a2,3,none⟩ (.int .i64 p4)):=⟨_,rfl⟩
  rw [← i7] at k4 k5 i6 g8 g9 h0
  rw [← i7]
  clear i7 n7 n8 n9 o0 o1 o2 o3 o4 hlt_
  refine hK.out _ _ i6.out (fun _=>?_);clear hK K
  try simp only [pq]
  refine wpAnyH_done (by kernel_rfl) ?_ _
  have lt5:=Blk.lt h0.out;have lt6:=Blk.lt g9.out;have ltz:=Blk.lt g8.out;have ltp:=Blk.lt i6.out
  have hne1:=b1.out;have hne2:=Ne.symm b1.out
  have hl5:w.heap.size≤a3:=g2.out;have hl6:w.heap.size≤a2:=f9.out
  have hnp5:w.heap.size≠a3:=g3.out;have hnp6:w.heap.size≠a2:=g0.out
  have hnz5:w.heap.size+1≠a3:=g4.out;have hnz6:w.heap.size+1≠a2:=g1.out
  have OW:=hid (OwnP.far (OwnP.far (OwnP.far (OwnP.far (k5.out) (a:=⟨a3,0,none⟩) f0.out (.int .i64 (p1-1))) (a:=⟨a3,3,none⟩) f0.out (.int .i64 (p4+1))) (a:=⟨a2,1,none⟩) e9.out (.int .i64 (p2+1))) (a:=⟨a2,2,none⟩) e9.out (.int .i64 (p3-1)))
  have HBL:=hid (k4.out)
  obtain ⟨c7,c8,c9,d0⟩:=at4 i6
  obtain ⟨d1,d2,d3,d4⟩:=at4 g8
  obtain ⟨d5,d6,d7,d8⟩:=at4 h0
  obtain ⟨d9,e0,e1,e2⟩:=at4 g9
  have b2:(c5).frozen? ⟨a3,0,none⟩=false:=Blk.frozen h0.out 0
  have b3:(c5).frozen? ⟨a3,1,none⟩=false:=Blk.frozen h0.out 1
  have b4:(c5).frozen? ⟨a3,2,none⟩=false:=Blk.frozen h0.out 2
  have b5:(c5).frozen? ⟨a3,3,none⟩=false:=Blk.frozen h0.out 3
  have b6:(c5).frozen? ⟨a2,0,none⟩=false:=Blk.frozen g9.out 0
  have b7:(c5).frozen? ⟨a2,1,none⟩=false:=Blk.frozen g9.out 1
  have b8:(c5).frozen? ⟨a2,2,none⟩=false:=Blk.frozen g9.out 2
  have b9:(c5).frozen? ⟨a2,3,none⟩=false:=Blk.frozen g9.out 3
  have c0:(c5).frozen? ⟨w.heap.size+1,0,none⟩=false:=Blk.frozen g8.out 0
  have c1:(c5).frozen? ⟨w.heap.size+1,1,none⟩=false:=Blk.frozen g8.out 1
  have c2:(c5).frozen? ⟨w.heap.size+1,2,none⟩=false:=Blk.frozen g8.out 2
  have c3:(c5).frozen? ⟨w.heap.size+1,3,none⟩=false:=Blk.frozen g8.out 3
  go_wp2_with (at_lookup;first|refine wpList_lookup_P _ rfl _ _ rfl b S rfl OW.out (befP ⟨p1,p2,p3,p4⟩) rfl HW1.out q1 HQ1.out ?_|refine wpList_lookup_P _ rfl _ _ rfl b S rfl OW.out (behP ⟨p1,p2,p3,p4⟩) rfl HW2.out q2 HQ2.out ?_)
  · refine bodyPost_ret (v:=.agg #[.int .i64 (p1-1),.int .i64 p2,.int .i64 p3,.int .i64 (p4+1)]) (by simp [results,Tryz.results65,go_sem,c7,c8,c9,d0,d1,d2,d3,d4,d5,d6,d7,d8,d9,e0,e1,e2,b2,b3,b4,b5,b6,b7,b8,b9,c0,c1,c2,c3]) rfl ⟨by rw [HA.out (by assumption)];rfl,(by have hsz_:=Below.size HBL.out;repeat' (first|with_reducible exact HBL.out|with_reducible exact Below.refl _ _|with_reducible refine Below.alloc ?_ ?_ _|with_reducible refine Below.setCell ?_ ?_ _|with_reducible refine Below.drew ?_|with_reducible refine below_setRow ?_ ?_ _|omega | (simp;done) | (simp;omega)))⟩
  · refine bodyPost_ret (v:=.agg #[.int .i64 p1,.int .i64 (p2+1),.int .i64 (p3-1),.int .i64 p4]) (by simp [results,Tryz.results65,go_sem,c7,c8,c9,d0,d1,d2,d3,d4,d5,d6,d7,d8,d9,e0,e1,e2,b2,b3,b4,b5,b6,b7,b8,b9,c0,c1,c2,c3]) rfl ⟨by rw [HBB.out (by assumption) (by assumption)];rfl,(by have hsz_:=Below.size HBL.out;repeat' (first|with_reducible exact HBL.out|with_reducible exact Below.refl _ _|with_reducible refine Below.alloc ?_ ?_ _|with_reducible refine Below.setCell ?_ ?_ _|with_reducible refine Below.drew ?_|with_reducible refine below_setRow ?_ ?_ _|omega | (simp;done) | (simp;omega)))⟩
  · refine bodyPost_ret (v:=.agg #[.int .i64 p1,.int .i64 p2,.int .i64 p3,.int .i64 p4]) (by simp [results,Tryz.results65,go_sem,c7,c8,c9,d0,d1,d2,d3,d4,d5,d6,d7,d8,d9,e0,e1,e2,b2,b3,b4,b5,b6,b7,b8,b9,c0,c1,c2,c3]) rfl ⟨by rw [HC.out (by assumption) (by assumption)];rfl,(by have hsz_:=Below.size HBL.out;repeat' (first|with_reducible exact HBL.out|with_reducible exact Below.refl _ _|with_reducible refine Below.alloc ?_ ?_ _|with_reducible refine Below.setCell ?_ ?_ _|with_reducible refine Below.drew ?_|with_reducible refine below_setRow ?_ ?_ _|omega | (simp;done) | (simp;omega)))⟩
 exact AllReadyH.nil
end Go.Proofs.YtjjmifcjailpaaaGreat
