import Derived.Test.YtjjmifcjailpaaaGreatPEIter
set_option linter.unusedSimpArgs false
set_option linter.unusedVariables false
namespace Go.Proofs.YtjjmifcjailpaaaGreat
open Go.Lib (hid)
open Go.RowKit Go.Shelf
attribute [local go_sem] Oper.semAt_some
def pB (p:Prg):Bnd:=⟨p.af,p.at2,p.bf,p.bt⟩
def pcells {a b:Otl} (l:List (Yp a b)):List Value:=bcells ((prs l).map pB)
theorem pcells_snoc {a b:Otl} (l:List (Yp a b)) (x:Yp a b):pcells (l++[x])=pcells l++[.int .i64 x.1.af,.int .i64 x.1.at2,.int .i64 x.1.bf,.int .i64 x.1.bt]:=by
 unfold pcells
 rw [prs_snoc,List.map_append,bcells_append]
 rfl
theorem flat_length_le {α β:Type} (f:α→List β) (m:Nat):∀ (l:List α),(∀ x∈l,(f x).length≤m)→(l.flatMap f).length≤l.length * m
 | [],_=>by simp
 | x::l,h=>by
  rw [List.flatMap_cons,List.length_append,List.length_cons]
  have h1:=h x (List.mem_cons_self)
  have h2:=flat_length_le f m l (fun y hy=>h y (List.mem_cons_of_mem _ hy))
  rw [Nat.add_mul]
  omega
theorem pairsL_length {a b:Otl} (hq:both a b=0) (s:Int):(pairsL a.c b.c s).length≤1000:=by
 obtain ⟨oa,ob,-,-⟩:=both_ok hq
 have a2:=(chkO_ok oa).2.1
 have b2:=(chkO_ok ob).2.1
 unfold pairsL
 split
 · simp
 · rename_i hs
   have h1:=flat_length_le (fun i=>(List.range (b.c-s+1).toNat).map fun j=>prAt s i j) 16 (List.range (a.c-s+1).toNat) (fun i _=>by rw [List.length_map,List.length_range];omega)
   rw [List.length_range] at h1
   have h2:(a.c-s+1).toNat * 16≤16 * 16:=Nat.mul_le_mul_right _ (by omega)
   omega
theorem TryzinfoPR:(Tryz.prog.info? 28).map (fun i=>(i.zero,i.size,i.bytes))=some (some (.agg #[.int .i64 0,.int .i64 0,.int .i64 0,.int .i64 0]),4,32):=by kernel_rfl
theorem ownsRow_base {w:World} {base base':Nat} {e:TypeId} {size:Nat} {v:Value} {n:Nat} {xs:List Value} (h:w.ownsRow base e size v n xs) (hb:base'≤base):w.ownsRow base' e size v n xs:=by
 rcases h with ⟨h1,h2|⟨g,cap,cur,e1,e2,h3⟩⟩
 · exact ⟨h1,.inl h2⟩
 · exact ⟨h1,.inr ⟨g,cap,cur,e1,Nat.le_trans hb e2,h3⟩⟩
theorem ownsRow_block {w:World} {base:Nat} {e:TypeId} {size:Nat} {v:Value} {n:Nat} {xs:List Value} (h:w.ownsRow base e size v n xs):∀ j,v.ownBlock=some j→base≤j:=by
 intro j hj
 rcases h.2 with ⟨rfl,_⟩|⟨g,cap,cur,rfl,e2,_⟩
 · simp [Value.ownBlock] at hj
 · obtain rfl:g=j:=by simpa [Value.ownBlock] using hj
   exact e2
theorem keepT_belowN {n n₀ Bg Bx:Nat} {W W':World} (h:Below n W W') (hn:n₀≤n) (hg:Bg<n) (hx:Bx<n):KeepT n₀ Bg Bx W W' :=
 ⟨h.mono hn,h.block _ hg,h.block _ hx⟩
theorem cells_new4 (W:World) (t:TypeId) (v1 v2 v3 v4:Value):∀ j u,([v1,v2,v3,v4]:List Value)[j]?=some u→(W.alloc (.cells #[v1,v2,v3,v4] t)).cell? ((⟨W.heap.size,0,none⟩:Addr).add j)=some u :=
 cells_add (cs:=[v1,v2,v3,v4]) (Blk.new W t #[v1,v2,v3,v4])
set_option maxRecDepth 100000 in
set_option maxHeartbeats 4000000 in
theorem appendSeq_in {a b:Otl} (gf:Nat) (lb:Array Value) (n₀ Bo Bs N:Nat) (S Sp:List (Yp a b)→Prop) (w0 w:World) (hseq:SeqX 5 Tryz.prog gf lb (encP (a:=a) (b:=b)) (KeepT n₀ Bo Bs) S Sp N w0)
 (hw0:Below w0.heap.size w0 w) (eg:∀ args w,(callFunc gf args).run Tryz.prog w=.ok (.enter gf args) w) (hn₀:n₀≤w.heap.size) (hBo:Bo<w.heap.size) (hBs:Bs<w.heap.size) (hN:N≤1000) :
 CallsIn Fence.wide 9 Tryz.prog 105 #[.slice none 0 0,.func (.func gf) #[] lb] w fun e W'=>∃ v ys,S ys∧e=.returned v∧W'.ownsRow w.heap.size 28 4 v ys.length (pcells ys)∧(v=.slice none 0 0 ↔ ys=[])∧Below w.heap.size w W':=by
 obtain ⟨i0,hi,hz0,hz1,hz2⟩:=info_parts TryzinfoPR
 have HI:=hid hi;have HZ0:=hid hz0;have HZ1:=hid hz1;have HZ2:=hid hz2;clear hi hz0 hz1 hz2
 refine callsIn_of_wp_marks Tryz.func105 rfl trivial ?_ rfl
 simp only [Tryz.ntmps105,List.size_toArray,List.length_cons,List.length_nil,Nat.reduceAdd,Nat.reduceSub,Array.replicate_succ,Array.replicate_zero,List.push_toArray,List.append_toArray,List.nil_append,List.cons_append]
 gi_wp2
 have bO:=Boxed.new w 56 (.slice none 0 0)
 have hB0:Below w.heap.size w (w.alloc (.cells #[.slice none 0 0] 56)):=(Below.refl _ w).alloc (Nat.le_refl _) _
 have hsz:(w.alloc (.cells #[.slice none 0 0] 56)).heap.size=w.heap.size+1:=by simp
 obtain ⟨W0,hW0⟩:∃ W0,w.alloc (.cells #[.slice none 0 0] 56)=W0:=⟨_,rfl⟩
 rw [hW0] at bO hB0 hsz ⊢
 clear hW0
 refine rangeFunc_X (gf:=gf) (lb:=lb) rfl eg hseq (hw0.trans (hB0.mono hw0.size)) (fun h k=>h.trans k) (keepT_b (by omega) (by omega) (by omega)) (fun _=>rfl)
  (fun pre W=>(∃ v,Boxed W w.heap.size 56 v∧W.ownsRow (W0.heap.size+7) 28 4 v pre.length (pcells pre)∧(v=.slice none 0 0 ↔ pre=[]))∧Below w.heap.size w W)
  (fun _ _ _=>False)
  (OwnFrom.and (Own.from (holdsRow_own (W0.heap.size+7) w.heap.size 56 28 4 (fun pre:List (Yp a b)=>pre.length) (fun pre=>pcells pre) (fun pre v=>v=.slice none 0 0 ↔ pre=[])) _) (ownFrom_below (Nat.le_refl _) (by omega)))
  (fun _ _ _ _ _ hs _ _=>hs)
  ⟨⟨_,bO,World.ownsRow_nil _ _ _ _,by simp⟩,hB0⟩
  (fun x a' W'=>∃ Bx,Blk W' Bx 28 #[.int .i64 x.1.af,.int .i64 x.1.at2,.int .i64 x.1.bf,.int .i64 x.1.bt] ∧
   a'={ tmps:=#[.slice none 0 0,.func (.func gf) #[] lb,.pointer (some ⟨w.heap.size,0,none⟩),undef,.slice none 0 0,.pointer (some ⟨Bx,0,none⟩),.func (.func gf) #[] lb,.agg #[.int .i64 x.1.af,.int .i64 x.1.at2,.int .i64 x.1.bf,.int .i64 x.1.bt],undef,undef,undef,undef,undef],defers:=[] })
  (fun x a' s X Y row hs hg hr=>by obtain ⟨Bx,e2,e3⟩:=hs;exact ⟨Bx,blk_own e2 hg (fun r e=>(hr r e).2),e3⟩)
  ?assign ?body ?done ?stop
 case assign =>
  rintro l pre x W' K ⟨⟨v,hv,hrow,hnil⟩,hB⟩ hK
  have HK:=hid hK;clear hK
  have zb:=hB.size
  dsimp only [encP]
  gi_wp2
  exact HK.out _ _ (KeepsIn.alloc _ _ _ _) (keepT_belowN ((Below.refl w.heap.size W').alloc (by omega) _) hn₀ hBo hBs) ⟨⟨v,hv.alloc _,hrow.alloc _,hnil⟩,hB.alloc (by omega) _⟩ ⟨W'.heap.size,Blk.new W' _ _,rfl⟩
 case body =>
  rintro l pre x a' W hl ⟨r,hr⟩ hG ⟨⟨v,hv,hrow,hnil⟩,hB⟩ ⟨Bx,bX,rfl⟩ hlen
  have hc:=hv.cell
  have cx0:W.cell? ⟨Bx,0,none⟩=some (.int .i64 x.1.af):=bX.cell 0
  have cx1:W.cell? ⟨Bx,1,none⟩=some (.int .i64 x.1.at2):=bX.cell 1
  have cx2:W.cell? ⟨Bx,2,none⟩=some (.int .i64 x.1.bf):=bX.cell 2
  have cx3:W.cell? ⟨Bx,3,none⟩=some (.int .i64 x.1.bt):=bX.cell 3
  have zx:=bX.lt
  have HML:=hid (show pre.length+1≤maxLen∧(pre.length+1) * 32≤140737488355328 by unfold maxLen;omega)
  gi_wp2_with (gi_at_builtin;refine wpListIn_append_own _ rfl _ _ 56 rfl (W0.heap.size+7) 28 i0 _ 4 32 Tryz.underlying56 HI.out HZ0.out HZ1.out HZ2.out rfl (by decide) _ _ _ rfl (hrow.alloc _) ⟨W.heap.size,0,none⟩ 1 1 [.int .i64 x.1.af,.int .i64 x.1.at2,.int .i64 x.1.bf,.int .i64 x.1.bt] rfl rfl (cells_new4 _ _ _ _ _ _) (by simp [Value.oneCell']) HML.out.1 HML.out.2 (by simp;omega) ?_;intro v' w1 hown' hgrow _;obtain ⟨g',cap',rfl⟩:=ownsRow_succ hown';obtain ⟨hv1,hv2,hr2,hk2,hb2⟩:=hv.appended (by decide) (ownsRow_base hrow (show w.heap.size≤W0.heap.size+7 by omega)) hB.size (Nat.le_refl _) (ownsRow_base hown' (by omega)) hgrow;have hc1:=hv1.cell;have hf1:=hv1.frozen)
  refine ⟨((KeepsIn.alloc _ _ _ _).trans (KeepsIn.grown hgrow (fun j e=>.inr (ownsRow_block hrow j e)))).trans (KeepsIn.setCell _ _ (.inl (by omega))),keepT_belowN hb2 hn₀ hBo hBs,⟨_,hv2,?_,by simp⟩,hB.trans hb2⟩
  rw [pcells_snoc,List.length_append]
  exact hown'.kept (grownBy_setCell' w1 w.heap.size _) (.inr (hv1.not_row (by decide) hown').symm)
 case done =>
  rintro D ys W hD hS ⟨⟨v,hv,hrow,hnil⟩,hB⟩ hK
  have hc:=hv.cell
  gi_wp2
  refine ⟨by simp,.inl ⟨_,_,rfl,run_takeDeferred hK,?_⟩⟩
  exact ⟨_,results_tmp rfl _ _ _,v,ys,hS,rfl,ownsRow_base (ownsRow_putObj hrow _ hK rfl) (by omega),hnil,hB.trans (belowK_b (w:=w) (Nat.le_refl _) W D _ _ (by omega) hK rfl rfl)⟩
 case stop =>
  rintro D c pre W _ _ h _
  exact h.elim
end Go.Proofs.YtjjmifcjailpaaaGreat
