import Derived.Deep.OwnRows
import Derived.Test.YtokpblmgdmokoaaGreatAVCks
set_option linter.unusedSimpArgs false
set_option linter.unusedVariables false
namespace Go.Proofs.YtokpblmgdmokoaaGreat
open Go.Lib (hid)
open Go.RowKit Go.Maps Go.Shelf
def seenN (l:List Int):List Int:=l.foldl (fun s x=>if x∈s then s else s++[x]) []
def numL (l:List Int):List Int:=(List.range l.length).map fun q=>((seenN (l.take (q+1))).idxOf (l.getD q 0):Int)
theorem seenN_snoc (l:List Int) (q:Nat) (x:Int) (h:l[q]?=some x):seenN (l.take (q+1))=if x∈seenN (l.take q) then seenN (l.take q) else seenN (l.take q)++[x]:=by
 unfold seenN
 rw [List.take_add_one,h,Option.toList_some,List.foldl_append]
 rfl
theorem seenN_len (l:List Int):(seenN l).length≤l.length:=by
 unfold seenN
 have go:∀ (l s:List Int),(l.foldl (fun s x=>if x∈s then s else s++[x]) s).length≤s.length+l.length:=by
  intro l
  induction l with
  | nil=>intro s;simp
  | cons x l ih =>
   intro s
   rw [List.foldl_cons,List.length_cons]
   have:=ih (if x∈s then s else s++[x])
   split at this
   · rename_i h;rw [if_pos h];omega
   · rename_i h;rw [if_neg h];rw [List.length_append,List.length_singleton] at this;omega
 simpa using go l []
def OwnN (w:World) (b:Nat) (S:List Int):Prop:=∃ n D,w.ownsMap Tryz.prog 3 (plainElem (H:=Unit) Tryz.prog 3) b n D∧n≤S.length∧Tidy D∧size D=S.length∧(∀ x,has D (.int .i64 x)=decide (x∈S))∧∀ x,D.atKey (.int .i64 x) zlit=.lit (.int .i64 (if x∈S then (S.idxOf x:Int) else 0))
theorem OwnN.lt {w:World} {b:Nat} {S:List Int} (h:OwnN w b S):b<w.heap.size:=by obtain ⟨_,_,h,_⟩:=h;exact h.lt
theorem OwnN.keep_ {w w':World} {b:Nat} {S:List Int} (h:OwnN w b S) (hb:w'.heap[b]?=w.heap[b]?):OwnN w' b S:=by
 obtain ⟨n,D,⟨es,clock,hh,F,hs,hD⟩,h2⟩:=h
 exact ⟨n,D,⟨es,clock,hb.trans hh,F,hs,hD⟩,h2⟩
theorem OwnN.alloc {w:World} {b:Nat} {S:List Int} (h:OwnN w b S) (o:Obj):OwnN (w.alloc o) b S:=h.keep_ (Below.heap_alloc w o b h.lt)
theorem OwnN.far {w:World} {b:Nat} {S:List Int} (h:OwnN w b S) {a:Addr} (ha:b≠a.block) (v:Value):OwnN (w.setCell a v) b S:=h.keep_ (heap_setCell_other w a b v ha)
theorem ownN_made (w:World):OwnN (w.alloc (.map #[] 0)) w.heap.size [] :=
 ⟨0,_,World.ownsMap_made w Tryz.prog 3 (plainElem (H:=Unit) Tryz.prog 3),Nat.le_refl _,tidy_empty,rfl,fun x=>rfl,fun x=>rfl⟩
theorem wpList_put_N (w:World) {ops:Array Oper} {rest:List Oper} {o:Oper} {a:Act} {Q:Exit→Act→World→Prop} (hg:o.guard=none) (m x v:Operand) (hop:o.op=Op.mapUpdate 149 m x v)
 (b:Nat) (S:List Int) (hm:a.eval m=.map (some b)) (hown:OwnN w b S) (hl:S.length<100000) (z:Int) (hx:a.eval x=.int .i64 z) (hz:WfI z) (hzS:z ∉ S) (hv:a.eval v=.int .i64 (S.length:Nat))
 (hK:∀ w',OwnN w' b (S++[z])→w.grownBy w' (some b)→wpList Tryz.prog ops Q rest (a.put o.dst undef) w'):wpList Tryz.prog ops Q (o::rest) a w:=by
 obtain ⟨n,D,hown,hn,ht,hsz,hh,hat⟩:=hown
 refine wpList_mapUpdate_own w hg m x v 149 hop 3 3 (Maps.int_keyed Tryz.underlying3) Tryz.underlying149 _ b n _ hm hown (by unfold maxLen;omega) _ _ _ hx hv (Maps.keyOf_int_mk Tryz.underlying3 hz) _ [] (plainElem_int Tryz.underlying3 (wfI_of (by omega))) ?_
 intro w1 hown1 hgrow1
 refine hK w1 ⟨_,_,hown1,by simp;omega,ht.put (show WideAt.IsKeyLit (.int .i64 z) from trivial) _,?_,fun y=>?_,fun y=>?_⟩ hgrow1
 · rw [size_put ht,hh,decide_eq_false hzS,hsz];simp
 · by_cases e:y=z
   · subst e;rw [has_put_same ht.isMap (show WideAt.IsKeyLit (.int .i64 y) from trivial)];simp
   · rw [has_put_other (litI_ne e),hh];simp [e]
 · by_cases e:y=z
   · subst e
     rw [atKey_put_same ht.isMap (show WideAt.IsKeyLit (.int .i64 y) from trivial),if_pos (by simp),List.idxOf_append,if_neg hzS]
     simp
   · rw [atKey_put_other (litI_ne e),hat]
     by_cases hy:y∈S
     · rw [if_pos hy,if_pos (by simp [hy]),List.idxOf_append,if_pos hy]
     · rw [if_neg hy,if_neg (by simp [hy,e])]
theorem wpList_look_N (w:World) {ops:Array Oper} {rest:List Oper} {o:Oper} {a:Act} {Q:Exit→Act→World→Prop} (hg:o.guard=none) (m x:Operand) (hop:o.op=Op.lookup 149 m x true)
 (b:Nat) (S:List Int) (hm:a.eval m=.map (some b)) (hown:OwnN w b S) (z:Int) (hx:a.eval x=.int .i64 z) (hz:WfI z) (bv:Bool) (hb:decide (z∈S)=bv) (iv:Int) (hi:(if z∈S then (S.idxOf z:Int) else 0)=iv)
 (hK:wpList Tryz.prog ops Q rest (a.put o.dst (.tuple #[.int .i64 iv,.bool bv])) w):wpList Tryz.prog ops Q (o::rest) a w:=by
 obtain ⟨n,D,hown,hn,ht,hsz,hh,hat⟩:=hown
 refine wpList_lookup_own_ok_int w hg m x 149 hop 3 3 .i64 (Maps.int_keyed Tryz.underlying3) Tryz.underlying149 Tryz.underlying3 (by kernel_rfl) b n D hm hown _ _ hx (Maps.keyOf_int_mk Tryz.underlying3 hz) ?_
 intro c hc _
 rw [hat z,hi] at hc
 injection hc with hc
 injection hc with _ hc
 rw [hh,hb,← hc]
 exact hK
theorem wpList_len_N (w:World) {ops:Array Oper} {rest:List Oper} {o:Oper} {a:Act} {Q:Exit→Act→World→Prop} (hg:o.guard=none) (m:Operand) (hop:o.op=Op.call { callee:=Callee.builtin Builtin.len,args:=#[m],argTypes:=#[149] })
 (b:Nat) (S:List Int) (hm:a.eval m=.map (some b)) (hown:OwnN w b S) (hK:wpList Tryz.prog ops Q rest (a.put o.dst (.int .i64 (S.length:Nat))) w):wpList Tryz.prog ops Q (o::rest) a w:=by
 obtain ⟨n,D,hown,hn,ht,hsz,hh,hat⟩:=hown
 refine wpList_len_own w hg m 149 hop 3 3 Tryz.underlying149 _ b n D hm hown ?_
 rw [hsz]
 exact hK
def fillL (l:List Int) (q:Nat):List Int:=(numL l).take q++List.replicate (l.length-q) 0
theorem numL_len (l:List Int):(numL l).length=l.length:=by simp [numL]
theorem fillL_len (l:List Int) (q:Nat) (hq:q≤l.length):(fillL l q).length=l.length:=by
 unfold fillL
 rw [List.length_append,List.length_take,numL_len,List.length_replicate]
 omega
theorem fillL_set (l:List Int) (q:Nat) (hq:q<l.length):(fillL l q).set q ((seenN (l.take (q+1))).idxOf (l.getD q 0):Int)=fillL l (q+1):=by
 have hn:(numL l)[q]?=some ((seenN (l.take (q+1))).idxOf (l.getD q 0):Int):=by
  unfold numL
  rw [List.getElem?_map,List.getElem?_range hq]
  rfl
 have ht:((numL l).take q).length=q:=by rw [List.length_take,numL_len];omega
 have e:(numL l).take (q+1)=(numL l).take q++[((seenN (l.take (q+1))).idxOf (l.getD q 0):Int)]:=by rw [List.take_add_one,hn];rfl
 unfold fillL
 rw [e,List.set_append_right _ _ (by omega),ht,Nat.sub_self,show l.length-q=(l.length-(q+1))+1 by omega,List.replicate_succ,List.set_cons_zero,List.append_assoc]
 rfl
theorem made_arr (n:Nat):madeCells #[.int .i64 0] n=arr (List.replicate n 0):=by
 apply Array.toList_inj.1
 rw [toList_madeCells_one]
 simp [arr]
theorem wpList_make_ints {w:World} {ops:Array Oper} {rest:List Oper} {o:Oper} {a:Act} {Q:Exit→Act→World→Prop}
 (hg:o.guard=none) (l c:Operand) (hop:o.op=Op.makeSlice 30 l c) (L C:Int) (n:Nat) (hl:a.eval l=.int .i64 L) (hc:a.eval c=.int .i64 C) (hL:L=(n:Int)) (hC:C=(n:Int)) (hn:n≤100000)
 (hK:wpList Tryz.prog ops Q rest (a.put o.dst (.slice (some ⟨w.heap.size,0,none⟩) n n)) (w.alloc (.cells (arr (List.replicate n 0)) 3))) :
 wpList Tryz.prog ops Q (o::rest) a w:=by
 subst hL hC
 obtain ⟨i,hi,hz,hs,hb⟩:=info_parts (show (Tryz.prog.info? 3).map (fun i=>(i.zero,i.size,i.bytes))=some (some (.int .i64 0),1,8) by kernel_rfl)
 refine wpList_make_row w hg l c _ hop 3 i _ Tryz.underlying30 hi hz hs rfl .i64 .i64 n hl hc (by rw [hb];omega) (by omega) ?_
 rw [made_arr]
 exact hK
set_option maxRecDepth 100000 in
set_option maxHeartbeats 4000000 in
theorem numbered_any (B:Option Addr) (m d:Nat) (l:List Int) (w:World) (hl:RdI w B m d l) (hm:m≤1000) (hwf:∀ x∈l,WfI x):Calls Tryz.prog 126 #[.slice B m d] w fun e w'=>∃ g,e=.returned (.slice (some ⟨g,0,none⟩) m m)∧w.heap.size≤g∧Blk w' g 3 (arr (numL l))∧Below w.heap.size w w':=by
 have HLN:=hid hl.len
 have HL:=hid hl;have HWF:=hid hwf;clear hl hwf
 go_enter Tryz.func126,Tryz.ntmps126
 have hln:=HL.out.len
 have hmk:∀ w,(Instr.makeMap 149 none).run Tryz.prog w=.ok (.map (some w.heap.size)) (w.alloc (.map #[] 0)):=fun _=>rfl
 go_wp2_with (at_make;refine wpList_make_ints rfl _ _ rfl _ _ m rfl rfl rfl rfl (by omega) ?_)
 have hom:OwnN ((w.alloc (.map #[] 0)).alloc (.cells (arr (List.replicate m 0)) 3)) w.heap.size []:=(ownN_made w).alloc _
 have hbk:Blk ((w.alloc (.map #[] 0)).alloc (.cells (arr (List.replicate m 0)) 3)) (w.heap.size+1) 3 (arr (List.replicate m 0)):=by have:=Blk.new (w.alloc (.map #[] 0)) 3 (arr (List.replicate m 0));rwa [World.size_alloc] at this
 have hbe:Below w.heap.size w ((w.alloc (.map #[] 0)).alloc (.cells (arr (List.replicate m 0)) 3)):=((Below.refl _ w).alloc (Nat.le_refl _) _).alloc (by simp) _
 try simp only [World.size_alloc]
 obtain ⟨w1,hw1⟩:∃ x,x=((w.alloc (.map #[] 0)).alloc (.cells (arr (List.replicate m 0)) 3)):=⟨_,rfl⟩
 rw [← hw1] at hom hbk hbe ⊢
 clear hw1
 have HOM:=hid hom;have HBK:=hid hbk;have HBE:=hid hbe;clear hom hbk hbe
 go_loopw [15] (fun s15 wr=>∃ q:Nat,s15=.int .i64 q∧q≤m∧OwnN wr w.heap.size (seenN (l.take q))∧Blk wr (w.heap.size+1) 3 (arr (fillL l q))∧Below w.heap.size w wr) (fun s15 _=>m-(intOf s15).toNat)
 case atStart=>exact ⟨0,rfl,Nat.zero_le _,HOM.out,by have h:=HBK.out;unfold fillL;rw [HLN.out];exact h,HBE.out⟩
 case round =>
  clear HOM HBK HBE
  obtain ⟨q,rfl,hq,hom,hbk,hbe⟩:=hrel
  have HOM:=hid hom;have HBK:=hid hbk;have HBE:=hid hbe;clear hom hbk hbe
  by_cases hlt:q<m
  · have hlt':(q:Int)<m:=by omega
    obtain ⟨b9,o9,x,hB,hb9,hx,e0⟩:=RdI.get (HL.out.below HBE.out) hlt
    subst hB
    have HWX:=hid (HWF.out x (List.mem_of_getElem? hx));have HSN:=hid (seenN_snoc l q x hx);have HX:=hid (show l.getD q 0=x by rw [List.getD_eq_getElem?_getD,hx];rfl);clear hx
    have HFS:=hid (fillL_set l q (by have:=HLN.out;omega))
    have hsl:=seenN_len (l.take q)
    rw [List.length_take] at hsl
    have hfl:=fillL_len l q (by have:=HLN.out;omega)
    obtain ⟨S,hS⟩:∃ S,S=seenN (l.take q):=⟨_,rfl⟩
    rw [← hS] at HOM HSN hsl
    clear hS
    obtain ⟨F,hF⟩:∃ F,F=fillL l q:=⟨_,rfl⟩
    rw [← hF] at HBK HFS hfl
    clear hF
    have HFL:=hid hfl;clear hfl
    by_cases hxS:x∈S
    · obtain ⟨iv,hiv⟩:∃ v:Int,(S.idxOf x:Int)=v:=⟨_,rfl⟩
      have hiv2:(if x∈S then (S.idxOf x:Int) else 0)=iv:=by rw [if_pos hxS];exact hiv
      have HIV:=hid hiv;have HIV2:=hid hiv2;have HDX:=hid (decide_eq_true hxS);clear hiv hiv2
      have hcq:(wr).cell? ⟨w.heap.size+1,q,none⟩=some (.int .i64 (at_ F q)):=(HBK.out.cell q).trans (arr_get F q (by have:=HFL.out;have:=HLN.out;omega))
      have hfq:=Blk.frozen HBK.out q
      have hxS2:=hid hxS;clear hxS
      go_wp2_with (at_lookup;refine wpList_look_N _ rfl _ _ rfl w.heap.size S rfl HOM.out x rfl HWX.out true HDX.out iv HIV2.out ?_)
      have hxS:=hxS2.out
      have HS2:=hid (show seenN (l.take (q+1))=S by rw [HSN.out];exact if_pos hxS)
      have HF2:=hid (show fillL l (q+1)=F.set q (iv) by rw [← HFS.out,HX.out,HS2.out,← HIV.out])
      go_wp2
      go_roundw
      case rel=>exact ⟨q+1,by go_num,by omega,by rw [HS2.out];exact HOM.out.far (a:=⟨w.heap.size+1,q,none⟩) (by dsimp only;omega) (.int .i64 iv),by rw [HF2.out,← arr_set];exact HBK.out.set_ q (.int .i64 iv),HBE.out.setCell (p:=⟨w.heap.size+1,q,none⟩) (by dsimp only;omega) (.int .i64 iv)⟩
      case measure=>simp [intOf];omega
    · have hiv2:(if x∈S then (S.idxOf x:Int) else 0)=0:=if_neg hxS
      have HIV2:=hid hiv2;have HDX:=hid (decide_eq_false hxS);have HNS:=hid hxS;clear hiv2 hxS
      go_wp2_with (first | (at_lookup;refine wpList_look_N _ rfl _ _ rfl w.heap.size S rfl HOM.out x rfl HWX.out false HDX.out 0 HIV2.out ?_) | (at_len;refine wpList_len_N _ rfl _ rfl w.heap.size S rfl HOM.out ?_) | (at_mapUpdate;refine wpList_put_N _ rfl _ _ _ rfl w.heap.size S rfl HOM.out (by omega) x rfl HWX.out HNS.out rfl ?_;intro w4 hom4 hg4;have HOM4:=hid hom4;have HBK4:=hid (show Blk w4 (w.heap.size+1) 3 (arr F) from (hg4.block _ HBK.out.lt (fun e=>by injection e with e;omega)).trans HBK.out);have HBE4:=hid (HBE.out.grown hg4 HBE.out.size (fun r e=>by injection e with e;omega));clear hom4 hg4;have hcq:(w4).cell? ⟨w.heap.size+1,q,none⟩=some (.int .i64 (at_ F q)):=(HBK4.out.cell q).trans (arr_get F q (by have:=HFL.out;have:=HLN.out;omega));have hfq:=Blk.frozen HBK4.out q))
      have hxS:=HNS.out
      have HS2:=hid (show seenN (l.take (q+1))=S++[x] by rw [HSN.out];exact if_neg hxS)
      have HF2:=hid (show fillL l (q+1)=F.set q ((S.length:Int)) by rw [← HFS.out,HX.out,HS2.out,List.idxOf_append,if_neg HNS.out];simp)
      go_wp2
      go_roundw
      case rel=>exact ⟨q+1,by go_num,by omega,by rw [HS2.out];exact HOM4.out.far (a:=⟨w.heap.size+1,q,none⟩) (by dsimp only;omega) (.int .i64 (S.length:Nat)),by rw [HF2.out,← arr_set];exact HBK4.out.set_ q (.int .i64 (S.length:Nat)),HBE4.out.setCell (p:=⟨w.heap.size+1,q,none⟩) (by dsimp only;omega) (.int .i64 (S.length:Nat))⟩
      case measure=>simp [intOf];omega
  · obtain rfl:q=m:=by omega
    have HFN:=hid (show fillL l q=numL l by unfold fillL;rw [HLN.out,Nat.sub_self,List.replicate_zero,List.append_nil,List.take_of_length_le (by rw [numL_len,HLN.out];exact Nat.le_refl _)])
    go_wp2
    go_ret
    exact ⟨w.heap.size+1,rfl,by omega,by rw [← HFN.out];exact HBK.out,HBE.out⟩
end Go.Proofs.YtokpblmgdmokoaaGreat
