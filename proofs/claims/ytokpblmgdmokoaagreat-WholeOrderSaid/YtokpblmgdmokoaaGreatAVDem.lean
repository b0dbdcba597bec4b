import Derived.Deep.CutRange
import Derived.Shelf.SlicesQ.Reverse
import Derived.Test.YtokpblmgdmokoaaGreatAVCol
set_option linter.unusedSimpArgs false
set_option linter.unusedVariables false
namespace Go.Proofs.YtokpblmgdmokoaaGreat
open Go.Lib (hid)
open Go.RowKit Go.Maps Go.Shelf
def RangeR (w:World) (b r:Nat) (ps:List Prt) (came:List Rng) (cnt:Nat):Prop :=
 ∃ n D left,w.ranges Tryz.prog 41 (plainElem (H:=Unit) Tryz.prog 3) b r n D left cnt∧n≤ps.length∧CntD D ps∧(∀ p∈ps,WfR (colR p))∧came.Nodup∧(∀ x∈came,x∈ps.map colR) ∧
  ∀ x,WfR x→left (keyR x)=decide (x∈ps.map colR∧x ∉ came)
section
variable {w w':World} {b r:Nat} {ps:List Prt} {came:List Rng} {cnt:Nat}
theorem RangeR.own (h:RangeR w b r ps came cnt):OwnR w b ps:=by
 obtain ⟨n,D,left,h1,h2,h3,h4,_⟩:=h
 exact ⟨n,D,h1.owns,h2,h3,h4⟩
theorem RangeR.lt (h:RangeR w b r ps came cnt):r<w.heap.size:=by obtain ⟨n,D,left,h1,_⟩:=h;exact h1.lt
theorem RangeR.left_eq (h:RangeR w b r ps came cnt):w.rangeLeft b r=cnt:=by obtain ⟨n,D,left,h1,_⟩:=h;exact h1.left_eq
theorem RangeR.keep_ (h:RangeR w b r ps came cnt) (hb:w'.heap[b]?=w.heap[b]?) (hr:w'.heap[r]?=w.heap[r]?):RangeR w' b r ps came cnt:=by
 obtain ⟨n,D,left,⟨es,clock,since,seen,c0,g1,F,g2,g3,g4,g5⟩,h2⟩:=h
 exact ⟨n,D,left,⟨es,clock,since,seen,c0,hb.trans g1,F,g2,g3,hr.trans g4,g5⟩,h2⟩
theorem RangeR.keep (h:RangeR w b r ps came cnt) (hb:Below w.heap.size w w'):RangeR w' b r ps came cnt:=h.keep_ (hb.block b h.own.lt) (hb.block r h.lt)
theorem RangeR.alloc (h:RangeR w b r ps came cnt) (o:Obj):RangeR (w.alloc o) b r ps came cnt:=h.keep_ (Below.heap_alloc w o b h.own.lt) (Below.heap_alloc w o r h.lt)
end
section
variable (w:World) {ops:Array Oper} {rest:List Oper} {o:Oper} {a:Act} {Q:Exit→Act→World→Prop}
theorem wpList_range_R (hg:o.guard=none) (m:Operand) (hop:o.op=Op.range 85 m) (b:Nat) (ps:List Prt) (hm:a.eval m=.map (some b)) (hown:OwnR w b ps)
 (hK:∀ w' cnt,RangeR w' b w.heap.size ps [] cnt→w.grownBy w' none→w'.heap.size=w.heap.size+1→wpList Tryz.prog ops Q rest (a.put o.dst (.pointer (some ⟨w.heap.size,0,none⟩))) w') :
 wpList Tryz.prog ops Q (o::rest) a w:=by
 obtain ⟨n,D,hown,hn,hS,hw⟩:=hown
 refine wpList_range_own w hg m 85 hop 41 3 lawR Tryz.underlying85 _ b n D hm hown ?_
 intro w' hr hgr hs
 refine hK w' _ ⟨n,D,_,hr,hn,hS,hw,List.nodup_nil,(fun p h=>by cases h),fun p hp=>?_⟩ hgr hs
 rw [hS.2.1 p hp]
 simp
set_option maxRecDepth 100000 in
theorem wpList_next_R (hg:o.guard=none) (it:Operand) (hop:o.op=Op.next it false) (b r:Nat) (ps:List Prt) (came:List Rng) (cnt:Nat) (hit:a.eval it=.pointer (some ⟨r,0,none⟩)) (h:RangeR w b r ps came cnt)
 (hDone:(∀ x∈ps.map colR,x∈came)→wpList Tryz.prog ops Q rest (a.put o.dst (.tuple #[.bool false])) w)
 (hMore:∀ (x:Rng) (c:Int) (w':World) (cnt':Nat),x∈ps.map colR→x ∉ came→c=(cntR ps x:Nat)→RangeR w' b r ps (came++[x]) cnt'→cnt'<cnt→w.grownBy w' (some r)→w'.heap.size=w.heap.size →
  (Instr.entry (.pointer (some ⟨r,0,none⟩))).run Tryz.prog w'=.ok (.tuple #[encR x,.int .i64 c]) w'→wpList Tryz.prog ops Q rest (a.put o.dst (.tuple #[.bool true,encR x,.int .i64 c])) w') :
 wpList Tryz.prog ops Q (o::rest) a w:=by
 obtain ⟨n,D,left,h1,h2,h3,h4,h5,h6,h7⟩:=h
 refine wpList_next_ranges (α:={ x:Rng // WfR x }) (β:=Int) w hg it hop 41 lawR _ (fun x=>encR x.1) (Value.int .i64) (fun key kl hk=>?_) (fun v y hv=>?_) b r n D left cnt hit h1 (fun _ hl=>hDone fun p hp=>?_) ?_
 · obtain ⟨p,e,hp⟩:=keyOfR_inv hk
   exact ⟨⟨p,hp⟩,e⟩
 · obtain ⟨c,rfl,_⟩:=plainElem_int_inv Tryz.underlying3 hv
   exact ⟨c,rfl⟩
 · obtain ⟨p',hp',rfl⟩:=List.mem_map.1 hp
   have h8:=h7 (colR p') (h4 p' hp')
   rw [hl] at h8
   have h9:=of_decide_eq_false h8.symm
   by_cases hc:colR p'∈came
   · exact hc
   · exact absurd ⟨hp,hc⟩ h9
 · rintro ⟨x,hx⟩ c kl y w' cnt' hkey hlk hv hat hrg hlt hgr hsz hen
   obtain rfl:kl=keyR x:=by
    have h8:=keyR_of hx
    rw [hkey] at h8
    injection h8
   rw [h7 x hx] at hlk
   obtain ⟨hxS,hxc⟩:=of_decide_eq_true hlk
   have hcc:c=(cntR ps x:Nat):=by
    obtain ⟨c',e1,e2,-⟩:=plainElem_int_inv Tryz.underlying3 hv
    have h10:=(hat zlit).symm.trans (h3.2.2 x hx)
    rw [e2] at h10
    injection e1 with _ e1
    injection h10 with h10
    injection h10 with _ h10
    rw [e1,h10]
   refine hMore x c w' cnt' hxS hxc hcc ⟨n,D,_,hrg,h2,h3,h4,List.nodup_append.2 ⟨h5,by simp,fun a ha b hb e=>by simp at hb;subst e;subst hb;exact hxc ha⟩,fun p hp=>?_,fun p hp=>?_⟩ hlt hgr hsz hen
   · rcases List.mem_append.1 hp with hp|hp
     · exact h6 p hp
     · simp at hp;subst hp;exact hxS
   · show (left (keyR p)&&!(keyR p).sameKey (keyR x))=_
     rw [h7 p hp]
     by_cases e:p=x
     · subst e
       rw [WideAt.sameKey_self (keyR_key hp)]
       simp
     · have hne:(keyR p).sameKey (keyR x)=false:=Maps.sameKey_ne (keyR_ne hp hx e)
       rw [hne]
       simp [e]
end
def demF (ps:List Prt) (c d:Int):Nat:=ps.countP fun p=>p.ft&&liesB p.lo p.hi c d
def demA (ps:List Prt) (c d:Int):Bool:=ps.any fun p=>liesB p.lo p.hi c d
def demV (ps:List Prt) (c d:Int):Int:=max (demF ps c d:Int) (if demA ps c d then 1 else 0)
def camF (ps:List Prt) (c d:Int) (came:List Rng):Nat:=(came.map fun x=>if liesB x.lo x.hi c d then cntR ps x else 0).sum
def camA (c d:Int) (came:List Rng):Bool:=came.any fun x=>liesB x.lo x.hi c d
theorem camF_nil (c d:Int) (came:List Rng):camF [] c d came=0:=by
 unfold camF
 induction came with
 | nil=>rfl
 | cons x came ih=>rw [List.map_cons,List.sum_cons,ih];simp [cntR]
theorem camF_cons (p:Prt) (ps:List Prt) (c d:Int):∀ came:List Rng,came.Nodup→camF (p::ps) c d came=camF ps c d came+(if colR p∈came∧p.ft=true∧liesB p.lo p.hi c d=true then 1 else 0):=by
 intro came
 induction came with
 | nil=>intro _;simp [camF]
 | cons x came ih =>
  intro hnd
  obtain ⟨hx,hnd2⟩:=List.nodup_cons.1 hnd
  have ih:=ih hnd2
  unfold camF at ih ⊢
  rw [List.map_cons,List.sum_cons,List.map_cons,List.sum_cons,ih]
  have hcn:cntR (p::ps) x=cntR ps x+(if colR p=x∧p.ft=true then 1 else 0):=by
   unfold cntR
   rw [List.countP_cons]
   by_cases h:colR p=x<;>cases hf:p.ft<;>simp [h,hf]
  rw [hcn]
  by_cases h:colR p=x
  · subst h
    have e1:liesB (colR p).lo (colR p).hi c d=liesB p.lo p.hi c d:=rfl
    rw [e1]
    cases hl:liesB p.lo p.hi c d<;>cases hf:p.ft<;>simp [hx];omega
  · have e:colR p∈x::came ↔ colR p∈came:=by simp [h]
    simp only [e,h,false_and,if_false,Nat.add_zero]
    omega
theorem cam_all {ps:List Prt} {came:List Rng} (c d:Int) (hnd:came.Nodup) (hs:∀ x∈came,x∈ps.map colR) (hall:∀ x∈ps.map colR,x∈came):camF ps c d came=demF ps c d∧camA c d came=demA ps c d:=by
 constructor
 · have go:∀ l:List Prt,(∀ x∈l.map colR,x∈came)→camF l c d came=demF l c d:=by
    intro l
    induction l with
    | nil=>intro _;rw [camF_nil];rfl
    | cons p l ih =>
     intro h
     rw [camF_cons p l c d came hnd,ih (fun x hx=>h x (by simp at hx ⊢;exact .inr hx))]
     have hm:colR p∈came:=h _ (by simp)
     unfold demF
     rw [List.countP_cons]
     cases hl:liesB p.lo p.hi c d<;>cases hf:p.ft<;>simp [hm]
   exact go ps hall
 · rw [Bool.eq_iff_iff]
   unfold camA demA
   rw [List.any_eq_true,List.any_eq_true]
   constructor
   · rintro ⟨x,hx,h⟩
     obtain ⟨p,hp,rfl⟩:=List.mem_map.1 (hs x hx)
     exact ⟨p,hp,h⟩
   · rintro ⟨p,hp,h⟩
     exact ⟨colR p,hall _ (List.mem_map.2 ⟨p,hp,rfl⟩),h⟩
theorem camF_le (c d:Int) {came:List Rng} (hnd:came.Nodup):∀ ps:List Prt,camF ps c d came≤ps.length
 | []=>by rw [camF_nil];exact Nat.le_refl _
 | p::ps=>by
  rw [camF_cons p ps c d came hnd,List.length_cons]
  have:=camF_le c d hnd ps
  split<;>omega
theorem camF_snoc (ps:List Prt) (c d:Int) (came:List Rng) (x:Rng):camF ps c d (came++[x])=camF ps c d came+(if liesB x.lo x.hi c d then cntR ps x else 0):=by
 unfold camF
 rw [List.map_append,List.sum_append]
 simp
theorem camA_snoc (c d:Int) (came:List Rng) (x:Rng):camA c d (came++[x])=(camA c d came || liesB x.lo x.hi c d):=by
 unfold camA
 rw [List.any_append]
 simp
theorem RangeR.nd {w:World} {b r:Nat} {ps:List Prt} {came:List Rng} {cnt:Nat} (h:RangeR w b r ps came cnt):came.Nodup∧∀ x∈came,x∈ps.map colR:=by
 obtain ⟨_,_,_,_,_,_,_,h1,h2,_⟩:=h
 exact ⟨h1,h2⟩
set_option maxRecDepth 100000 in
set_option maxHeartbeats 4000000 in
theorem demand_any (g:Nat) (ware:ByteArray) (lim by_:Int) (A:Option Addr) (n k:Nat) (ps:List Prt) (c d:Int) (w:World) (hv:Vw w g ware lim by_ A n k ps):Calls Tryz.prog 90 #[.pointer (some ⟨g,0,none⟩),.agg #[.int .i64 c,.int .i64 d]] w fun e w'=>e=.returned (.int .i64 (demV ps c d))∧Below w.heap.size w w':=by
 have h40:ps.length≤40:=by have h1:=hv.prt.len;have:=hv.len;omega
 go_enter Tryz.func90,Tryz.ntmps90
 obtain ⟨a3,a2⟩:=ent1 w #[.int .i64 c,.int .i64 d] 41
 have a4:=hid (Vw.keep (hv) a2.out)
 clear hv
 obtain ⟨bm,hvb,hor⟩:=(a4.out).mem
 have hc9:=Vb.map hvb
 have hvl:=(a4.out).lt
 have HOR:=hid hor;clear hvb hor
 obtain ⟨b2,b3⟩:=at2 a3
 have hrz:((w.alloc (.cells #[.int .i64 c,.int .i64 d] 41))).heap.size=w.heap.size+1:=by simp
 go_wp2_with (at_range;refine wpList_range_R _ rfl _ rfl bm ps rfl HOR.out ?_;intro w3 cnt3 hrg3 hgr3 hsz3)
 clear b2 b3
 clear hc9 hvl
 obtain ⟨rr,hrr⟩:∃ x,x=w.heap.size+1:=⟨_,rfl⟩
 simp only [World.size_alloc] at hrg3 ⊢
 rw [← hrr] at hrg3 ⊢
 have hbw:Below ((w.alloc (.cells #[.int .i64 c,.int .i64 d] 41))).heap.size ((w.alloc (.cells #[.int .i64 c,.int .i64 d] 41))) w3:=(Below.refl _ _).grown hgr3 (Nat.le_refl _) (fun k e=>by cases e)
 have a7:=hid hbw
 clear hbw hgr3
 have RG3:=hid hrg3;clear hrg3 HOR
 replace a3:=kH a3 a7
 replace a2:=bH a2 a7
 have hrr2:w.heap.size<rr:=by omega
 clear hrr hrz hsz3
 go_frame
 replace a4:=hid (Vw.keep (a4.out) a7.out)
 go_loopw [5,6] (fun s5 s6 wr=>∃ (came:List Rng) (cnt:Nat),s5=.int .i64 (camF ps c d came)∧s6=.int .i64 (if camA c d came then 1 else 0)∧RangeR wr bm rr ps came cnt∧Blk wr w.heap.size 41 #[.int .i64 c,.int .i64 d]∧Below w.heap.size w wr) (fun _ _ wr=>wr.rangeLeft bm rr)
 case atStart=>exact ⟨[],cnt3,rfl,rfl,RG3.out,a3.out,a2.out⟩
 case round =>
  clear RG3 a2 a4 a3
  obtain ⟨came,cnt,rfl,rfl,hrg,hbs,hbe⟩:=hrel
  have RG:=hid hrg;have BS_:=hid hbs;have BE:=hid hbe;clear hrg hbs hbe
  obtain ⟨oz,hoz⟩:∃ z:Int,z=(if camA c d came=true then (1:Int) else 0):=⟨_,rfl⟩
  rw [← hoz]
  have HOZ:=hid hoz;clear hoz
  go_wp2_with (at_next;refine wpList_next_R _ rfl _ rfl bm rr ps came cnt rfl RG.out ?_ ?_;rotate_left;intro x cb w4 cnt4 hxS hxc hcc hrg4 hclt hgr4 hsz4 hen;have HSZ4:=hid hsz4;clear hsz4;unfold encR at hen ⊢;have bs1:Blk w4 w.heap.size 41 #[.int .i64 c,.int .i64 d]:=(hgr4.block _ BS_.out.lt (fun e=>by cases e;omega)).trans BS_.out;have BSX:=hid (bs1.alloc (.cells #[.int .i64 x.lo,.int .i64 x.hi] 41));have BXX:=hid (Blk.new w4 41 #[.int .i64 x.lo,.int .i64 x.hi]);have q0:=Blk.nth BSX.out 0;have q1:=Blk.nth BSX.out 1;have q2:=Blk.nth BXX.out 0;have q3:=Blk.nth BXX.out 1;have HBS1:=hid bs1;have HGR4:=hid hgr4;clear bs1 hgr4;rotate_left;intro hall)
  · obtain ⟨hnd,hcs⟩:=RG.out.nd
    obtain ⟨e1,e2⟩:=cam_all c d hnd hcs hall
    have HE1:=hid e1;have HE2:=hid e2;clear e1 e2 hall hcs hnd
    obtain ⟨X,hX⟩:∃ v,max (camF ps c d came:Int) oz=v:=⟨_,rfl⟩
    have hX7:(if (camF ps c d came:Int)<oz then oz else (camF ps c d came:Int))=X:=by rw [← hX];split<;>omega
    have HX:=hid (show demV ps c d=X by unfold demV;rw [← HE1.out,← HE2.out,← HOZ.out];exact hX)
    go_wp2
    go_ret
    exact ⟨by first | (rw [HX.out];rfl) | (rw [HX.out,← hX];rfl),BE.out⟩
  · have hgr4:=HGR4.out
    have bs1:=HBS1.out
    have bel1:=BE.out.grown hgr4 BE.out.size (fun k e=>by cases e;omega)
    have HLE:=hid RG.out.left_eq
    have hcl:=camF_le c d hrg4.nd.1 ps
    have HCS:=hid (camF_snoc ps c d came x);have HCA:=hid (camA_snoc c d came x)
    have RG4:=hid hrg4;have BE4:=hid bel1;have BS4:=hid bs1;have HCC:=hid hcc;clear hrg4 bel1 bs1 hgr4 RG BE BS_ hxS hxc hcc
    have a0:=hid (BE4.out)
    have a1:=hid (BS4.out)
    clear BE4 BS4
    obtain ⟨o_,ho_⟩:∃ o,o=((.cells #[.int .i64 x.lo,.int .i64 x.hi] 41):Obj):=⟨_,rfl⟩
    replace a0:=bA a0 o_
    replace a1:=kA a1 o_
    subst ho_
    have a5:=hid (Blk.new w4 41 #[.int .i64 x.lo,.int .i64 x.hi])
    obtain ⟨a8,a9⟩:=at2 a1
    obtain ⟨b0,b1⟩:=at2 a5
    obtain ⟨lv,hlv⟩:∃ v,liesB x.lo x.hi c d=v:=⟨_,rfl⟩
    have HLV:=hid hlv;clear hlv
    have HC:=hid (lies_is x.lo x.hi c d ((w4.alloc (.cells #[.int .i64 x.lo,.int .i64 x.hi] 41))) lv HLV.out)
    go_wp2_with fail
    refine HC.out.mono ?_
    rintro e w5 ⟨rfl,hb5⟩
    clear HC
    clear a8 a9 b0 b1
    clear hen q0 q1 q2 q3 BSX BXX HBS1 HGR4
    have HB5:=hid (((Below.refl w4.heap.size w4).alloc (Nat.le_refl _) (.cells #[.int .i64 x.lo,.int .i64 x.hi] 41)).trans (hb5.mono (by rw [World.size_alloc];omega)))
    have a6:=hid hb5
    clear hb5
    have HRG5:=hid (RG4.out.keep HB5.out)
    replace a0:=bH a0 a6
    replace a1:=kH a1 a6
    replace a5:=kH a5 a6
    cases lv
    · have H1:=hid (show camF ps c d (came++[x])=camF ps c d came by rw [HCS.out,HLV.out];rfl)
      have H2:=hid (show camA c d (came++[x])=camA c d came by rw [HCA.out,HLV.out,Bool.or_false])
      go_wp2
      go_roundw
      case rel=>exact ⟨came++[x],cnt4,by rw [H1.out],by rw [H2.out,← HOZ.out],HRG5.out,a1.out,a0.out⟩
      case measure=>rw [HRG5.out.left_eq,HLE.out];exact hclt
    · have H1:=hid (show camF ps c d (came++[x])=camF ps c d came+cntR ps x by rw [HCS.out,HLV.out];rfl)
      have H2:=hid (show camA c d (came++[x])=true by rw [HCA.out,HLV.out,Bool.or_true])
      have hcb:=HCC.out
      have hcl2:=hcl
      rw [H1.out] at hcl2
      have hw9:IntKind.i64.wrap ((camF ps c d came:Int)+cb)=(camF ps c d came:Int)+cb:=by rw [IntKind.wrap_i64];omega
      clear hcb
      go_wp2
      go_roundw
      case rel=>exact ⟨came++[x],cnt4,by rw [H1.out];first|rfl | (have:=HCC.out;congr 1;omega),by rw [H2.out];rfl,HRG5.out,a1.out,a0.out⟩
      case measure=>rw [HRG5.out.left_eq,HLE.out];exact hclt
end Go.Proofs.YtokpblmgdmokoaaGreat
