import Derived.LoopNIn
import Derived.RangeFuncBound
import Derived.RangeFuncNested
import Derived.Shelf.Abstract
import Derived.Sort.CutIn
import Derived.Sort.QuietIn
import Derived.Test.YtebkniakflhhkaaGreatDoorAMem
set_option maxHeartbeats 2000000
set_option linter.unusedSimpArgs false
set_option linter.unusedVariables false
namespace Go.Proofs.YtebkniakflhhkaaGreatDoor
open Go.Lib (hid)
open Go.RowKit
attribute [local go_sem] Oper.semAt_some
def out (l:List Bnd) (x:List Int) (i:Nat):Option (Nat × Int) :=
 match l[i]? with
 | some b=>if look x b.f=Inf then none else some (i,look x b.f+b.m)
 | none=>none
def outs (l:List Bnd) (x:List Int) (k:Nat):List (Nat × Int):=(List.range k).filterMap (out l x)
theorem outs_succ (l:List Bnd) (x:List Int) (k:Nat):outs l x (k+1)=outs l x k++(out l x k).toList:=by
 unfold outs
 rw [List.range_succ,List.filterMap_append]
 cases h:out l x k<;>simp [h]
theorem outs_len (l:List Bnd) (x:List Int) (k:Nat):(outs l x k).length≤k:=by
 have:=List.length_filterMap_le (out l x) (List.range k)
 rw [List.length_range] at this
 exact this
theorem outs_prefix (l:List Bnd) (x:List Int) {k n:Nat} (h:k≤n):outs l x k <+: outs l x n:=by
 obtain ⟨d,rfl⟩:=Nat.exists_eq_add_of_le h
 clear h
 induction d with
 | zero=>exact List.prefix_refl _
 | succ d ih=>rw [show k+(d+1)=(k+d)+1 from rfl,outs_succ];exact ih.trans (List.prefix_append _ _)
abbrev Yl (l:List Bnd):={ q:Nat × Int // q.1<l.length∧-1000000000000≤q.2∧q.2≤1000000000000 }
def encY {l:List Bnd} (q:Yl l):Array Value:=#[.int .i64 (q.1.1:Int),.int .i64 q.1.2]
def KeepT (n₀ Bg Bx:Nat) (W W':World):Prop:=Below n₀ W W'∧W'.heap[Bg]?=W.heap[Bg]?∧W'.heap[Bx]?=W.heap[Bx]?
theorem KeepT.refl (n₀ Bg Bx:Nat) (W:World):KeepT n₀ Bg Bx W W:=⟨Below.refl _ _,rfl,rfl⟩
theorem KeepT.trans {n₀ Bg Bx:Nat} {A B C:World} (h:KeepT n₀ Bg Bx A B) (k:KeepT n₀ Bg Bx B C):KeepT n₀ Bg Bx A C :=
 ⟨h.1.trans k.1,k.2.1.trans h.2.1,k.2.2.trans h.2.2⟩
theorem KeepT.alloc {n₀ Bg Bx:Nat} {W:World} (o:Obj) (h:n₀≤W.heap.size) (hg:Bg<W.heap.size) (hx:Bx<W.heap.size):KeepT n₀ Bg Bx W (W.alloc o) :=
 ⟨(Below.refl _ _).alloc h _,Below.heap_alloc _ _ _ hg,Below.heap_alloc _ _ _ hx⟩
theorem keepT_b {n₀ Bg Bx:Nat} {w:World} (hn:n₀≤w.heap.size) (hg:Bg<w.heap.size) (hx:Bx<w.heap.size) (W:World) (k:Nat) (o o':Obj) (hl:w.heap.size≤k) (h:W.heap[k]?=some o) (h1:o.isCells=false) (h2:o.isWalk=false):KeepT n₀ Bg Bx W (W.putObj k o') :=
 ⟨belowK_b hn W k o o' hl h h1 h2,World.putObj_heap_other (by omega),World.putObj_heap_other (by omega)⟩
set_option maxRecDepth 100000 in
theorem onward1_in (nn:Nat) (hn:1≤nn) (lp n₀ Bg Bx n c:Nat) (p:Int) (A:Option Addr) (l:List Bnd) (x:List Int)
 (hn400:n≤402) (hx60:x.length=60) (hok:∀ b∈l,0≤b.f∧b.f<60∧-100000000≤b.m∧b.m≤100000000) (hxv:∀ i,i<60→at_ x i=Inf∨(-900000000000≤at_ x i∧at_ x i≤900000000000))
 (J Jx:List (Yl l)→World→Prop) (w₀:World) (hn₀:n₀=w₀.heap.size) (hr:RdB w₀ A n c l)
 (hY:∀ pre q W,J pre W→pre.length<l.length→YieldAt Fence.wide (nn-1) Tryz.prog lp (encY q) W fun e W' =>
  (e=.returned (.bool true)∧J (pre++[q]) W'∧KeepT n₀ Bg Bx W W')∨(e=.returned (.bool false)∧Jx (pre++[q]) W'))
 (W:World) (hJa:AbidesFrom W.heap.size J) (hW:Below n₀ w₀ W) (hg:Blk W Bg 133 #[.int .i64 p,.slice A n c]) (hbx:Blk W Bx 196 (arr x)) (h0:J [] W) :
 CallsIn Fence.wide nn Tryz.prog 169 #[.func (.yield lp) #[] #[],.pointer (some ⟨Bg,0,none⟩),.pointer (some ⟨Bx,0,none⟩)] W fun e W'=>(∃ v,e=.returned v) ∧
  ((∃ ys,ys.map (·.1)=outs l x l.length∧J ys W')∨(∃ pre,pre.map (·.1) <+: outs l x l.length∧Jx pre W')):=by
 have HR:=hid hr;clear hr
 have HL:=hid HR.out.len
 have HOK:=hid hok;clear hok
 have HXV:=hid hxv;clear hxv
 have HX60:=hid hx60;clear hx60
 have HN0:=hid hn₀;clear hn₀
 have HJ:=hid hJa;clear hJa
 have HG:=hid hg;clear hg
 have HBX:=hid hbx;clear hbx
 have hg1:W.cell? ⟨Bg,1,none⟩=some (.slice A n c):=HG.out.cell 1
 refine callsIn_of_wp Tryz.func169 rfl trivial ?_ rfl
 simp only [Tryz.ntmps169,List.size_toArray,List.length_cons,List.length_nil,Nat.reduceAdd,Nat.reduceSub,Array.replicate_succ,Array.replicate_zero,List.push_toArray,List.append_toArray,List.nil_append,List.cons_append]
 gi_wp2
 gi_loopw [9] (fun i wr=>∃ k:Nat,k≤n∧i=.int .i64 k∧(∃ ys:List (Yl l),ys.map (·.1)=outs l x k∧J ys wr)∧KeepT n₀ Bg Bx W wr)
  (fun i _=>n-(intOf i).toNat)
 case atStart=>exact ⟨0,Nat.zero_le _,rfl,⟨[],rfl,h0⟩,KeepT.refl _ _ _ _⟩
 case round =>
  obtain ⟨k,hk,rfl,⟨ys,hys,hJs⟩,hkp⟩:=hrel
  have HYS:=hid hys;clear hys
  by_cases hlt:k<n
  · have hB:=hkp.1
    have hlt':(k:Int)<n:=by omega
    obtain ⟨b,o,f,t,m,i,rfl,hbw,hx,c0,c1,c2,c3⟩:=(HR.out.below ((hW.trans hB).mono (by rw [HN0.out];exact Nat.le_refl _))).get hlt
    have HX:=hid hx;clear hx
    obtain ⟨hf0,hf1,hm0,hm1⟩:=HOK.out _ (List.mem_of_getElem? HX.out)
    obtain ⟨f,rfl⟩:=Int.eq_ofNat_of_zero_le hf0
    have hfl:f<60:=by have h1:(f:Int)<60:=hf1;omega
    have hm0:-100000000≤m:=hm0
    have hm1:m≤100000000:=hm1
    have hbx1:Blk wr Bx 196 (arr x):=hkp.2.2.trans HBX.out
    have cx:wr.cell? ⟨Bx,f,none⟩=some (.int .i64 (at_ x f)):=by rw [hbx1.cell];exact arr_get x f (by rw [HX60.out];exact hfl)
    have hgl:=hkp.2.1.trans HG.out
    have hbg1:Blk wr Bg 133 _:=hgl
    have zg:=hbg1.lt
    have zx:=hbx1.lt
    have hxf:=HXV.out f hfl
    obtain ⟨v,hv⟩:∃ v,at_ x f=v:=⟨_,rfl⟩
    rw [hv] at cx hxf
    have HV:=hid (show look x (f:Int)=v from hv);clear hv
    clear hbx1 hbg1 hgl
    have hn0w:n₀≤wr.heap.size:=by have h1:=(hW.trans hB).size;rw [HN0.out];exact h1
    have hJal:∀ q,J ys ((wr.alloc (.cells #[.int .i64 (f:Int),.int .i64 t,.int .i64 m,.int .i64 i] 50)).drewN q):=fun q =>
     HJ.out ys wr _ none hJs ⟨rfl,rfl,rfl,by show wr.heap.size≤(wr.alloc _).heap.size;simp,fun g hg _=>Below.heap_alloc wr _ g hg⟩ (fun r e=>by cases e)
    have HJL:=hid hJal;clear hJal
    by_cases hI:v=Inf
    · subst hI
      unfold Inf at cx
      have hk3:∀ q,KeepT n₀ Bg Bx wr ((wr.alloc (.cells #[.int .i64 (f:Int),.int .i64 t,.int .i64 m,.int .i64 i] 50)).drewN q):=fun q=>by
       have:=KeepT.alloc (n₀:=n₀) (Bg:=Bg) (Bx:=Bx) (W:=wr) (.cells #[.int .i64 (f:Int),.int .i64 t,.int .i64 m,.int .i64 i] 50) hn0w zg zx
       exact ⟨⟨this.1.os,this.1.tape,this.1.output,this.1.size,this.1.block⟩,this.2.1,this.2.2⟩
      have hJ3:∀ q,J ys ((wr.alloc (.cells #[.int .i64 (f:Int),.int .i64 t,.int .i64 m,.int .i64 i] 50)).drewN q):=fun q=>HJL.out q
      have HK3:=hid hk3;clear hk3
      have HJ3:=hid hJ3;clear hJ3
      gi_wp2
      refine wpIn_region_quiet_lit rfl (by kernel_rfl) (by kernel_rfl) ?_
      repeat (gi_big_quiet_step (fail))
      refine BigFrame.wpQuietIn_skip (fun _ _ _ _=>trivial) rfl ?_
      simp only [Act.put,List.setIfInBounds_toArray,List.set_cons_succ,List.set_cons_zero]
      repeat (gi_big_quiet_step (fail))
      refine wpQuietIn_nil ?_
      intro _ hw'
      obtain ⟨nq,hw''⟩:=hw'
      subst hw''
      gi_wp2
      go_roundw
      case rel=>exact ⟨k+1,by omega,by go_num,⟨ys,by rw [outs_succ,HYS.out];unfold out;rw [HX.out];simp only;rw [if_pos HV.out];simp,HJ3.out _⟩,hkp.trans (HK3.out _)⟩
      case measure=>simp [intOf];omega
    · have hne:(v != 9223372036854775807)=true:=by simpa [Inf] using hI
      have hvr:-900000000000≤v∧v≤900000000000:=hxf.resolve_left hI
      obtain ⟨hv0,hv1⟩:=hvr
      clear hxf
      have hkl:k<l.length:=by rw [HL.out];exact hlt
      have hJ2:J ys (wr.alloc (.cells #[.int .i64 (f:Int),.int .i64 t,.int .i64 m,.int .i64 i] 50)).drew:=HJL.out 1
      have hlo:-1000000000000≤v+m:=by omega
      have hhi:v+m≤1000000000000:=by omega
      obtain ⟨q,hq⟩:∃ q:Yl l,q.1=(k,v+m):=⟨⟨(k,v+m),hkl,hlo,hhi⟩,rfl⟩
      have hlen:ys.length<l.length:=by
       have h1:=congrArg List.length HYS.out
       rw [List.length_map] at h1
       have h2:=outs_len l x k
       omega
      obtain ⟨fn,tmps,assign,body,hy,hR⟩:=hY ys q _ hJ2 hlen
      have hy:(Instr.yield lp #[.int .i64 (k:Int),.int .i64 (v+m)]).run Tryz.prog (wr.alloc (.cells #[.int .i64 (f:Int),.int .i64 t,.int .i64 m,.int .i64 i] 50)).drew=.ok (.round lp fn tmps assign body) (wr.alloc (.cells #[.int .i64 (f:Int),.int .i64 t,.int .i64 m,.int .i64 i] 50)).drew:=by
       unfold encY at hy;rw [hq] at hy;exact hy
      have hout:outs l x (k+1)=(ys++[q]).map (·.1):=by
       rw [outs_succ,List.map_append,HYS.out,List.map_cons,List.map_nil,hq]
       unfold out
       rw [HX.out]
       simp only
       rw [if_neg (by rw [HV.out];exact hI),HV.out]
       simp
      have HOUT:=hid hout;clear hout
      clear hq
      have hwr:IntKind.i64.wrap (v+m)=v+m:=IntWalk.i64_in _ (by omega)
      have hR2:=hR.mono (R':=fun e W'=>∃ bv:Bool,e=.returned (.bool bv)∧Hid ((bv=true∧J (ys++[q]) W'∧KeepT n₀ Bg Bx (wr.alloc (.cells #[.int .i64 (f:Int),.int .i64 t,.int .i64 m,.int .i64 i] 50)).drew W')∨(bv=false∧Jx (ys++[q]) W')))
       (fun e W' h=>h.elim (fun ⟨h1,h2⟩=>⟨true,h1,.inl ⟨rfl,h2⟩⟩) (fun ⟨h1,h2⟩=>⟨false,h1,.inr ⟨rfl,h2⟩⟩))
      clear hR hY
      have hk3:KeepT n₀ Bg Bx wr (wr.alloc (.cells #[.int .i64 (f:Int),.int .i64 t,.int .i64 m,.int .i64 i] 50)).drew:=by
       have:=KeepT.alloc (n₀:=n₀) (Bg:=Bg) (Bx:=Bx) (W:=wr) (.cells #[.int .i64 (f:Int),.int .i64 t,.int .i64 m,.int .i64 i] 50) hn0w zg zx
       exact ⟨⟨this.1.os,this.1.tape,this.1.output,this.1.size,this.1.block⟩,this.2.1,this.2.2⟩
      have HK3:=hid hk3;clear hk3
      gi_wp2
      gi_region_with (refine hR2.mono ?_;rintro e W3 ⟨bv,rfl,hbv⟩)
      all_goals
       rcases hbv with ⟨rfl,hJ3,hk4⟩|⟨rfl,hJx3⟩
       · gi_wp2
         go_roundw
         case rel=>exact ⟨k+1,by omega,by go_num,⟨ys++[q],HOUT.out.symm,hJ3⟩,hkp.trans (HK3.out.trans hk4)⟩
         case measure=>simp [intOf];omega
       · gi_wp2
         refine bodyPost_ret (results_none rfl _ _ _) rfl ?_
         exact ⟨⟨_,rfl⟩,.inr ⟨ys++[q],by rw [← HOUT.out];exact outs_prefix l x (by omega),hJx3⟩⟩
  · obtain rfl:k=n:=by omega
    gi_wp2
    go_end0
    exact ⟨⟨_,rfl⟩,.inl ⟨ys,by rw [HYS.out,HL.out],hJs⟩⟩
end Go.Proofs.YtebkniakflhhkaaGreatDoor
/- onward and longer of gauge: one round of sums. -/
namespace Go.Proofs.YtebkniakflhhkaaGreatDoor
open Go.Lib (hid)
open Go.RowKit Go.Shelf
attribute [local go_sem] Oper.semAt_some
theorem onward_in (nn:Nat) (p:Int) (A:Option Addr) (n c:Nat) (x:List Int) (w:World) :
 CallsIn Fence.wide nn Tryz.prog 160 #[.agg #[.int .i64 p,.slice A n c],.agg (arr x)] w fun e w' =>
  e=.returned (.func (.func 169) #[] #[.pointer (some ⟨w.heap.size,0,none⟩),.pointer (some ⟨w.heap.size+1,0,none⟩)]) ∧
  w'=(w.alloc (.cells #[.int .i64 p,.slice A n c] 133)).alloc (.cells (arr x) 196):=by
 refine callsIn_of_wp Tryz.func160 rfl trivial ?_ rfl
 simp only [Tryz.ntmps160,List.size_toArray,List.length_cons,List.length_nil,Nat.reduceAdd,Nat.reduceSub,Array.replicate_succ,Array.replicate_zero,List.push_toArray,List.append_toArray,List.nil_append,List.cons_append]
 gi_wp2
 go_ret
 exact ⟨rfl,rfl⟩
theorem onward_stops (nn:Nat) (hn:1≤nn) (Bg Bx n c:Nat) (p:Int) (A:Option Addr) (l:List Bnd) (x:List Int)
 (hn400:n≤402) (hx60:x.length=60) (hok:∀ b∈l,0≤b.f∧b.f<60∧-100000000≤b.m∧b.m≤100000000) (hxv:∀ i,i<60→at_ x i=Inf∨(-900000000000≤at_ x i∧at_ x i≤900000000000))
 (w₀ w:World) (hr:RdB w₀ A n c l) (hW:Below w₀.heap.size w₀ w) (hg:Blk w Bg 133 #[.int .i64 p,.slice A n c]) (hbx:Blk w Bx 196 (arr x)) :
 SeqStopsK Fence.wide nn Tryz.prog 169 #[.pointer (some ⟨Bg,0,none⟩),.pointer (some ⟨Bx,0,none⟩)] (encY (l:=l)) (KeepT w₀.heap.size Bg Bx)
  (fun ys=>ys.map (·.1)=outs l x l.length) (fun pre=>pre.map (·.1) <+: outs l x l.length) l.length w:=fun lp J Jx W hWw hJ _ hY h0 =>
 onward1_in nn hn lp w₀.heap.size Bg Bx n c p A l x hn400 hx60 hok hxv J Jx w₀ rfl hr hY W hJ (hW.trans (hWw.mono hW.size)) (hg.keep hWw) (hbx.keep hWw) h0
def foldQ (l:List Bnd) (y:List Int) (qs:List (Nat × Int)):List Int :=
 qs.foldl (fun y q=>match l[q.1]? with|some b=>y.set b.t.toNat (min (look y b.t) q.2)|none=>y) y
theorem foldQ_snoc (l:List Bnd) (y:List Int) (qs:List (Nat × Int)) (k:Nat) (s:Int) {b:Bnd} (h:l[k]?=some b) :
 foldQ l y (qs++[(k,s)])=(foldQ l y qs).set b.t.toNat (min (look (foldQ l y qs) b.t) s):=by
 unfold foldQ
 rw [List.foldl_append]
 simp only [List.foldl_cons,List.foldl_nil,h]
theorem foldQ_length (l:List Bnd):∀ (qs:List (Nat × Int)) (y:List Int),(foldQ l y qs).length=y.length
 | [],_=>rfl
 | q::qs,y=>by
  unfold foldQ
  rw [List.foldl_cons]
  have:=foldQ_length l qs
  unfold foldQ at this
  rw [this]
  split<;>simp
theorem foldQ_outs (l:List Bnd) (x:List Int):∀ k,k≤l.length→foldQ l x (outs l x k)=(l.take k).foldl (relax x) x
 | 0,_=>by simp [outs,foldQ]
 | k+1,h=>by
  have ih:=foldQ_outs l x k (by omega)
  have hk:l[k]?=some l[k]:=List.getElem?_eq_getElem (by omega)
  rw [outs_succ,List.take_add_one,List.foldl_append,← ih,hk]
  unfold out
  rw [hk]
  simp only [Option.toList,List.foldl_cons,List.foldl_nil]
  by_cases hI:look x l[k].f=Inf
  · rw [if_pos hI]
    simp only [List.append_nil]
    unfold relax
    rw [if_pos hI]
  · rw [if_neg hI]
    simp only
    rw [foldQ_snoc _ _ _ _ _ hk]
    unfold relax
    rw [if_neg hI]
theorem foldQ_all (l:List Bnd) (x:List Int) {qs:List (Nat × Int)} (h:qs=outs l x l.length):foldQ l x qs=longer l x:=by
 rw [h,foldQ_outs l x _ (Nat.le_refl _),List.take_length]
 rfl
theorem blk_own {X Y:World} {row:Option Nat} {g:Nat} {t:TypeId} {cs:Array Value} (h:Blk X g t cs) (hg:X.grownBy Y row) (hr:∀ r,row=some r→∃ o:Obj,X.heap[r]?=some o∧o.isCells=false):Blk Y g t cs:=by
 refine (hg.block g h.lt (fun e=>?_)).trans h
 obtain ⟨o,ho,hc⟩:=hr g e.symm
 unfold Blk at h
 rw [h] at ho
 injection ho with ho
 subst ho
 cases hc
set_option maxRecDepth 100000 in
theorem longer_in (p:Int) (A:Option Addr) (n c:Nat) (l:List Bnd) (x:List Int) (hx:x.length=60)
 (hn400:n≤402) (hok:∀ b∈l,0≤b.f∧b.f<60∧0≤b.t∧b.t<60∧-100000000≤b.m∧b.m≤100000000) (hxv:∀ i,i<60→at_ x i=Inf∨(-900000000000≤at_ x i∧at_ x i≤900000000000))
 (w:World) (hr:RdB w A n c l) :
 CallsIn Fence.wide 5 Tryz.prog 139 #[.agg #[.int .i64 p,.slice A n c],.agg (arr x)] w fun e w'=>e=.returned (.agg (arr (longer l x)))∧Below w.heap.size w w':=by
 have HX:=hid hx;clear hx
 have HR:=hid hr;clear hr
 have HOK:=hid hok;clear hok
 have HXV:=hid hxv;clear hxv
 have b1:=Blk.new (w.alloc (.cells #[.int .i64 p,.slice A n c] 133)) 196 (arr x)
 rw [World.size_alloc] at b1
 have b2:=b1.alloc (.cells (arr zeros) 196)
 have b3:=b2.alloc (.cells (arr zeros) 196)
 have b4:=Blk.new (((w.alloc (.cells #[.int .i64 p,.slice A n c] 133)).alloc (.cells (arr x) 196)).alloc (.cells (arr zeros) 196)) 196 (arr zeros)
 simp only [World.size_alloc] at b4
 have b5:=(Blk.new ((w.alloc (.cells #[.int .i64 p,.slice A n c] 133)).alloc (.cells (arr x) 196)) 196 (arr zeros)).alloc (.cells (arr zeros) 196)
 simp only [World.size_alloc] at b5
 have b6:=(((Blk.new w 133 #[.int .i64 p,.slice A n c]).alloc (.cells (arr x) 196)).alloc (.cells (arr zeros) 196)).alloc (.cells (arr zeros) 196)
 have B2:=hid b2;have B3:=hid b3;have B4:=hid b4;have B5:=hid b5;have B6:=hid b6;clear b1 b2 b3 b4 b5 b6
 refine callsIn_of_wp_marks Tryz.func139 rfl trivial ?_ rfl
 simp only [Tryz.ntmps139,List.size_toArray,List.length_cons,List.length_nil,Nat.reduceAdd,Nat.reduceSub,Array.replicate_succ,Array.replicate_zero,List.push_toArray,List.append_toArray,List.nil_append,List.cons_append]
 gi_upto_region 2 with (first | (refine wpListIn_alloc_row rfl 196 rfl (arr zeros) zero_sums.1 ?_;simp only [World.size_alloc]) | (refine wpListIn_load_row rfl 196 (.tmp 3) rfl _ rfl _ (arr x) (0,0) _ B2.out Tryz.underlying196 rfl (size_sums HX.out) ?_) | (refine wpListIn_store_row rfl 196 (.tmp 5) (.tmp 9) rfl _ (arr x) rfl rfl _ _ B4.out (size_sums HX.out) (by rw [arr_size,arr_size,HX.out,zeros_length]) (arr_one x) ?_))
 have c3:=B4.out.row (arr x)
 have c1:=B3.out.rowFar (g':=w.heap.size+1+1+1) (by omega) (arr x)
 have c2:=B5.out.rowFar (g':=w.heap.size+1+1+1) (by omega) (arr x)
 have c0:=B6.out.rowFar (g':=w.heap.size+1+1+1) (by omega) (arr x)
 have hB0:Below w.heap.size w (((((w.alloc (.cells #[.int .i64 p,.slice A n c] 133)).alloc (.cells (arr x) 196)).alloc (.cells (arr zeros) 196)).alloc (.cells (arr zeros) 196)).setRow (w.heap.size+1+1+1) (arr x)) :=
  below_setRow (((((Below.refl _ w).alloc (Nat.le_refl _) _).alloc (by simp) _).alloc (by simp;omega) _).alloc (by simp;omega) _) (by omega) _
 have hsz:(((((w.alloc (.cells #[.int .i64 p,.slice A n c] 133)).alloc (.cells (arr x) 196)).alloc (.cells (arr zeros) 196)).alloc (.cells (arr zeros) 196)).setRow (w.heap.size+1+1+1) (arr x)).heap.size=w.heap.size+4:=by simp
 generalize (((((w.alloc (.cells #[.int .i64 p,.slice A n c] 133)).alloc (.cells (arr x) 196)).alloc (.cells (arr zeros) 196)).alloc (.cells (arr zeros) 196)).setRow (w.heap.size+1+1+1) (arr x))=W0 at *
 clear B2 B3 B4 B5 B6
 have k0:W0.cell? ⟨w.heap.size,0,none⟩=some (.int .i64 p):=c0.cell 0
 have k1:W0.cell? ⟨w.heap.size,1,none⟩=some (.slice A n c):=c0.cell 1
 have C0:=hid c0;have C1:=hid c1;have C2:=hid c2;have C3:=hid c3;clear c0 c1 c2 c3
 have HSZ:=hid hsz;clear hsz
 have hlt0:w.heap.size+3<W0.heap.size:=by have:=HSZ.out;omega
 gi_wp2_with (first | (refine wpListIn_load_row rfl 196 (.tmp 3) rfl _ rfl _ (arr x) (0,0) _ C1.out Tryz.underlying196 rfl (size_sums HX.out) ?_) | (refine ⟨trivial,?_⟩;gi_at_call 160;refine (onward_in _ _ _ _ _ _ _).mono ?_;rintro e w' ⟨rfl,rfl⟩))
 have d0:=Blk.new W0 133 #[.int .i64 p,.slice A n c]
 have d1:=d0.alloc (.cells (arr x) 196)
 have d2:=Blk.new (W0.alloc (.cells #[.int .i64 p,.slice A n c] 133)) 196 (arr x)
 simp only [World.size_alloc] at d2
 have hB1:Below w.heap.size w ((W0.alloc (.cells #[.int .i64 p,.slice A n c] 133)).alloc (.cells (arr x) 196)):=(hB0.alloc (by omega) _).alloc (by simp;omega) _
 have hsz1:((W0.alloc (.cells #[.int .i64 p,.slice A n c] 133)).alloc (.cells (arr x) 196)).heap.size=w.heap.size+6:=by simp [HSZ.out]
 refine wpIn_rangeFunc_ownG rfl (by omega) (gf:=169) (lb:=#[.pointer (some ⟨W0.heap.size,0,none⟩),.pointer (some ⟨W0.heap.size+1,0,none⟩)]) rfl trivial (enters_of Tryz.func169 (by kernel_rfl) rfl)
  (onward_stops (5-1) (by omega) W0.heap.size (W0.heap.size+1) n c p A l x hn400 HX.out (fun b hb=>⟨(HOK.out b hb).1,(HOK.out b hb).2.1,(HOK.out b hb).2.2.2.2.1,(HOK.out b hb).2.2.2.2.2⟩) HXV.out w _ HR.out hB1 d1 d2)
  KeepT.trans (keepT_b (by rw [hsz1];omega) (by rw [hsz1,HSZ.out];omega) (by rw [hsz1,HSZ.out];omega)) (Below.refl _ _) (fun _=>rfl)
  (fun pre W=>(Blk W (w.heap.size+3) 196 (arr (foldQ l x (pre.map (·.1))))∧Blk W (w.heap.size+2) 196 (arr zeros)∧Blk W w.heap.size 133 #[.int .i64 p,.slice A n c])∧Below w.heap.size w W)
  (fun _ _ _=>False)
  (OwnFrom.and (Own.from (fun s X Y row hs hg hr=>⟨blk_own hs.1 hg hr,blk_own hs.2.1 hg hr,blk_own hs.2.2 hg hr⟩) _) (ownFrom_below (Nat.le_refl _) (by omega)))
  (fun _ _ _ _ _ hs _ _=>hs)
  ⟨⟨(C3.out.alloc _).alloc _,(C2.out.alloc _).alloc _,(C0.out.alloc _).alloc _⟩,hB1⟩
  (fun q=>{ tmps:=#[.agg #[.int .i64 p,.slice A n c],.agg (arr x),.pointer (some ⟨w.heap.size,0,none⟩),.pointer (some ⟨w.heap.size+1,0,none⟩),.pointer (some ⟨w.heap.size+1+1,0,none⟩),.pointer (some ⟨w.heap.size+1+1+1,0,none⟩),
   .int .i64 (q.1.1:Int),.int .i64 q.1.2,undef,.agg (arr x),.agg #[.int .i64 p,.slice A n c],.agg (arr x),.func (.func 169) #[] #[.pointer (some ⟨W0.heap.size,0,none⟩),.pointer (some ⟨W0.heap.size+1,0,none⟩)],
   .int .i64 (q.1.1:Int),.int .i64 q.1.2,undef,undef,undef,undef,undef,undef,undef,undef,undef,undef,undef,undef,undef,undef],defers:=[] }) ?assign ?body ?done ?stop
 case assign =>
  intro lp q W K hK
  dsimp only [encY]
  gi_wp2
  exact hK
 case body =>
  rintro lp pre q W ⟨⟨e3,e2,e0⟩,hB⟩ hlen
  have hqn:q.1.1<n:=by have:=HR.out.len;have:=q.2.1;omega
  obtain ⟨b,o,f,t,m,i,hA,hbw,hxx,r0,r1,r2,r3⟩:=(HR.out.below hB).get hqn
  subst hA
  have HXX:=hid hxx;clear hxx
  obtain ⟨-,-,ht0,ht1,-,-⟩:=HOK.out _ (List.mem_of_getElem? HXX.out)
  obtain ⟨t,rfl⟩:=Int.eq_ofNat_of_zero_le ht0
  have htl:t<60:=by have h1:(t:Int)<60:=ht1;omega
  obtain ⟨y,hy⟩:∃ y,foldQ l x (pre.map (·.1))=y:=⟨_,rfl⟩
  rw [hy] at e3
  have hyl:y.length=60:=by rw [← hy,foldQ_length,HX.out]
  have HY:=hid hy;clear hy
  have u0:W.cell? ⟨w.heap.size,1,none⟩=some (.slice (some ⟨b,o,none⟩) n c):=e0.cell 1
  have u3:W.cell? ⟨w.heap.size+1+1+1,t,none⟩=some (.int .i64 (at_ y t)):=by rw [show w.heap.size+1+1+1=w.heap.size+3 from rfl,e3.cell];exact arr_get y t (by rw [hyl];exact htl)
  have u4:W.frozen? ⟨w.heap.size+1+1+1,t,none⟩=false:=e3.frozen t
  have E3:=hid e3;have E2:=hid e2;have E0:=hid e0;clear e3 e2 e0
  have HYL:=hid hyl;clear hyl
  obtain ⟨v,hv⟩:∃ v,at_ y t=v:=⟨_,rfl⟩
  rw [hv] at u3
  have HV:=hid hv;clear hv
  have key:∀ u,u=min v q.1.2→ownPostG (w.heap.size+6) (KeepT w.heap.size W0.heap.size (W0.heap.size+1))
   (fun pre W=>(Blk W (w.heap.size+3) 196 (arr (foldQ l x (pre.map (·.1))))∧Blk W (w.heap.size+2) 196 (arr zeros)∧Blk W w.heap.size 133 #[.int .i64 p,.slice (some ⟨b,o,none⟩) n c])∧Below w.heap.size w W)
   (fun _ _ _=>False) (pre++[q]) W Exit.normal { tmps:=#[],defers:=[] } (W.setCell ⟨w.heap.size+1+1+1,t,none⟩ (.int .i64 u)):=by
   intro u hu
   have hs0:=HSZ.out
   refine ⟨(KeepsOthers.setCell _ _ _).from _,⟨(Below.refl _ W).setCell (p:=⟨w.heap.size+1+1+1,t,none⟩) (by simp;omega) _,heap_setCell_other _ _ _ _ (by simp;omega),heap_setCell_other _ _ _ _ (by simp;omega)⟩,⟨?_,E2.out.far (by simp) _,E0.out.far (by simp;omega) _⟩,hB.setCell (p:=⟨w.heap.size+1+1+1,t,none⟩) (by simp;omega) _⟩
   have h1:=E3.out.set_ t (.int .i64 u)
   rw [arr_set] at h1
   rw [List.map_append,List.map_cons,List.map_nil,show q.1=(q.1.1,q.1.2) from rfl,foldQ_snoc l x _ q.1.1 q.1.2 HXX.out,HY.out]
   have h2:min (look y (t:Int)) q.1.2=u:=by rw [hu,← HV.out];rfl
   show Blk _ _ _ (arr (y.set ((t:Int)).toNat (min (look y (t:Int)) q.1.2)))
   rw [h2]
   exact h1
  have KEY:=hid key;clear key
  gi_wp2
  all_goals exact KEY.out _ (by omega)
 case done =>
  rintro D ys W hD hS ⟨⟨e3,e2,e0⟩,hB⟩ hK
  rw [foldQ_all l x hS] at e3
  have hll:(longer l x).length=60:=by rw [longer_length,HX.out]
  have E3:=hid e3;have E2:=hid e2;clear e3 e2 e0
  have HLL:=hid hll;clear hll
  have HK:=hid hK;clear hK
  gi_wp2_with (first | (refine wpListIn_load_row rfl 196 (.tmp 5) rfl _ rfl _ (arr (longer l x)) (0,0) _ E3.out Tryz.underlying196 rfl (size_sums HLL.out) ?_) | (refine wpListIn_store_row rfl 196 (.tmp 4) (.tmp 28) rfl _ (arr (longer l x)) rfl rfl _ _ E2.out (size_sums HLL.out) (by rw [arr_size,arr_size,HLL.out,zeros_length]) (arr_one _) ?_))
  have hK':(W.setRow (w.heap.size+2) (arr (longer l x))).heap[D]?=some (.deferred (some [])):=(setRow_other _ _ _ _ (by rw [hsz1] at hD;omega)).trans HK.out
  refine ⟨by simp,.inl ⟨_,_,rfl,run_takeDeferred hK',?_⟩⟩
  have h4:=E2.out.row (arr (longer l x))
  refine ⟨_,results_cell_row rfl _ _ (w.heap.size+2) 196 (arr (longer l x)) (0,0) _ rfl ((World.putObj_heap_other (by rw [hsz1] at hD;omega)).trans h4) Tryz.underlying196 rfl (size_sums HLL.out),rfl,?_⟩
  exact (below_setRow hB (by omega) _).trans (belowK_b (w:=w) (Nat.le_refl _) _ D _ _ (by rw [hsz1] at hD;omega) hK' rfl rfl)
 case stop =>
  rintro D c pre W _ _ h _
  exact h.elim
theorem longer_any (p:Int) (A:Option Addr) (n c:Nat) (l:List Bnd) (x:List Int) (hx:x.length=60)
 (hn400:n≤402) (hok:∀ b∈l,0≤b.f∧b.f<60∧0≤b.t∧b.t<60∧-100000000≤b.m∧b.m≤100000000) (hxv:∀ i,i<60→at_ x i=Inf∨(-900000000000≤at_ x i∧at_ x i≤900000000000))
 (w:World) (hr:RdB w A n c l) :
 Calls Tryz.prog 139 #[.agg #[.int .i64 p,.slice A n c],.agg (arr x)] w fun e w'=>e=.returned (.agg (arr (longer l x)))∧Below w.heap.size w w' :=
 callsIn_wide.1 (longer_in p A n c l x hx hn400 hok hxv w hr)
end Go.Proofs.YtebkniakflhhkaaGreatDoor
