import Derived.Test.YtokpblmgdmokoaaGreatAVCat
import Derived.Shelf.SlSortCmp.Insertion
import Derived.Shelf.Small.Wraps
import Derived.Test.YtokpblmgdmokoaaGreatAVOwn
import Derived.Test.YtokpblmgdmokoaaGreatAVTake
set_option maxHeartbeats 4000000
set_option linter.unusedSimpArgs false
set_option linter.unusedVariables false
namespace Go.Proofs.YtokpblmgdmokoaaGreat
open Go.RowKit Go.Maps Go.Sort Go.Lib
theorem ownI_shrink {w:World} {base g n k:Nat} {l:List Int} (h:OwnI w base (some ⟨g,0,none⟩) n k l) (r:Nat) (hr:r≤n):OwnI w base (some ⟨g,0,none⟩) r k (l.take r):=by
 obtain ⟨h1,h2⟩:=h
 rcases h2 with ⟨h0,_⟩|⟨g',cap,cur,hv,hg,hh,hn,hm,hs,ht⟩
 · cases h0
 · refine ⟨by simp at h1 ⊢;omega,.inr ⟨g',cap,cur,?_,hg,hh,by omega,hm,hs,?_⟩⟩
   · injection hv with a1 a2 a3
     rw [a1,a3]
   · rw [Nat.mul_one] at ht ⊢
     rw [List.map_take,← ht,List.take_take,Nat.min_eq_left hr]
theorem ownI_blk {w:World} {base g o n k:Nat} {l:List Int} (h:OwnI w base (some ⟨g,o,none⟩) n k l):o=0∧l.length=n∧n≤k∧k≤maxLen∧base≤g∧g<w.heap.size∧∃ cur,w.heap[g]?=some (.cells cur 3 (0,0))∧cur.size=k * 1∧cur.toList.take l.length=l.map (Value.int .i64):=by
 obtain ⟨h1,h2⟩:=h
 rcases h2 with ⟨h0,_⟩|⟨g',cap,cur,hv,hg,hh,hn,hm,hs,ht⟩
 · cases h0
 · injection hv with a1 a2 a3
   injection a1 with a1
   injection a1 with b1 b2
   subst b1 b2 a3
   have hl:l.length=n:=by simpa using h1
   rw [Nat.mul_one] at ht
   exact ⟨rfl,hl,hn,hm,hg,(Array.getElem?_eq_some_iff.1 hh).1,cur,hh,hs,by rw [hl];exact ht⟩
theorem sortI_any {w:World} {base n k:Nat} {R:Option Addr} {l:List Int} (h:OwnI w base R n k l) (hb:base≤w.heap.size) (hsm:n≤100000) :
 Calls Tryz.prog 112 #[.slice R n k] w fun e w'=>e=.returned (.tuple #[])∧OwnI w' base R n k (l.mergeSort fun x y=>decide (x≤y))∧Below base w w':=by
 cases R with
 | none =>
  obtain ⟨hrd,-⟩:=OwnI.rd h
  obtain ⟨rfl,rfl⟩:=hrd.nil rfl
  have hl:l=[]:=List.length_eq_zero_iff.1 hrd.len
  subst hl
  refine (Any.slices_Sort_int_none lays189 none 0 w).mono fun e w' hh=>?_
  obtain ⟨rfl,rfl⟩:=hh
  exact ⟨rfl,by simpa using h,Below.refl _ _⟩
 | some ad =>
  obtain ⟨g,o,fl⟩:=ad
  have hfl:fl=none:=by
   rcases h.2 with ⟨h0,_⟩|⟨g',cap,cur,hv,_⟩
   · cases h0
   · injection hv with a1
     injection a1 with a1
     injection a1 with _ _ a3
  subst hfl
  obtain ⟨rfl,hl,hn,hm,hg,hlt,cur,hh,hs,ht⟩:=ownI_blk h
  subst hl
  refine (Any.slices_Sort_int lays189 g 0 k l w (holds_of_blockI hh ht) hlt (by omega)).mono fun e w' hr=>?_
  obtain ⟨rfl,q,os,rfl⟩:=hr
  exact ⟨rfl,ownsRow_sortedI (by simp) hg hh hn hm hs,(Below.refl base w).grown (grownBy_sortedI _) hb (fun r e=>by cases e;exact hg)⟩
theorem compactI_any {w:World} {base n k:Nat} {R:Option Addr} {l:List Int} (h:OwnI w base R n k l) (hb:base≤w.heap.size) (hsm:n≤100000) :
 Calls Tryz.prog 113 #[.slice R n k] w fun e w'=>e=.returned (.slice R (Lib.compact l).length k)∧OwnI w' base R (Lib.compact l).length k (Lib.compact l)∧Below base w w':=by
 cases R with
 | none =>
  obtain ⟨hrd,-⟩:=OwnI.rd h
  obtain ⟨rfl,rfl⟩:=hrd.nil rfl
  have hl:l=[]:=List.length_eq_zero_iff.1 hrd.len
  subst hl
  refine (Any.slices_Compact_int_empty laysNm220 none 0 w).mono fun e w' hh=>?_
  obtain ⟨rfl,rfl⟩:=hh
  have e:Lib.compact ([]:List Int)=[]:=by simp [Lib.compact,Lib.compactUpTo]
  rw [e]
  exact ⟨rfl,h,Below.refl _ _⟩
 | some ad =>
  obtain ⟨g,o,fl⟩:=ad
  have hfl:fl=none:=by
   rcases h.2 with ⟨h0,_⟩|⟨g',cap,cur,hv,_⟩
   · cases h0
   · injection hv with a1
     injection a1 with a1
     injection a1 with _ _ a3
  subst hfl
  obtain ⟨rfl,hl,hn,hm,hg,hlt,cur,hh,hs,ht⟩:=ownI_blk h
  subst hl
  refine (Any.slices_Compact_int laysNm220 g 0 k l w (holds_of_blockI hh ht) (by omega) hn).mono fun e w' hr=>?_
  obtain ⟨rfl,q,rfl⟩:=hr
  have hle:=Lib.compact_length_le l
  have hlen:(Lib.compact l++List.replicate (l.length-(Lib.compact l).length) 0).length=l.length:=by rw [List.length_append,List.length_replicate];omega
  have ho:=ownsRow_sortedI (w:=w) (n:=q) (os:=#[]) (ss:=l) hlen hg hh hn hm hs
  have hgw:=grownBy_sortedI (w:=w) (g:=g) (n:=q) (os:=#[]) (Lib.compact l++List.replicate (l.length-(Lib.compact l).length) 0).toArray
  rw [grow_empty] at ho hgw
  have hx:=ownI_shrink (show OwnI _ base (some ⟨g,0,none⟩) l.length k (Lib.compact l++List.replicate (l.length-(Lib.compact l).length) 0) from ho) (Lib.compact l).length hle
  rw [List.take_left] at hx
  exact ⟨rfl,hx,(Below.refl base w).grown hgw hb (fun r e=>by cases e;exact hg)⟩
end Go.Proofs.YtokpblmgdmokoaaGreat
namespace Go.Proofs.YtokpblmgdmokoaaGreat
open Go.RowKit Go.Maps
def uniL (a b:List Int):List Int:=Lib.compact ((a++b).mergeSort fun x y=>decide (x≤y))
set_option maxRecDepth 100000 in
theorem united_any (A B:Option Addr) (n c m d:Nat) (l1 l2:List Int) (w:World) (hA:RdI w A n c l1) (hB:RdI w B m d l2) (hnm:n+m≤100000) :
 Calls Tryz.prog 85 #[.slice A n c,.slice B m d] w fun e w'=>∃ R r k,e=.returned (.slice R r k)∧OwnI w' w.heap.size R r k (uniL l1 l2)∧Below w.heap.size w w':=by
  go_enter Tryz.func85,Tryz.ntmps85
  have a0:=Lib.hid (show Below w.heap.size w w from Below.refl _ w)
  have a2:=Lib.hid (hA)
  clear hA
  have a3:=Lib.hid (hB)
  clear hB
  obtain ⟨o_,ho_⟩:∃ o,o=((.cells #[.slice A n c,.slice B m d] 30):Obj):=⟨_,rfl⟩
  replace a0:=bA a0 o_
  replace a2:=iA a2 o_
  replace a3:=iA a3 o_
  subst ho_
  have a1:=Lib.hid (Blk.new w 30 #[.slice A n c,.slice B m d])
  obtain ⟨a4,a5⟩:=at2 a1
  have HC:=Lib.hid (concat_any A B n c m d w.heap.size l1 l2 ((w.alloc (.cells #[.slice A n c,.slice B m d] 30))) a2.out a3.out (Blk.cell (a1.out) 0) (Blk.cell (a1.out) 1) (Blk.lt (a1.out)) hnm)
  have HB:=a0
  go_wp2_with fail
  refine HC.out.mono ?_
  rintro e w1 ⟨R,k,rfl,ho,hb⟩
  clear a4 a5
  have HO:=Lib.hid (owns_base ho HB.out.size);have HB1:=Lib.hid (HB.out.trans (hb.mono HB.out.size));clear ho hb HC HB a0 a2 a3 a1
  have HC:=Lib.hid (sortI_any HO.out HB1.out.size hnm)
  go_wp2_with fail
  refine HC.out.mono ?_
  rintro e w2 ⟨rfl,ho,hb⟩
  have HO2:=Lib.hid ho;have HB2:=Lib.hid (HB1.out.trans hb);clear ho hb HC HO HB1
  have HC:=Lib.hid (compactI_any HO2.out HB2.out.size hnm)
  go_wp2_with fail
  refine HC.out.mono ?_
  rintro e w3 ⟨rfl,ho,hb⟩
  have HO3:=Lib.hid ho;have HB3:=Lib.hid (HB2.out.trans hb);clear ho hb HC HO2 HB2
  go_wp2
  go_ret
  exact ⟨R,_,k,rfl,HO3.out,HB3.out⟩
open Go.RowKit Go.Maps Go.Sort Go.Lib Go.Shelf
def lays122_ren:Go.Shelf.Ren:=⟨fun|122=>162|215=>173|n=>n,fun|3=>3|4=>4|n=>n,fun|n=>n⟩
theorem lays122:Go.Proofs.Lays.n122 Tryz.prog lays122_ren:={
 mixed:=by kernel_rfl
 f122:=Tryz.func162.trans (congrArg some (by kernel_rfl))
 f215:=Tryz.func173.trans (congrArg some (by kernel_rfl))
 t3:=Tryz.underlying3
 a3:=Tryz.isAgg3
 z3:=Tryz.sizeOf3
 v3:=Tryz.zeroValue3
 t4:=Tryz.underlying4
 a4:=Tryz.isAgg4
 z4:=Tryz.sizeOf4
 v4:=Tryz.zeroValue4 }
def laysSlF20_f178_ren:Go.Shelf.Ren:=⟨fun|20=>178|n=>n,fun|24=>3|22=>30|3=>3|25=>164|4=>4|0=>0|n=>n,fun|n=>n⟩
theorem laysSlF20_f178:Go.Proofs.SlLaysF.n20 Tryz.prog laysSlF20_f178_ren:={
 mixed:=by kernel_rfl
 f20:=⟨Tryz.f178.name,by decide,Tryz.func178.trans (congrArg some (by kernel_rfl))⟩
 t0:=Tryz.underlying0
 a0:=Tryz.isAgg0
 z0:=Tryz.sizeOf0
 v0:=Tryz.zeroValue0
 t3:=Tryz.underlying3
 a3:=Tryz.isAgg3
 z3:=Tryz.sizeOf3
 v3:=Tryz.zeroValue3
 t4:=Tryz.underlying4
 a4:=Tryz.isAgg4
 z4:=Tryz.sizeOf4
 v4:=Tryz.zeroValue4
 t22:=Tryz.underlying30
 a22:=Tryz.isAgg30
 z22:=Tryz.sizeOf30
 v22:=Tryz.zeroValue30
 a24:=Tryz.isAgg3
 z24:=Tryz.sizeOf3
 t25:=Tryz.underlying164
 a25:=Tryz.isAgg164
 z25:=Tryz.sizeOf164
 v25:=Tryz.zeroValue164 }
theorem belowDN (w:World) (q:Nat):Below w.heap.size w (w.drewN q):=(Below.refl _ w).trans ⟨rfl,rfl,rfl,Nat.le_refl _,fun _ _=>rfl⟩
section
variable {w:World} {g:Nat} {ware:ByteArray} {lim by_:Int} {A:Option Addr} {n k:Nat} {ps:List Prt}
def hiA (ps:List Prt) (a:Nat):Int:=(ps.getD a default).hi
set_option maxRecDepth 100000 in
theorem hiF_any (hv:Vw w g ware lim by_ A n k ps) {bv:Nat} (hbv:Blk w bv 77 #[.pointer (some ⟨g,0,none⟩)]) {a:Nat} (ha:a<n):Calls Tryz.prog 140 #[.int .i64 (a:Int),.pointer (some ⟨bv,0,none⟩)] w fun e w'=>e=.returned (.int .i64 (hiA ps a))∧w'=w:=by
 obtain ⟨-,-,-,v3⟩:=hv.cells
 have h40:=hv.len;have hgl:=hv.lt
 obtain ⟨b,o,p,x,rfl,hb,hp,hok,c0,c1,c2,-⟩:=RdP.get hv.prt ha
 have HP:=Lib.hid (show hiA ps a=p.hi by unfold hiA;rw [List.getD_eq_getElem?_getD,hp];rfl)
 have hab:(a:Int)<n:=by omega
 have c9:=Blk.nth hbv 0
 clear hv hp hok hbv
 go_enter Tryz.func140,Tryz.ntmps140
 go_wp2
 go_ret
 exact ⟨by rw [HP.out];rfl,rfl⟩
theorem compare_any (x y:Int) (w:World):Calls Tryz.prog 162 #[.int .i64 x,.int .i64 y] w fun e w'=>e=.returned (.int .i64 (Lib.compareInt x y))∧w'=w:=Any.cmp_Compare_int lays122 x y w
set_option maxRecDepth 100000 in
theorem cmpF_any (hv:Vw w g ware lim by_ A n k ps) {bv bf:Nat} (hbv:Blk w bv 77 #[.pointer (some ⟨g,0,none⟩)]) (hbf:Blk w bf 145 #[.func (.func 140) #[] #[.pointer (some ⟨bv,0,none⟩)]]) {a b:Nat} (ha:a<n) (hb:b<n) :
 Calls Tryz.prog 161 #[.int .i64 (a:Int),.int .i64 (b:Int),.pointer (some ⟨bf,0,none⟩)] w fun e w'=>e=.returned (.int .i64 (Lib.compareInt (hiA ps a) (hiA ps b)))∧∃ q,w'=w.drewN q:=by
 have H1:=Lib.hid (fun (c q:Nat) (hc:c<n)=>hiF_any (w:=w.drewN q) (show Vw (w.drewN q) g ware lim by_ A n k ps from hv.keep (belowDN w q)) (show Blk (w.drewN q) bv 77 _ from hbv) hc)
 have c9:=Blk.nth hbf 0
 have hlf:=hbf.lt
 clear hv hbv hbf
 go_enter Tryz.func161,Tryz.ntmps161
 go_wp2_with fail
 go_quiet (first | (go_at_call 140;refine Calls.quiet_of_same (H1.out _ _ (by assumption))) | (go_at_call 162;refine Calls.quiet_of_same (compare_any _ _ _)))
 go_wp2
 go_ret
 exact ⟨rfl,_,rfl⟩
end
section
variable {α:Type} [Inhabited α] (lt:α→α→Bool)
def insF (a b:Nat):Nat→Nat→Array α→Array α
 | 0,_,d=>d
 | f+1,i,d=>if i<b then insF a b f (i+1) (insInner lt a i d) else d
theorem insF_eq (a b f:Nat):∀ i (d:Array α),b≤i+f→insF lt a b f i d=insOuter lt a b i d:=by
 induction f with
 | zero=>intro i d h;rw [insOuter,if_neg (by omega)];rfl
 | succ f ih =>
  intro i d h
  rw [insOuter,insF]
  by_cases hi:i<b
  · rw [if_pos hi,if_pos hi,ih _ _ (by omega)]
  · rw [if_neg hi,if_neg hi]
theorem size_insInner (a:Nat):∀ j (d:Array α),(insInner lt a j d).size=d.size
 | 0,d=>rfl
 | j+1,d=>by
  unfold insInner
  split
  · rw [size_insInner a j,size_swp]
  · rfl
theorem size_insF (a b f:Nat):∀ i (d:Array α),(insF lt a b f i d).size=d.size:=by
 induction f with
 | zero=>intro i d;rfl
 | succ f ih =>
  intro i d
  unfold insF
  split
  · rw [ih,size_insInner]
  · rfl
end
def cmpH (ps:List Prt) (N:Nat) (a b:Fin (N+1)):Int:=Lib.compareInt (hiA ps a.val) (hiA ps b.val)
def finI {N:Nat} (i:Fin (N+1)):Int:=((i.val:Nat):Int)
def encF {N:Nat} (i:Fin (N+1)):Value:=.int .i64 (finI i)
def toF (N:Nat) (l:List Int):Array (Fin (N+1)):=(l.map fun x=>Fin.ofNat (N+1) x.toNat).toArray
def srtA (ps:List Prt) (N:Nat) (l:List Int):Array (Fin (N+1)):=insF (ltOf (cmpH ps N)) 0 l.length l.length 1 (toF N l)
def srtL (ps:List Prt) (l:List Int):List Int:=match ps.length with|0=>l|N+1=>(srtA ps N l).toList.map finI
theorem toF_back {N:Nat} {l:List Int} (hin:∀ x∈l,∃ a:Nat,x=a∧a<N+1):(toF N l).toList.map finI=l:=by
 unfold toF
 simp only [List.map_map]
 refine (List.map_congr_left fun x hx=>?_).trans (List.map_id l)
 obtain ⟨a,rfl,ha⟩:=hin x hx
 show finI (Fin.ofNat (N+1) (a:Int).toNat)=(a:Int)
 unfold finI
 rw [Int.toNat_natCast]
 show (((a % (N+1):Nat)):Int)=a
 rw [Nat.mod_eq_of_lt ha]
theorem srtA_eq (ps:List Prt) (N:Nat) (l:List Int):srtA ps N l=Sort.insertionSort (ltOf (cmpH ps N)) (toF N l) 0 l.length:=by
 unfold srtA Sort.insertionSort
 exact insF_eq _ _ _ _ _ _ (by omega)
theorem grownBy_sw {α:Type} [Inhabited α] (enc:α→Value) {w:World} {g m:Nat} {os:Array Obj} (dk:Array α):w.grownBy (sortWorld enc w g 0 m dk os) (some g):=by
 refine ⟨rfl,rfl,rfl,by simp [sortWorld],fun k hk hne=>?_⟩
 rw [sortWorld,heap_grow_old _ _ (by simpa using hk)]
 have:g≠k:=fun e=>hne (by rw [e])
 simp [putRow,mapBlock,Sort.ahead,Array.getElem?_modify,this]
theorem putRow_fin {N:Nat} (w:World) (g:Nat) (d:Array (Fin (N+1))):putRow encF w g 0 d=putRow (Value.int .i64) w g 0 (d.toList.map finI).toArray:=by
 unfold putRow
 congr 1
 funext c
 unfold putCells
 have hs:(d.toList.map finI).toArray.size=d.size:=by simp
 rw [hs]
 congr 1
 funext k x
 by_cases h:0≤k∧k<0+d.size
 · rw [if_pos h,if_pos h]
   have hk:k-0<d.size:=by omega
   rw [getElem!_pos d (k-0) hk,getElem!_pos (d.toList.map finI).toArray (k-0) (by rw [hs];exact hk)]
   simp [encF]
 · rw [if_neg h,if_neg h]
theorem holds_fin {w:World} {g:Nat} {cur:Array Value} {e:TypeId} {N:Nat} {d:Array (Fin (N+1))} {l:List Int} (hl:d.toList.map finI=l) (hb:w.heap[g]?=some (.cells cur e (0,0))) (ht:cur.toList.take l.length=l.map (Value.int .i64)):Holds encF w g 0 d:=by
 have hH:=holds_of_blockI hb ht
 intro j hj
 have hjl:j<l.toArray.size:=by rw [← hl];simpa using hj
 obtain ⟨h1,h2⟩:=hH j hjl
 refine ⟨h1.trans ?_,h2⟩
 rw [getElem!_pos l.toArray j hjl,getElem!_pos d j hj]
 subst hl
 simp [encF]
set_option maxRecDepth 100000 in
theorem stable_any {N blk cap gf:Nat} {cb:Array Value} (d:Array (Fin (N+1))) (cf:Fin (N+1)→Fin (N+1)→Int) (w:World) (hn:d.size<20) (eg:∀ args w,(callFunc gf args).run Tryz.prog w=.ok (.enter gf args) w) (hcmp:CmpReads Tryz.prog gf cb encF cf blk 0 d.size w) (hH:Holds encF w blk 0 d) :
 Calls Tryz.prog 160 #[.slice (some ⟨blk,0,none⟩) d.size cap,.func (.func gf) #[] cb] w fun e w'=>e=.returned (.tuple #[])∧∃ q,w'=(putRow encF w blk 0 (Sort.insertionSort (ltOf cf) d 0 d.size)).drewN q:=by
 have HI:=Lib.hid (Any.insertionSortCmpFunc_one laysSlF20_f178 encF (fun _=>rfl) cf gf cb blk 0 cap 0 d.size d w eg hcmp hH (Nat.zero_le _) (Nat.le_refl _) (by omega));clear hcmp hH
 have HS:Calls Tryz.prog 174 #[.slice (some ⟨blk,0,none⟩) d.size cap,.int .i64 (d.size:Int),.func (.func gf) #[] cb] w fun e w'=>e=.returned (.tuple #[])∧∃ q,w'=(putRow encF w blk 0 (Sort.insertionSort (ltOf cf) d 0 d.size)).drewN q:=by
  have hs:(d.size:Int)<20:=by omega
  have hs2:¬ ((20:Int)≤(d.size:Int)):=by omega
  have hs3:¬ ((20:Int)<(d.size:Int)):=by omega
  go_enter Tryz.func174,Tryz.ntmps174
  go_wp2
  go_loopw [7,8] (fun i j wr=>i=.int .i64 0∧j=.int .i64 20∧w=wr) (fun _ _ _=>0)
  case atStart=>exact ⟨rfl,rfl,rfl⟩
  case round =>
   obtain ⟨rfl,rfl,rfl⟩:=hrel
   go_wp2_with fail
   refine HI.out.mono ?_
   rintro e w1 ⟨rfl,q,rfl⟩
   clear HI
   go_wp2
   go_loopw [6,7,8,9] (fun i _ _ _ wr=>i=.int .i64 20∧(putRow encF w blk 0 (Sort.insertionSort (ltOf cf) d 0 d.size)).drewN q=wr) (fun _ _ _ _ _=>0)
   case atStart=>exact ⟨rfl,rfl⟩
   case round =>
    obtain ⟨rfl,rfl⟩:=hrel
    go_wp2
    go_end0
    exact ⟨rfl,q,rfl⟩
 have HC:=Lib.hid HS;clear HS HI
 go_enter Tryz.func160,Tryz.ntmps160
 go_wp2_with fail
 refine HC.out.mono ?_
 rintro e w1 ⟨rfl,q,rfl⟩
 clear HC
 go_wp2
 go_end0
 exact ⟨rfl,q,rfl⟩
theorem stable_none {gf:Nat} {cb:Array Value} (w:World):Calls Tryz.prog 160 #[.slice none 0 0,.func (.func gf) #[] cb] w fun e w'=>e=.returned (.tuple #[])∧w=w':=by
 have HI:Calls Tryz.prog 178 #[.slice none 0 0,.int .i64 0,.int .i64 0,.func (.func gf) #[] cb] w fun e w'=>e=.returned (.tuple #[])∧w=w':=by
  go_enter Tryz.func178,Tryz.ntmps178
  go_wp2
  go_loopw [8] (fun i wr=>i=.int .i64 1∧w=wr) (fun _ _=>0)
  case atStart=>exact ⟨rfl,rfl⟩
  case round =>
   obtain ⟨rfl,rfl⟩:=hrel
   go_wp2
   go_end0
   exact ⟨rfl,rfl⟩
 have HC:=Lib.hid HI;clear HI
 have HS:Calls Tryz.prog 174 #[.slice none 0 0,.int .i64 0,.func (.func gf) #[] cb] w fun e w'=>e=.returned (.tuple #[])∧w=w':=by
  go_enter Tryz.func174,Tryz.ntmps174
  go_wp2
  go_loopw [7,8] (fun i j wr=>i=.int .i64 0∧j=.int .i64 20∧w=wr) (fun _ _ _=>0)
  case atStart=>exact ⟨rfl,rfl,rfl⟩
  case round =>
   obtain ⟨rfl,rfl,rfl⟩:=hrel
   go_wp2_with fail
   refine HC.out.mono ?_
   rintro e w1 ⟨rfl,rfl⟩
   clear HC
   go_wp2
   go_loopw [6,7,8,9] (fun i _ _ _ wr=>i=.int .i64 20∧w=wr) (fun _ _ _ _ _=>0)
   case atStart=>exact ⟨rfl,rfl⟩
   case round =>
    obtain ⟨rfl,rfl⟩:=hrel
    go_wp2
    go_end0
    exact ⟨rfl,rfl⟩
 have HD:=Lib.hid HS;clear HS HC
 go_enter Tryz.func160,Tryz.ntmps160
 go_wp2_with fail
 refine HD.out.mono ?_
 rintro e w1 ⟨rfl,rfl⟩
 go_wp2
 go_end0
 exact ⟨rfl,rfl⟩
set_option maxRecDepth 100000 in
theorem sorted_any {w0 w:World} {g:Nat} {ware:ByteArray} {lim by_:Int} {A:Option Addr} {n k:Nat} {ps:List Prt} (hv:Vw w0 g ware lim by_ A n k ps) (hb0:Below w0.heap.size w0 w) {base:Nat} (hbase:w0.heap.size≤base) (hbw:base≤w.heap.size) {bv:Nat} (hbv:Blk w bv 77 #[.pointer (some ⟨g,0,none⟩)]) (hbb:bv<base)
 {R:Option Addr} {m c:Nat} {l:List Int} (ho:OwnI w base R m c l) (hm:m<20) (hRn:n=0→R=none) (hin:∀ x∈l,∃ a:Nat,x=a∧a<n) :
 Calls Tryz.prog 139 #[.slice R m c,.func (.func 140) #[] #[.pointer (some ⟨bv,0,none⟩)]] w fun e w'=>e=.returned (.slice R m c)∧OwnI w' base R m c (srtL ps l)∧Below base w w':=by
 have hbn:=Lib.hid (Blk.new w 145 #[.func (.func 140) #[] #[.pointer (some ⟨bv,0,none⟩)]])
 have hlen:=hv.prt.len
 have fin:Calls Tryz.prog 160 #[.slice R m c,.func (.func 161) #[] #[.pointer (some ⟨w.heap.size,0,none⟩)]] (w.alloc (.cells #[.func (.func 140) #[] #[.pointer (some ⟨bv,0,none⟩)]] 145)) fun e w'=>e=.returned (.tuple #[])∧OwnI w' base R m c (srtL ps l)∧Below base w w':=by
  obtain ⟨w1,hw1⟩:∃ w1,w1=w.alloc (.cells #[.func (.func 140) #[] #[.pointer (some ⟨bv,0,none⟩)]] 145):=⟨_,rfl⟩
  have hb1:Below base w w1:=by rw [hw1];exact (Below.refl _ w).alloc hbw _
  have ho1:OwnI w1 base R m c l:=by rw [hw1];exact World.ownsRow.alloc ho _
  have hbn1:Blk w1 w.heap.size 145 #[.func (.func 140) #[] #[.pointer (some ⟨bv,0,none⟩)]]:=by rw [hw1];exact hbn.out
  rw [← hw1]
  have hsz1:w.heap.size<w1.heap.size:=hbn1.lt
  clear hw1
  cases R with
  | none =>
   obtain ⟨hrd,-⟩:=OwnI.rd ho1
   obtain ⟨rfl,rfl⟩:=hrd.nil rfl
   have hl:l=[]:=List.length_eq_zero_iff.1 hrd.len
   subst hl
   refine (stable_none w1).mono fun e w' h=>?_
   obtain ⟨rfl,rfl⟩:=h
   have e2:srtL ps []=[]:=by unfold srtL;split<;>rfl
   rw [e2]
   exact ⟨rfl,ho1,hb1⟩
  | some ad =>
   obtain ⟨blk,o,fl⟩:=ad
   have hfl:fl=none:=by
    rcases ho1.2 with ⟨h0,_⟩|⟨g',cap,cur,hv,_⟩
    · cases h0
    · injection hv with a1
      injection a1 with a1
      injection a1 with _ _ a3
   subst hfl
   obtain ⟨rfl,hl,hn,hmx,hgb,hlt,cur,hh,hs,ht⟩:=ownI_blk ho1
   have hne:w.heap.size≠blk:=by
    intro e
    have h1:=hbn1
    rw [e] at h1
    have h2:=h1.symm.trans hh
    injection h2 with h2
    injection h2 with h3 h4
    exact absurd h4 (by decide)
   cases hN:n with
   | zero=>cases hRn hN
   | succ N =>
    subst hN
    have hD:=toF_back (N:=N) hin
    have hds:(toF N l).size=l.length:=by unfold toF;simp
    have hsz2:=hb0.size
    have hst:=stable_any (N:=N) (blk:=blk) (cap:=c) (gf:=161) (cb:=#[.pointer (some ⟨w.heap.size,0,none⟩)]) (toF N l) (cmpH ps N) w1 (by rw [hds,hl];exact hm) (enters_of Tryz.func161 (by kernel_rfl) rfl) ?_ (holds_fin hD hh ht)
    · rw [hds,hl] at hst
      refine hst.mono fun e w' h=>?_
      obtain ⟨rfl,q,rfl⟩:=h
      have e1:srtL ps l=(Sort.insertionSort (ltOf (cmpH ps N)) (toF N l) 0 m).toList.map finI:=by
       unfold srtL
       rw [hlen,← hl,← srtA_eq]
      have e2:(srtL ps l).length=l.length:=by
       rw [e1,← hl,← srtA_eq,List.length_map,Array.length_toList]
       unfold srtA
       rw [size_insF,hds]
      rw [putRow_fin,← e1]
      have hos:=ownsRow_sortedI (w:=w1) (n:=q) (os:=#[]) (ss:=l) (ts:=srtL ps l) e2 hgb hh (by rw [hl];exact hn) hmx hs
      have hgw:=grownBy_sortedI (w:=w1) (g:=blk) (n:=q) (os:=#[]) (srtL ps l).toArray
      rw [grow_empty] at hos hgw
      rw [hl] at hos
      exact ⟨rfl,hos,hb1.trans ((Below.refl base w1).grown hgw (Nat.le_trans hbw (Nat.le_of_lt hsz1)) (fun r e=>by cases e;exact hgb))⟩
    · intro mm os dk hdk x y
      have hg:=grownBy_sw (w:=w1) (g:=blk) (m:=mm) (os:=os) encF dk
      have hB:Below base w1 (sortWorld encF w1 blk 0 mm dk os):=(Below.refl base w1).grown hg (Nat.le_trans hbw (Nat.le_of_lt hsz1)) (fun r e=>by cases e;exact hgb)
      have hB0:Below w0.heap.size w0 (sortWorld encF w1 blk 0 mm dk os):=(hb0.trans (hb1.mono hbase)).trans (hB.mono hbase)
      have hbv1:Blk (sortWorld encF w1 blk 0 mm dk os) bv 77 #[.pointer (some ⟨g,0,none⟩)]:=(hbv.below hb1 hbb).below hB hbb
      have hbf1:Blk (sortWorld encF w1 blk 0 mm dk os) w.heap.size 145 #[.func (.func 140) #[] #[.pointer (some ⟨bv,0,none⟩)]]:=(hg.block _ hsz1 (fun e=>hne (Option.some.inj e))).trans hbn1
      exact cmpF_any (hv.keep hB0) hbv1 hbf1 x.isLt y.isLt
 have HC:=Lib.hid fin;clear fin
 go_enter Tryz.func139,Tryz.ntmps139
 go_wp2_with fail
 refine HC.out.mono ?_
 rintro e w1 ⟨rfl,h1,h2⟩
 clear HC
 go_wp2
 go_ret
 exact ⟨rfl,h1,h2⟩
end Go.Proofs.YtokpblmgdmokoaaGreat
