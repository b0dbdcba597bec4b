import Derived.Deep.DeepCutAuto
import Derived.Deep.OwnRows
import Derived.Maps.OwnIn
import Derived.Shelf.SlIterI.Nil
import Derived.Shelf.SortM.Plain
import Derived.Shelf.SortM.SortNone
import Derived.Test.YtebkniakflhhkaaGreatDoorAJoined
set_option maxHeartbeats 2000000
set_option linter.unusedSimpArgs false
set_option linter.unusedVariables false
namespace Go.Proofs.YtebkniakflhhkaaGreatDoor
open Go.Lib (hid)
open Go.RowKit Go.Maps
abbrev bool_:DataW Unit:=.lit (.bool false)
def SetD (D:DataW Unit) (S:List Int):Prop:=IsMap D∧(∀ x,has D (.int .i64 x)=decide (x∈S))∧∀ x,D.atKey (.int .i64 x) bool_=.lit (.bool (decide (x∈S)))
def OwnS (w:World) (b:Nat) (S:List Int):Prop:=∃ n D,w.ownsMap Tryz.prog 3 (plainElem (H:=Unit) Tryz.prog 4) b n D∧n≤S.length∧SetD D S
theorem OwnS.lt {w:World} {b:Nat} {S:List Int} (h:OwnS w b S):b<w.heap.size:=by obtain ⟨_,_,h,_⟩:=h;exact h.lt
theorem OwnS.keep {w w':World} {b:Nat} {S:List Int} (h:OwnS w b S) (hb:Below w.heap.size w w'):OwnS w' b S:=by
 obtain ⟨n,D,⟨es,clock,hh,F,hs,hD⟩,h2⟩:=h
 exact ⟨n,D,⟨es,clock,(hb.block b (Array.getElem?_eq_some_iff.1 hh).1).trans hh,F,hs,hD⟩,h2⟩
theorem OwnS.keep_ {w w':World} {b:Nat} {S:List Int} (h:OwnS w b S) (hb:w'.heap[b]?=w.heap[b]?):OwnS w' b S:=by
 obtain ⟨n,D,⟨es,clock,hh,F,hs,hD⟩,h2⟩:=h
 exact ⟨n,D,⟨es,clock,hb.trans hh,F,hs,hD⟩,h2⟩
theorem int_ne {x y:Int} (h:x≠y):(Lit.int .i64 x:Lit)≠.int .i64 y:=fun e=>by injection e with _ e;exact h e
theorem setD_nil:SetD (.map []) []:=⟨isMap_empty,fun x=>rfl,fun x=>rfl⟩
theorem SetD.put {D:DataW Unit} {S:List Int} (h:SetD D S) (x:Int):SetD (D.put (.int .i64 x) (.lit (.bool true))) (S++[x]):=by
 obtain ⟨h1,h2,h3⟩:=h
 refine ⟨h1.put _ _,fun y=>?_,fun y=>?_⟩
 · by_cases e:y=x
   · subst e;rw [has_put_same h1 (show WideAt.IsKeyLit (.int .i64 y) from trivial)];simp
   · rw [has_put_other (int_ne e),h2];simp [e]
 · by_cases e:y=x
   · subst e;rw [atKey_put_same h1 (show WideAt.IsKeyLit (.int .i64 y) from trivial)];simp
   · rw [atKey_put_other (int_ne e),h3];simp [e]
theorem SetD.del {D:DataW Unit} {S:List Int} (h:SetD D S) (x:Int):SetD (D.del (.int .i64 x)) (S.filter (fun y=>decide (y≠x))):=by
 obtain ⟨h1,h2,h3⟩:=h
 refine ⟨h1.del _,fun y=>?_,fun y=>?_⟩
 · by_cases e:y=x
   · subst e;rw [has_del_same];simp
   · rw [has_del_other (int_ne e),h2];simp [e]
 · by_cases e:y=x
   · subst e;rw [atKey_del_same];simp [bool_]
   · rw [atKey_del_other (int_ne e),h3];simp [e]
def Wf (x:Int):Prop:=(Lit.int .i64 x).wf=true
theorem wf_of {x:Int} (h:0≤x∧x≤1000000):Wf x:=by
 unfold Wf
 have h1:IntKind.i64.min=-9223372036854775808:=by decide
 have h2:IntKind.i64.max=9223372036854775807:=by decide
 simp [Lit.wf,h1,h2]
 omega
theorem plain_bool_inv {P:Program} {e:TypeId} (he:P.underlying e=some .bool) {v:Value} {c:Bool} {ps:List MemPlace} (h:plainElem (H:=Unit) P e v=some (.lit (.bool c),ps)):v=.bool c:=by
 unfold plainElem at h
 rw [he] at h
 cases v<;>simp at h
 rw [h.1]
theorem OwnS.look {w:World} {b:Nat} {S:List Int} (h:OwnS w b S) {x:Int} (hx:Wf x):(Instr.lookup 172 (.map (some b)) (.int .i64 x) false).run Tryz.prog w=.ok (.bool (decide (x∈S))) w:=by
 obtain ⟨n,D,hown,_,_,_,h3⟩:=h
 obtain ⟨v,ps,hrun,hv⟩:=hown.lookup (Maps.int_keyed Tryz.underlying3) Tryz.underlying172 (z:=.bool false) (by kernel_rfl) (zd:=bool_) (zp:=[]) (plainElem_bool Tryz.underlying4 false) (Maps.keyOf_int_mk Tryz.underlying3 hx)
 rw [h3] at hv
 rw [plain_bool_inv Tryz.underlying4 hv] at hrun
 exact hrun
theorem idSet_any (A:Option Addr) (n c:Nat) (x:List Int) (hw:∀ v∈x,Wf v) (hn:n≤100000) (w:World) (hr:RdI w A n c x) :
 Calls Tryz.prog 110 #[.slice A n c] w fun e w'=>∃ b,e=.returned (.map (some b))∧w.heap.size≤b∧OwnS w' b x∧Below w.heap.size w w':=by
 have HR:=hid hr;have HW:=hid hw;clear hr hw
 have h0:=World.ownsMap_made w Tryz.prog 3 (plainElem (H:=Unit) Tryz.prog 4)
 have hb0:Below w.heap.size w (w.alloc (.map #[] 0)):=(Below.refl _ w).alloc (Nat.le_refl _) _
 have H0:=hid h0;clear h0
 have hmk:∀ w,(Instr.makeMap 172 none).run Tryz.prog w=.ok (.map (some w.heap.size)) (w.alloc (.map #[] 0)):=fun _=>rfl
 go_enter Tryz.func110,Tryz.ntmps110
 go_wp2
 go_loopw [9] (fun i wr=>∃ (k:Nat) (D:DataW Unit),k≤n∧i=.int .i64 k∧wr.ownsMap Tryz.prog 3 (plainElem (H:=Unit) Tryz.prog 4) w.heap.size k D∧SetD D (x.take k)∧Below w.heap.size w wr∧w.heap.size<wr.heap.size) (fun i _=>n-(intOf i).toNat)
 case atStart=>exact ⟨0,_,Nat.zero_le _,rfl,H0.out,by rw [List.take_zero];exact setD_nil,hb0,by simp⟩
 case round =>
  obtain ⟨k,D,hk,rfl,hown,hset,hb,hsz⟩:=hrel
  by_cases hlt:k<n
  · have hlt':(k:Int)<n:=by omega
    obtain ⟨b,o,v,rfl,hbw,hx,c0⟩:=(HR.out.below hb).get hlt
    have hwf:=HW.out v (List.mem_of_getElem? hx)
    have htk:x.take (k+1)=x.take k++[v]:=by rw [List.take_add_one,hx];rfl
    have HX:=hid hx;have HS:=hid hset;have HO:=hid hown;clear hx hset hown
    go_wp2_with (at_mapUpdate;refine wpList_mapUpdate_own _ rfl _ _ _ 172 rfl 3 4 (Maps.int_keyed Tryz.underlying3) Tryz.underlying172 _ w.heap.size k _ rfl HO.out (by unfold maxLen;omega) _ _ _ rfl rfl (Maps.keyOf_int_mk Tryz.underlying3 hwf) _ [] (plainElem_bool Tryz.underlying4 true) ?_;intro w1 hown1 hgrow1)
    go_roundw
    case rel=>exact ⟨k+1,_,by omega,by go_num,hown1,by rw [htk];exact HS.out.put v,hb.grown hgrow1 hb.size (fun q e=>by cases e;exact Nat.le_refl _),Nat.lt_of_lt_of_le hsz hgrow1.size⟩
    case measure=>simp [intOf];omega
  · obtain rfl:k=n:=by omega
    rw [List.take_of_length_le (by rw [HR.out.len];exact Nat.le_refl _)] at hset
    have HS:=hid hset;have HO:=hid hown;clear hset hown
    go_wp2
    go_ret
    exact ⟨w.heap.size,rfl,Nat.le_refl _,⟨k,D,HO.out,by rw [HR.out.len];exact Nat.le_refl _,HS.out⟩,hb⟩
end Go.Proofs.YtebkniakflhhkaaGreatDoor
/- without of gauge. -/
namespace Go.Proofs.YtebkniakflhhkaaGreatDoor
open Go.Lib (hid)
open Go.RowKit Go.Maps
end Go.Proofs.YtebkniakflhhkaaGreatDoor
/- The library's sort and the keys of a map, at this program's numbers. -/
namespace Go.Proofs.YtebkniakflhhkaaGreatDoor
open Go.Lib (hid)
open Go.RowKit Go.Maps Go.Sort Go.Shelf
def keysA_ren:Go.Shelf.Ren:=⟨fun|7=>112|10=>144|n=>n,fun|23=>172|26=>3|3=>4|28=>176|0=>0|27=>175|33=>166|4=>4|n=>n,fun|n=>n⟩
theorem keysA:Go.Proofs.SlLaysZI.n7 Tryz.prog keysA_ren where
 mixed:=by kernel_rfl
 f7:=⟨ "maps.Keys[map[int]bool,int,bool]",by decide,Tryz.func112.trans (congrArg some (by kernel_rfl))⟩
 f10:=⟨ "maps.Keys[map[int]bool,int,bool]$1",by decide,Tryz.func144.trans (congrArg some (by kernel_rfl))⟩
 t0:=Tryz.underlying0
 a0:=Tryz.isAgg0
 z0:=Tryz.sizeOf0
 v0:=Tryz.zeroValue0
 t4:=Tryz.underlying4
 a4:=Tryz.isAgg4
 z4:=Tryz.sizeOf4
 v4:=Tryz.zeroValue4
 t23:=Tryz.underlying172
 a23:=Tryz.isAgg172
 z23:=Tryz.sizeOf172
 v23:=Tryz.zeroValue172
 t26:=Tryz.underlying3
 a26:=Tryz.isAgg3
 z26:=Tryz.sizeOf3
 v26:=Tryz.zeroValue3
 t27:=Tryz.underlying175
 a27:=Tryz.isAgg175
 z27:=Tryz.sizeOf175
 v27:=Tryz.zeroValue175
 t28:=Tryz.underlying176
 a28:=Tryz.isAgg176
 z28:=Tryz.sizeOf176
 v28:=Tryz.zeroValue176
 t33:=Tryz.underlying166
 a33:=Tryz.isAgg166
 z33:=Tryz.sizeOf166
 v33:=Tryz.zeroValue166
def sortedA_ren:Go.Shelf.Ren:=⟨fun|6=>111|8=>142|9=>143|11=>163|13=>65|12=>164|23=>102|24=>103|14=>170|15=>171|16=>172|17=>173|18=>174|19=>175|20=>176|21=>177|22=>178|25=>179|26=>132|27=>133|28=>180|29=>181|30=>104|31=>182|n=>n,fun|26=>3|28=>176|24=>51|0=>0|3=>3|37=>124|48=>163|50=>165|4=>4|40=>157|39=>156|45=>136|5=>5|9=>9|51=>200|55=>204|57=>223|58=>224|33=>166|n=>n,fun|n=>n⟩
theorem sortedA:Go.Proofs.SlLaysZI.n6 Tryz.prog sortedA_ren where
 mixed:=by kernel_rfl
 f6:=⟨ "slices.Sorted[int]",by decide,Tryz.func111.trans (congrArg some (by kernel_rfl))⟩
 f8:=⟨ "slices.Collect[int]",by decide,Tryz.func142.trans (congrArg some (by kernel_rfl))⟩
 f11:=⟨ "slices.AppendSeq[[]int,int]",by decide,Tryz.func163.trans (congrArg some (by kernel_rfl))⟩
 t0:=Tryz.underlying0
 a0:=Tryz.isAgg0
 z0:=Tryz.sizeOf0
 v0:=Tryz.zeroValue0
 t24:=Tryz.underlying51
 a24:=Tryz.isAgg51
 z24:=Tryz.sizeOf51
 v24:=Tryz.zeroValue51
 t26:=Tryz.underlying3
 a26:=Tryz.isAgg3
 z26:=Tryz.sizeOf3
 v26:=Tryz.zeroValue3
 t28:=Tryz.underlying176
 a28:=Tryz.isAgg176
 z28:=Tryz.sizeOf176
 v28:=Tryz.zeroValue176
 i26:=by kernel_rfl
def sortA_ren:Go.Shelf.Ren:=⟨fun|5=>143|8=>65|7=>164|19=>102|20=>103|10=>170|11=>171|12=>172|13=>173|14=>174|15=>175|16=>176|17=>177|18=>178|30=>179|31=>132|32=>133|33=>180|34=>181|35=>104|40=>182|n=>n,fun|23=>51|25=>3|3=>3|32=>124|22=>51|0=>0|44=>163|46=>165|4=>4|36=>157|35=>156|41=>136|5=>5|9=>9|53=>200|57=>204|63=>223|64=>224|n=>n,fun|n=>n⟩
theorem sortA:Go.Proofs.SlLaysM.n5 Tryz.prog sortA_ren where
 mixed:=by kernel_rfl
 f5:=⟨ "slices.Sort[[]int,int]",by decide,Tryz.func143.trans (congrArg some (by kernel_rfl))⟩
 f7:=⟨ "slices.pdqsortOrdered[int]",by decide,Tryz.func164.trans (congrArg some (by kernel_rfl))⟩
 f8:=Tryz.func65.trans (congrArg some (by kernel_rfl))
 f10:=⟨ "slices.insertionSortOrdered[int]",by decide,Tryz.func170.trans (congrArg some (by kernel_rfl))⟩
 f11:=⟨ "slices.heapSortOrdered[int]",by decide,Tryz.func171.trans (congrArg some (by kernel_rfl))⟩
 f12:=⟨ "slices.breakPatternsOrdered[int]",by decide,Tryz.func172.trans (congrArg some (by kernel_rfl))⟩
 f13:=⟨ "slices.choosePivotOrdered[int]",by decide,Tryz.func173.trans (congrArg some (by kernel_rfl))⟩
 f14:=⟨ "slices.reverseRangeOrdered[int]",by decide,Tryz.func174.trans (congrArg some (by kernel_rfl))⟩
 f15:=⟨ "slices.partialInsertionSortOrdered[int]",by decide,Tryz.func175.trans (congrArg some (by kernel_rfl))⟩
 f16:=⟨ "cmp.Less[int]",by decide,Tryz.func176.trans (congrArg some (by kernel_rfl))⟩
 f17:=⟨ "slices.partitionEqualOrdered[int]",by decide,Tryz.func177.trans (congrArg some (by kernel_rfl))⟩
 f18:=⟨ "slices.partitionOrdered[int]",by decide,Tryz.func178.trans (congrArg some (by kernel_rfl))⟩
 f19:=Tryz.func102.trans (congrArg some (by kernel_rfl))
 f20:=Tryz.func103.trans (congrArg some (by kernel_rfl))
 f30:=⟨ "slices.siftDownOrdered[int]",by decide,Tryz.func179.trans (congrArg some (by kernel_rfl))⟩
 f31:=Tryz.func132.trans (congrArg some (by kernel_rfl))
 f32:=Tryz.func133.trans (congrArg some (by kernel_rfl))
 f33:=⟨ "slices.medianAdjacentOrdered[int]",by decide,Tryz.func180.trans (congrArg some (by kernel_rfl))⟩
 f34:=⟨ "slices.medianOrdered[int]",by decide,Tryz.func181.trans (congrArg some (by kernel_rfl))⟩
 f35:=⟨ "cmp.isNaN[int]",by decide,Tryz.func104.trans (congrArg some (by kernel_rfl))⟩
 f40:=⟨ "slices.order2Ordered[int]",by decide,Tryz.func182.trans (congrArg some (by kernel_rfl))⟩
 t0:=Tryz.underlying0
 a0:=Tryz.isAgg0
 z0:=Tryz.sizeOf0
 v0:=Tryz.zeroValue0
 t3:=Tryz.underlying3
 a3:=Tryz.isAgg3
 z3:=Tryz.sizeOf3
 v3:=Tryz.zeroValue3
 t4:=Tryz.underlying4
 a4:=Tryz.isAgg4
 z4:=Tryz.sizeOf4
 v4:=Tryz.zeroValue4
 t5:=Tryz.underlying5
 a5:=Tryz.isAgg5
 z5:=Tryz.sizeOf5
 v5:=Tryz.zeroValue5
 t9:=Tryz.underlying9
 a9:=Tryz.isAgg9
 z9:=Tryz.sizeOf9
 v9:=Tryz.zeroValue9
 t22:=Tryz.underlying51
 a22:=Tryz.isAgg51
 z22:=Tryz.sizeOf51
 v22:=Tryz.zeroValue51
 t23:=Tryz.underlying51
 a23:=Tryz.isAgg51
 z23:=Tryz.sizeOf51
 v23:=Tryz.zeroValue51
 t25:=Tryz.underlying3
 a25:=Tryz.isAgg3
 z25:=Tryz.sizeOf3
 v25:=Tryz.zeroValue3
 t32:=Tryz.underlying124
 a32:=Tryz.isAgg124
 z32:=Tryz.sizeOf124
 v32:=Tryz.zeroValue124
 t35:=Tryz.underlying156
 a35:=Tryz.isAgg156
 z35:=Tryz.sizeOf156
 v35:=Tryz.zeroValue156
 t36:=Tryz.underlying157
 a36:=Tryz.isAgg157
 z36:=Tryz.sizeOf157
 v36:=Tryz.zeroValue157
 t41:=Tryz.underlying136
 a41:=Tryz.isAgg136
 z41:=Tryz.sizeOf136
 v41:=Tryz.zeroValue136
 t44:=Tryz.underlying163
 a44:=Tryz.isAgg163
 z44:=Tryz.sizeOf163
 v44:=Tryz.zeroValue163
 t46:=Tryz.underlying165
 a46:=Tryz.isAgg165
 z46:=Tryz.sizeOf165
 v46:=Tryz.zeroValue165
 t53:=Tryz.underlying200
 a53:=Tryz.isAgg200
 z53:=Tryz.sizeOf200
 v53:=Tryz.zeroValue200
 t57:=Tryz.underlying204
 a57:=Tryz.isAgg204
 z57:=Tryz.sizeOf204
 v57:=Tryz.zeroValue204
 t63:=Tryz.underlying223
 a63:=Tryz.isAgg223
 z63:=Tryz.sizeOf223
 v63:=Tryz.zeroValue223
 t64:=Tryz.underlying224
 a64:=Tryz.isAgg224
 z64:=Tryz.sizeOf224
 v64:=Tryz.zeroValue224
theorem sortsA (m:Nat):AnyZI.SortsIn Tryz.prog sortedA_ren Fence.wide m :=
 ⟨fun blk off cap ss W hH hblk hsz=>callsIn_wide.2 (AnyM.slices_Sort_int sortA blk off cap ss W hH hblk hsz),
  fun p cap W=>callsIn_wide.2 (AnyM.slices_Sort_int_none sortA p cap W)⟩
theorem keys_any (mb:Option Nat) (w:World):Calls Tryz.prog 112 #[.map mb] w fun e w'=>e=.returned (.func (.func 144) #[] #[.pointer (some ⟨w.heap.size,0,none⟩)])∧w'=w.alloc (.cells #[.map mb] 172) :=
 callsIn_wide.1 (AnyZI.keys_in keysA Fence.wide 5 trivial rfl mb w)
theorem sorted_any {H:Type} (B b nn:Nat) (D0:DataW H) (R:Value→Option (DataW H × List MemPlace)) (w:World) (hown:w.ownsMap Tryz.prog 3 R b nn D0) (hn:nn≤100000) (hB:Blk w B 172 #[.map (some b)]) :
 Calls Tryz.prog 111 #[.func (.func 144) #[] #[.pointer (some ⟨B,0,none⟩)]] w fun e w'=>∃ (v:Value) (ss:List Int),e=.returned v∧ss.Perm (intKeys D0) ∧
  w'.ownsRow w.heap.size 3 1 v ss.length ((ss.mergeSort (fun x y=>decide (x≤y))).map encZ)∧Below w.heap.size w w':=by
 have hsz:=hown.size_le
 have hseq:SeqGives Fence.wide 2 Tryz.prog 144 #[.pointer (some ⟨B,0,none⟩)] encZ (fun ss=>ss.Perm (intKeys D0)) (Maps.size D0) w :=
  AnyZI.keys_gives (ρ:=keysA_ren) { keysA with } Fence.wide _ trivial rfl (by omega) B b nn D0 w hB.lt (hB.cell 0) hown
 have cS:=AnyZI.sorted_in sortedA Fence.wide 5 trivial trivial trivial trivial rfl (by omega) (sortsA _) (enters_of Tryz.func143 (by kernel_rfl) rfl) 144 #[.pointer (some ⟨B,0,none⟩)] trivial (enters_of Tryz.func144 (by kernel_rfl) rfl) _ _ (by unfold maxLen;omega) (by omega) _ hseq
 change CallsIn _ _ Tryz.prog 111 _ _ _ at cS
 refine (callsIn_wide.1 cS).mono ?_
 rintro e w' ⟨v,ss,h1,h2,h3,-,h5⟩
 exact ⟨v,ss,h1,h2,h3,h5⟩
end Go.Proofs.YtebkniakflhhkaaGreatDoor
/- idsOf of gauge: the Ids of bounds, each once, ascending. -/
namespace Go.Proofs.YtebkniakflhhkaaGreatDoor
open Go.Lib (hid)
open Go.RowKit Go.Maps
def insU (x:Int):List Int→List Int
 | []=>[x]
 | y::r=>if x<y then x::y::r else if x=y then y::r else y::insU x r
def idsL (l:List Bnd):List Int:=(l.map (·.b)).foldr (fun x acc=>if x=0 then acc else insU x acc) []
theorem mem_insU (x z:Int):∀ l:List Int,z∈insU x l ↔ z=x∨z∈l
 | []=>by simp [insU]
 | y::r=>by
  unfold insU
  by_cases h1:x<y
  · rw [if_pos h1];simp
  · rw [if_neg h1]
    by_cases h2:x=y
    · rw [if_pos h2];subst h2;simp
    · rw [if_neg h2,List.mem_cons,mem_insU x z r,List.mem_cons]
      constructor
      · rintro (h|h|h)
        · exact .inr (.inl h)
        · exact .inl h
        · exact .inr (.inr h)
      · rintro (h|h|h)
        · exact .inr (.inl h)
        · exact .inl h
        · exact .inr (.inr h)
theorem insU_sorted (x:Int):∀ l:List Int,l.Pairwise (· < ·)→(insU x l).Pairwise (· < ·)
 | [],_=>by simp [insU]
 | y::r,h=>by
  rw [List.pairwise_cons] at h
  unfold insU
  by_cases h1:x<y
  · rw [if_pos h1,List.pairwise_cons]
    exact ⟨fun z hz=>by rcases List.mem_cons.1 hz with e|e;(subst e;exact h1);exact Int.lt_trans h1 (h.1 z e),List.pairwise_cons.2 h⟩
  · rw [if_neg h1]
    by_cases h2:x=y
    · rw [if_pos h2];exact List.pairwise_cons.2 h
    · rw [if_neg h2,List.pairwise_cons]
      exact ⟨fun z hz=>by rcases (mem_insU x z r).1 hz with e|e;(subst e;omega);exact h.1 z e,insU_sorted x r h.2⟩
theorem fold_ids:∀ l:List Int,(l.foldr (fun x acc=>if x=0 then acc else insU x acc) []).Pairwise (· < ·)∧∀ z,z∈l.foldr (fun x acc=>if x=0 then acc else insU x acc) [] ↔ z≠0∧z∈l
 | []=>⟨List.Pairwise.nil,fun z=>by simp⟩
 | x::r=>by
  obtain ⟨h1,h2⟩:=fold_ids r
  rw [List.foldr_cons]
  by_cases hx:x=0
  · rw [if_pos hx]
    refine ⟨h1,fun z=>?_⟩
    rw [h2 z,List.mem_cons,hx]
    constructor
    · exact fun h=>⟨h.1,.inr h.2⟩
    · exact fun h=>⟨h.1,h.2.resolve_left h.1⟩
  · rw [if_neg hx]
    refine ⟨insU_sorted x _ h1,fun z=>?_⟩
    rw [mem_insU,h2 z,List.mem_cons]
    constructor
    · rintro (h|h)
      · exact ⟨by rw [h];exact hx,.inl h⟩
      · exact ⟨h.1,.inr h.2⟩
    · exact fun h=>h.2.elim .inl (fun e=>.inr ⟨h.1,e⟩)
theorem idsL_sorted (l:List Bnd):(idsL l).Pairwise (· < ·):=(fold_ids _).1
theorem mem_idsL {l:List Bnd} {z:Int}:z∈idsL l ↔ z≠0∧∃ x∈l,x.b=z:=by
 unfold idsL
 rw [(fold_ids _).2 z,List.mem_map]
theorem keys_sorted {H:Type} {P:Program} {k:TypeId} {R:Value→Option (DataW H × List MemPlace)} {w:World} {b n:Nat} {D:DataW H} (hown:w.ownsMap P k R b n D) (hk:P.underlying k=some (.int .i64))
 {V:List Int} (hV:V.Pairwise (· < ·)) (hm:∀ x,x∈V ↔ has D (.int .i64 x)=true) {ss:List Int} (hp:ss.Perm (intKeys D)):ss.mergeSort (fun x y=>decide (x≤y))=V:=by
 obtain ⟨es,hD,hpw,_⟩:=hown.entries (Maps.int_keyed hk)
 obtain ⟨es',hD',hko⟩:=hown.keysOf
 obtain rfl:es=es':=by rw [hD] at hD';simpa using hD'
 subst hD
 have hnd:V.Nodup:=hV.imp (fun h=>Int.ne_of_lt h)
 have h1:=perm_intKeys hpw (fun p hp=>by obtain ⟨v,hv⟩:=hko p hp;obtain ⟨x,_,hx,_⟩:=Maps.keyOf_i64 hk hv;exact ⟨x,hx⟩) hnd hm
 have h2:=mergeSort_of_perm_i (hp.trans h1.symm)
 have h3:V.mergeSort leI=V:=List.mergeSort_of_pairwise (hV.imp (fun h=>by simpa [leI] using Int.le_of_lt h))
 exact h2.trans h3
set_option maxRecDepth 100000 in
theorem idsOf_any (A:Option Addr) (n c:Nat) (l:List Bnd) (hw:∀ x∈l,Wf x.b) (hn:n≤1000) (w:World) (hr:RdB w A n c l) :
 Calls Tryz.prog 76 #[.slice A n c] w fun e w'=>∃ A' n' c',e=.returned (.slice A' n' c')∧OwnI w' w.heap.size A' n' c' (idsL l)∧Below w.heap.size w w':=by
 obtain ⟨i0,hi0,hz0,hz1,hz2⟩:=info_parts infoI
 have HI:=hid hi0;have HZ0:=hid hz0;have HZ1:=hid hz1;have HZ2:=hid hz2;clear hi0 hz0 hz1 hz2
 have HR:=hid hr;have HW:=hid hw;clear hr hw
 go_enter Tryz.func76,Tryz.ntmps76
 go_wp2
 go_loopw [9,3] (fun i v wr=>∃ k:Nat,k≤n∧i=.int .i64 k∧wr.ownsRow w.heap.size 3 1 v k (((l.take k).map (·.b)).map (Value.int .i64))∧Below w.heap.size w wr) (fun i _ _=>n-(intOf i).toNat)
 case atStart=>exact ⟨0,Nat.zero_le _,rfl,World.ownsRow_nil _ _ _ _,Below.refl _ _⟩
 case round =>
  obtain ⟨k,hk,rfl,hown,hb⟩:=hrel
  by_cases hlt:k<n
  · have hlt':(k:Int)<n:=by omega
    obtain ⟨g,o,f,t,m,i,rfl,hbw,hx,c0,c1,c2,c3⟩:=(HR.out.below hb).get hlt
    have htk:(l.take (k+1)).map (·.b)=(l.take k).map (·.b)++[i]:=by rw [List.take_add_one,hx,List.map_append];rfl
    have HTK:=hid htk;clear htk hx
    have OW:=hid ((hown.alloc (.cells #[.int .i64 f,.int .i64 t,.int .i64 m,.int .i64 i] 50)).alloc (.cells #[.int .i64 i] 3));clear hown
    have n1:=(Blk.new (wr.alloc (.cells #[.int .i64 f,.int .i64 t,.int .i64 m,.int .i64 i] 50)) 3 #[.int .i64 i])
    simp only [World.size_alloc] at n1
    have N1:=hid n1;clear n1
    have hbb:=(hb.alloc hb.size (.cells #[.int .i64 f,.int .i64 t,.int .i64 m,.int .i64 i] 50))
    have hbb2:=hbb.alloc hbb.size (.cells #[.int .i64 i] 3)
    have C5:=(Blk.new wr 50 #[.int .i64 f,.int .i64 t,.int .i64 m,.int .i64 i])
    have d3:(wr.alloc (.cells #[.int .i64 f,.int .i64 t,.int .i64 m,.int .i64 i] 50)).cell? ⟨wr.heap.size,3,none⟩=some (.int .i64 i):=C5.cell 3
    clear C5
    go_wp2_with (at_builtin;refine wpList_append_own _ rfl (.tmp 13) (.tmp 16) 51 rfl w.heap.size 3 i0 _ 1 8 Tryz.underlying51 HI.out HZ0.out HZ1.out HZ2.out rfl (by omega) u3 _ _ rfl OW.out ⟨wr.heap.size+1,0,none⟩ 1 1 [.int .i64 i] rfl rfl (fun j u hu=>by rw [Addr.add_lit,Nat.zero_add,N1.out.cell];simpa using hu) (by simp [Value.oneCell']) (by unfold maxLen;omega) (by omega) hbb2.size ?_;intro v' w4 hown4 hg4 _;have HO4:=hid hown4;have HG4:=hid hg4;clear hown4 hg4)
    go_roundw
    case rel=>exact ⟨k+1,by omega,by go_num,(by rw [HTK.out,List.map_append];exact HO4.out),hbb2.grown HG4.out hbb2.size (fun q e=>(OW.out.lt q e).1)⟩
    case measure=>simp [intOf];omega
  · obtain rfl:k=n:=by omega
    rw [List.take_of_length_le (by rw [HR.out.len];exact Nat.le_refl _)] at hown
    obtain ⟨A5,c5,hv5,-⟩:=own_form hown
    subst hv5
    have hrd:=(OwnI.rd (show OwnI wr w.heap.size A5 k c5 (l.map (·.b)) from hown)).1
    have hset:=idSet_any A5 k c5 (l.map (·.b)) (fun v hv=>by obtain ⟨x,hx,rfl⟩:=List.mem_map.1 hv;exact HW.out x hx) (by omega) wr hrd
    have HSET:=hid hset;clear hset hrd hown
    go_wp2_with fail
    refine HSET.out.mono ?_
    rintro e w1 ⟨b1,rfl,hbase,⟨nn,D,hown,hnn,hsd⟩,hb1⟩
    have hB1:=hb.trans (hb1.mono hb.size)
    rw [List.length_map,HR.out.len] at hnn
    have HO1:=hid hown;have HSD:=hid (hsd.del 0);clear hown hsd
    go_wp2_with (at_delete;refine wpList_delete_own _ rfl _ _ 172 3 rfl 4 (Maps.int_keyed Tryz.underlying3) Tryz.underlying172 _ b1 nn _ rfl HO1.out _ _ rfl (Maps.keyOf_int_mk Tryz.underlying3 (wf_of (by omega):Wf 0)) ?_;intro w2 hown2 hturn2;have HO2:=hid hown2;have HT2:=hid hturn2;clear hown2 hturn2)
    refine (keys_any _ _).mono ?_
    rintro e w3 ⟨rfl,rfl⟩
    have hB2:=hB1.grown HT2.out.grown hB1.size (fun q e=>by cases e;have:=hb.size;omega)
    have hB3:=hB2.alloc hB2.size (.cells #[.map (some b1)] 172)
    have HO3:=hid (HO2.out.alloc (.cells #[.map (some b1)] 172))
    go_wp2_with fail
    refine (sorted_any w2.heap.size b1 nn _ _ _ HO3.out (by omega) (Blk.new w2 172 #[.map (some b1)])).mono ?_
    rintro e w4 ⟨v,ss,rfl,hperm,hrow,hb4⟩
    have hV:=keys_sorted HO3.out Tryz.underlying3 (idsL_sorted l) (fun x=>by
     rw [HSD.out.2.1,decide_eq_true_eq,mem_idsL,List.mem_filter,List.mem_map]
     simp only [decide_eq_true_eq]
     exact And.comm) hperm
    rw [hV] at hrow
    have hlen:=hrow.1
    rw [List.length_map,Nat.mul_one] at hlen
    rw [← hlen] at hrow
    obtain ⟨A6,c6,hv6,-⟩:=own_form hrow
    subst hv6
    have HROW:=hid hrow;clear hrow hlen hperm hV
    go_wp2
    go_ret
    exact ⟨_,_,_,rfl,owns_base HROW.out hB3.size,hB3.trans (hb4.mono hB3.size)⟩
end Go.Proofs.YtebkniakflhhkaaGreatDoor
