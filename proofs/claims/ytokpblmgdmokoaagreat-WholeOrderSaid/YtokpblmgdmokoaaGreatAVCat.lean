import Derived.Test.YtokpblmgdmokoaaGreatProg
import Derived.Deep.RegionHeld3
import Derived.Deep.WholeRow
import Derived.DeepKeys4
import Derived.Lib.Hide
import Derived.Maps.OwnIn
import Derived.Shelf.Slices.Cells
import Derived.Shelf.Slices.Clone
import Derived.Shelf.Slices.In.SortNone
import Derived.Shelf.SlicesE.Clone
import Derived.Shelf.Sort.Plain
import Derived.Shelf.Spec.SlicesGrow
import Derived.Sort.OwnSortedInts
import Derived.WalkLawsBesides
import Derived.WalkSpells
import Derived.Test.YtokpblmgdmokoaaGreatAVApart
import Derived.Laws.AppendOwnNone
import Derived.Test.YtokpblmgdmokoaaGreatAVOf
set_option linter.unusedSimpArgs false
set_option linter.unusedVariables false
namespace Go.Proofs.YtokpblmgdmokoaaGreat
open Go.Lib (hid)
open Go.Shelf
def lays189_ren:Go.Shelf.Ren:=⟨fun|189=>112|125=>135|257=>134|128=>158|129=>159|294=>149|295=>150|296=>151|297=>152|298=>153|299=>154|216=>155|300=>156|301=>157|328=>168|329=>169|330=>170|331=>171|332=>172|215=>173|343=>177|n=>n,fun|28=>30|3=>3|46=>143|0=>0|51=>160|53=>162|4=>4|183=>155|182=>154|131=>150|5=>5|9=>9|218=>168|222=>172|228=>176|229=>177|n=>n,fun|n=>n⟩
theorem lays189:Go.Proofs.Lays.n189 Tryz.prog lays189_ren:={
 mixed:=by kernel_rfl
 f125:=Tryz.func135.trans (congrArg some (by kernel_rfl))
 f128:=Tryz.func158.trans (congrArg some (by kernel_rfl))
 f129:=Tryz.func159.trans (congrArg some (by kernel_rfl))
 f189:=Tryz.func112.trans (congrArg some (by kernel_rfl))
 f215:=Tryz.func173.trans (congrArg some (by kernel_rfl))
 f216:=Tryz.func155.trans (congrArg some (by kernel_rfl))
 f257:=Tryz.func134.trans (congrArg some (by kernel_rfl))
 f294:=Tryz.func149.trans (congrArg some (by kernel_rfl))
 f295:=Tryz.func150.trans (congrArg some (by kernel_rfl))
 f296:=Tryz.func151.trans (congrArg some (by kernel_rfl))
 f297:=Tryz.func152.trans (congrArg some (by kernel_rfl))
 f298:=Tryz.func153.trans (congrArg some (by kernel_rfl))
 f299:=Tryz.func154.trans (congrArg some (by kernel_rfl))
 f300:=Tryz.func156.trans (congrArg some (by kernel_rfl))
 f301:=Tryz.func157.trans (congrArg some (by kernel_rfl))
 f328:=Tryz.func168.trans (congrArg some (by kernel_rfl))
 f329:=Tryz.func169.trans (congrArg some (by kernel_rfl))
 f330:=Tryz.func170.trans (congrArg some (by kernel_rfl))
 f331:=Tryz.func171.trans (congrArg some (by kernel_rfl))
 f332:=Tryz.func172.trans (congrArg some (by kernel_rfl))
 f343:=Tryz.func177.trans (congrArg some (by kernel_rfl))
 t0:=Tryz.underlying0
 a0:=Tryz.isAgg0
 z0:=Tryz.sizeOf0
 v0:=Tryz.zeroValue0
 t3:=Tryz.underlying3
 a3:=Tryz.isAgg3
 z3:=Tryz.sizeOf3
 v3:=Tryz.zeroValue3
 t4:=Tryz.underlying4
 a4:=Tryz.isAgg4
 z4:=Tryz.sizeOf4
 v4:=Tryz.zeroValue4
 t5:=Tryz.underlying5
 a5:=Tryz.isAgg5
 z5:=Tryz.sizeOf5
 v5:=Tryz.zeroValue5
 t9:=Tryz.underlying9
 a9:=Tryz.isAgg9
 z9:=Tryz.sizeOf9
 v9:=Tryz.zeroValue9
 t28:=Tryz.underlying30
 a28:=Tryz.isAgg30
 z28:=Tryz.sizeOf30
 v28:=Tryz.zeroValue30
 t46:=Tryz.underlying143
 a46:=Tryz.isAgg143
 z46:=Tryz.sizeOf143
 v46:=Tryz.zeroValue143
 t51:=Tryz.underlying160
 a51:=Tryz.isAgg160
 z51:=Tryz.sizeOf160
 v51:=Tryz.zeroValue160
 t53:=Tryz.underlying162
 a53:=Tryz.isAgg162
 z53:=Tryz.sizeOf162
 v53:=Tryz.zeroValue162
 t131:=Tryz.underlying150
 a131:=Tryz.isAgg150
 z131:=Tryz.sizeOf150
 v131:=Tryz.zeroValue150
 t182:=Tryz.underlying154
 a182:=Tryz.isAgg154
 z182:=Tryz.sizeOf154
 v182:=Tryz.zeroValue154
 t183:=Tryz.underlying155
 a183:=Tryz.isAgg155
 z183:=Tryz.sizeOf155
 v183:=Tryz.zeroValue155
 t218:=Tryz.underlying168
 a218:=Tryz.isAgg168
 z218:=Tryz.sizeOf168
 v218:=Tryz.zeroValue168
 t222:=Tryz.underlying172
 a222:=Tryz.isAgg172
 z222:=Tryz.sizeOf172
 v222:=Tryz.zeroValue172
 t228:=Tryz.underlying176
 a228:=Tryz.isAgg176
 z228:=Tryz.sizeOf176
 v228:=Tryz.zeroValue176
 t229:=Tryz.underlying177
 a229:=Tryz.isAgg177
 z229:=Tryz.sizeOf177
 v229:=Tryz.zeroValue177 }
def laysNm215_ren:Go.Shelf.Ren:=⟨fun|15=>107|n=>n,fun|22=>30|3=>3|4=>4|n=>n,fun|n=>n⟩
theorem laysNm215:Go.Proofs.Lays2.n15 Tryz.prog laysNm215_ren:={
 mixed:=by kernel_rfl
 f15:=Tryz.func107.trans (congrArg some (by kernel_rfl))
 t3:=Tryz.underlying3
 a3:=Tryz.isAgg3
 z3:=Tryz.sizeOf3
 v3:=Tryz.zeroValue3
 t4:=Tryz.underlying4
 a4:=Tryz.isAgg4
 z4:=Tryz.sizeOf4
 v4:=Tryz.zeroValue4
 t22:=Tryz.underlying30
 a22:=Tryz.isAgg30
 z22:=Tryz.sizeOf30
 v22:=Tryz.zeroValue30
 i3:=by kernel_rfl }
def laysNm220_ren:Go.Shelf.Ren:=⟨fun|20=>113|n=>n,fun|22=>30|3=>3|4=>4|0=>0|n=>n,fun|n=>n⟩
theorem laysNm220:Go.Proofs.Lays2.n20 Tryz.prog laysNm220_ren:={
 mixed:=by kernel_rfl
 f20:=Tryz.func113.trans (congrArg some (by kernel_rfl))
 t0:=Tryz.underlying0
 a0:=Tryz.isAgg0
 z0:=Tryz.sizeOf0
 v0:=Tryz.zeroValue0
 t3:=Tryz.underlying3
 a3:=Tryz.isAgg3
 z3:=Tryz.sizeOf3
 v3:=Tryz.zeroValue3
 t4:=Tryz.underlying4
 a4:=Tryz.isAgg4
 z4:=Tryz.sizeOf4
 v4:=Tryz.zeroValue4
 t22:=Tryz.underlying30
 a22:=Tryz.isAgg30
 z22:=Tryz.sizeOf30
 v22:=Tryz.zeroValue30
 i3:=by kernel_rfl }
def laysSlE041_f106_ren:Go.Shelf.Ren:=⟨fun|41=>106|n=>n,fun|22=>22|23=>48|4=>4|n=>n,fun|n=>n⟩
theorem laysSlE041_f106:Go.Proofs.SlLaysE0.n41 Tryz.prog laysSlE041_f106_ren:={
 mixed:=by kernel_rfl
 f41:=⟨Tryz.f106.name,by decide,Tryz.func106.trans (congrArg some (by kernel_rfl))⟩
 t4:=Tryz.underlying4
 a4:=Tryz.isAgg4
 z4:=Tryz.sizeOf4
 v4:=Tryz.zeroValue4
 t22:=Tryz.underlying22
 a22:=Tryz.isAgg22
 z22:=Tryz.sizeOf22
 v22:=Tryz.zeroValue22 }
def laysGrow_ren:Go.Shelf.Ren:=⟨fun|4=>133|n=>n,fun|22=>30|25=>3|0=>0|3=>3|4=>4|9=>9|20=>20|n=>n,fun|n=>n⟩
theorem laysGrow:Go.Proofs.Lays8.n4 Tryz.prog laysGrow_ren:={
 mixed:=by kernel_rfl
 f4:=⟨Tryz.f133.name,by decide,Tryz.func133.trans (congrArg some (by kernel_rfl))⟩
 t0:=Tryz.underlying0
 a0:=Tryz.isAgg0
 z0:=Tryz.sizeOf0
 v0:=Tryz.zeroValue0
 t3:=Tryz.underlying3
 a3:=Tryz.isAgg3
 z3:=Tryz.sizeOf3
 v3:=Tryz.zeroValue3
 t4:=Tryz.underlying4
 a4:=Tryz.isAgg4
 z4:=Tryz.sizeOf4
 v4:=Tryz.zeroValue4
 t9:=Tryz.underlying9
 a9:=Tryz.isAgg9
 z9:=Tryz.sizeOf9
 v9:=Tryz.zeroValue9
 t20:=Tryz.underlying20
 a20:=Tryz.isAgg20
 z20:=Tryz.sizeOf20
 v20:=Tryz.zeroValue20
 t22:=Tryz.underlying30
 a22:=Tryz.isAgg30
 z22:=Tryz.sizeOf30
 v22:=Tryz.zeroValue30 }
end Go.Proofs.YtokpblmgdmokoaaGreat
namespace Go.Proofs.YtokpblmgdmokoaaGreat
open Go.Lib (hid)
open Go.RowKit Go.Maps
theorem infoIv:(Tryz.prog.info? 3).map (fun i=>(i.zero,i.size,i.bytes))=some (some (.int .i64 0),1,8):=by kernel_rfl
theorem cells_hcV {w:World} {ad:Addr} {xs:List Value} (h:Cells w (some ad) xs):∀ (j:Nat) u,xs[j]?=some u→w.cell? (ad.add j)=some u:=by
 rcases h with h0|⟨b,o,e,hlt,hc⟩
 · subst h0;intro j u h;simp at h
 · injection e with e
   subst e
   intro j u h
   rw [Addr.add_lit]
   exact hc j u h
theorem wp_app_ints {ops:Array Oper} {rest:List Oper} {o:Oper} {a:Act} {w:World} {Q:Exit→Act→World→Prop} (hgd:o.guard=none) (s x:Operand)
 (ho:o.op=.call { callee:=.builtin .append,args:=#[s,x],argTypes:=#[30,30] }) (base:Nat) (v:Value) (n:Nat) (l:List Int) (hs:a.eval s=v) (hown:w.ownsRow base 3 1 v n (l.map (Value.int .i64)))
 (B:Option Addr) (m d:Nat) (l2:List Int) (hx:a.eval x=.slice B m d) (hr:RdI w B m d l2) (h63:n+m≤100000) (hbase:base≤w.heap.size)
 (h:∀ v' w',w'.ownsRow base 3 1 v' (n+m) ((l++l2).map (Value.int .i64))→Below base w w'→wpList Tryz.prog ops Q rest (a.put o.dst v') w'):wpList Tryz.prog ops Q (o::rest) a w:=by
 obtain ⟨i0,hi0,hz0,hz1,hz2⟩:=info_parts infoIv
 cases B with
 | none =>
  obtain ⟨rfl,rfl⟩:=hr.nil rfl
  have hl2:l2=[]:=List.length_eq_zero_iff.1 hr.len
  subst hl2
  exact wpList_append_own_none hgd s x 30 ho base 3 i0 1 Tryz.underlying30 hi0 v n _ hs hown hx (h v w (by simpa using hown) (Below.refl base w))
 | some ad =>
  refine wpList_append_own w hgd s x 30 ho base 3 i0 _ 1 8 Tryz.underlying30 hi0 hz0 hz1 hz2 rfl (by omega) v n _ hs hown ad m d (l2.map (Value.int .i64)) hx (by rw [List.length_map,hr.len,Nat.mul_one]) (cells_hcV hr.cells) (by simp [Value.oneCell']) (by unfold maxLen;omega) (by omega) hbase fun v' w' h1 h2 _=>?_
  exact h v' w' (by rw [List.map_append];exact h1) ((Below.refl base w).grown h2 hbase fun r e=>(hown.lt r e).1)
set_option maxRecDepth 100000 in
theorem growI_any (n:Nat) (hn:n≤100000) (w:World):Calls Tryz.prog 133 #[.slice none 0 0,.int .i64 (n:Int)] w fun e w'=>∃ v,e=.returned v∧w'.ownsRow w.heap.size 3 1 v 0 []∧Below w.heap.size w w':=by
 by_cases h0:n=0
 · subst h0
   refine (Any8.slices_Grow_room laysGrow none 0 0 0 w (Nat.le_refl _) (by omega) (by omega) (by omega)).mono fun e w' h=>?_
   obtain ⟨rfl,rfl⟩:=h
   exact ⟨_,rfl,World.ownsRow_nil _ _ _ _,Below.refl _ _⟩
 · obtain ⟨i0,hi0,hz0,hz1,hz2⟩:=info_parts infoIv
   refine (Any8.slices_Grow_grow laysGrow i0 (.int .i64 0) hi0 hz0 (by omega) none 0 0 n [] w (Nat.le_refl _) (by omega) (by rw [hz2];omega) (by omega) (by simp) (fun _=>rfl) (fun a h=>by cases h)).mono fun e w' h=>?_
   obtain ⟨rfl,rfl⟩:=h
   have hcap:=grownCap_ge w (0+n) 0 3;have hcap2:=grownCap_ge w n 0 (laysGrow_ren.t 25);have hcap3:=grownCap_ge w (0+n) 0 (laysGrow_ren.t 25)
   refine ⟨_,rfl,⟨rfl,.inr ⟨w.heap.size,_,_,rfl,Nat.le_refl _,Blk.new w.drew _ _,Nat.zero_le _,?_,?_,?_⟩⟩,((Below.refl _ w).drew).alloc (Nat.le_refl _) _⟩
   · exact grownCap_le_maxLen w (0+n) 0 3 (by unfold maxLen;omega)
   · have e:(Builtin.zeroCells (Value.int .i64 0).cells (0+n-0)).size=n:=by simp [Builtin.zeroCells,Value.cells]
     have e2:∀ k,(Builtin.zeroCells (Value.int .i64 0).cells k).size=k:=fun k=>by simp [Builtin.zeroCells,Value.cells]
     rw [Array.size_append,Array.size_append,e2,e2]
     simp
     omega
   · simp
def cS (n m q:Nat):Nat:=if q=0 then 0 else if q=1 then n else n+m
def cL (l1 l2:List Int) (q:Nat):List Int:=if q=0 then [] else if q=1 then l1 else l1++l2
theorem cat_step {w:World} {n m:Nat} {A B:Option Addr} {c d:Nat} {l1 l2:List Int} {b:Nat} (hA:RdI w A n c l1) (hB:RdI w B m d l2) (h0:w.cell? ⟨b,0,none⟩=some (.slice A n c)) (h1:w.cell? ⟨b,1,none⟩=some (.slice B m d)) {q:Nat} (hq:q<2) :
 ∃ A' n' c' l',w.cell? ⟨b,q,none⟩=some (.slice A' n' c')∧RdI w A' n' c' l'∧cS n m (q+1)=cS n m q+n'∧cL l1 l2 (q+1)=cL l1 l2 q++l'∧n'≤n+m∧cS n m q≤n+m∧cS n m (q+1)≤n+m:=by
 obtain rfl|rfl:q=0∨q=1:=by omega
 · exact ⟨A,n,c,l1,h0,hA,by simp [cS],by simp [cL],by omega,by simp [cS],by simp [cS]⟩
 · exact ⟨B,m,d,l2,h1,hB,by simp [cS],by simp [cL],by omega,by simp [cS],by simp [cS]⟩
set_option maxRecDepth 100000 in
set_option maxHeartbeats 4000000 in
theorem concat_any (A B:Option Addr) (n c m d b:Nat) (l1 l2:List Int) (w:World) (hA:RdI w A n c l1) (hB:RdI w B m d l2) (h0:w.cell? ⟨b,0,none⟩=some (.slice A n c)) (h1:w.cell? ⟨b,1,none⟩=some (.slice B m d)) (hlt:b<w.heap.size) (hnm:n+m≤100000) :
 Calls Tryz.prog 111 #[.slice (some ⟨b,0,none⟩) 2 2] w fun e w'=>∃ R k,e=.returned (.slice R (n+m) k)∧OwnI w' w.heap.size R (n+m) k (l1++l2)∧Below w.heap.size w w':=by
 have HA:=hid hA;have HB:=hid hB;have H0:=hid h0;have H1:=hid h1;have HLT:=hid hlt;clear hA hB h0 h1
 go_enter Tryz.func111,Tryz.ntmps111
 go_wp2
 go_loopw [11,3] (fun i s wr=>∃ q:Nat,q≤2∧i=.int .i64 q∧s=.int .i64 (cS n m q:Nat)∧w=wr) (fun i _ _=>2-(intOf i).toNat)
 case atStart=>exact ⟨0,by omega,rfl,rfl,rfl⟩
 case round =>
  obtain ⟨q,hq,rfl,rfl,rfl⟩:=hrel
  by_cases hlt:q<2
  · have hlt':(q:Int)<2:=by omega
    obtain ⟨A',n',c',l',hc,-,hS,-,hn',hb1,hb2⟩:=cat_step HA.out HB.out H0.out H1.out hlt
    have hnn:¬ ((cS n m q:Nat)+(n':Int):Int)<0:=by omega
    have hwr:IntKind.i64.wrap ((cS n m q:Nat)+(n':Int):Int)=(cS n m q:Nat)+(n':Int):=IntWalk.i64_in _ (by omega)
    have HS:=hid hS;clear hS
    go_wp2
    go_roundw
    case rel=>exact ⟨q+1,by omega,by go_num,by rw [HS.out];rfl,by trivial⟩
    case measure=>simp [intOf];omega
  · obtain rfl:q=2:=by omega
    have e2:cS n m 2=n+m:=rfl
    rw [e2]
    clear e2
    have HC:=hid (growI_any (n+m) hnm w)
    go_wp2_with fail
    refine HC.out.mono ?_
    rintro e w1 ⟨v1,rfl,hown,hb⟩
    clear HC
    have HOW:=hid hown;have HBE:=hid hb;clear hown hb
    go_wp2
    go_loopw [27,6] (fun i v wr=>∃ q:Nat,q≤2∧i=.int .i64 q∧wr.ownsRow w.heap.size 3 1 v (cS n m q) ((cL l1 l2 q).map (Value.int .i64))∧Below w.heap.size w wr) (fun i _ _=>2-(intOf i).toNat)
    case atStart=>exact ⟨0,by omega,rfl,HOW.out,HBE.out⟩
    case round =>
     clear HOW HBE
     obtain ⟨q,hq,rfl,hown,hb⟩:=hrel
     have HOW:=hid hown;have HBE:=hid hb;clear hown hb
     by_cases hlt:q<2
     · have hlt':(q:Int)<2:=by omega
       obtain ⟨A',n',c',l',hc,hr,hS,hL,hn',hb1,hb2⟩:=cat_step (HA.out.below HBE.out) (HB.out.below HBE.out) ((HBE.out.cell (p:=⟨b,0,none⟩) HLT.out).trans H0.out) ((HBE.out.cell (p:=⟨b,1,none⟩) HLT.out).trans H1.out) hlt
       have hle:cS n m q+n'≤100000:=by omega
       have HS:=hid hS;have HL:=hid hL;have HR:=hid hr;clear hS hL hr
       have hlt2:b<wr.heap.size:=Nat.lt_of_lt_of_le HLT.out HBE.out.size
       have hsz:=HBE.out.size
       go_wp2_with (at_builtin;refine wp_app_ints rfl (.tmp 31) (.tmp 32) rfl w.heap.size _ (cS n m q) (cL l1 l2 q) rfl HOW.out A' n' c' l' rfl HR.out hle hsz ?_;intro v5 w5 hown5 hb5;have HO5:=hid hown5;have HB5:=hid hb5;clear hown5 hb5)
       go_roundw
       case rel=>exact ⟨q+1,by omega,by go_num,by rw [HS.out,HL.out];exact HO5.out,HBE.out.trans HB5.out⟩
       case measure=>simp [intOf];omega
     · obtain rfl:q=2:=by omega
       obtain ⟨A5,c5,hv5,-⟩:=own_form HOW.out
       subst hv5
       go_wp2
       go_ret
       exact ⟨A5,c5,rfl,HOW.out,HBE.out⟩
end Go.Proofs.YtokpblmgdmokoaaGreat
