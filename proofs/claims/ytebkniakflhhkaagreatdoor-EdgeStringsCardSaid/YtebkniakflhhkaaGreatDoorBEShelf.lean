import Derived.BigQuiet
import Derived.Deep.RegionHeld3
import Derived.Deep.WholeRow
import Derived.Lib.Hide
import Derived.OwnWalkIn
import Derived.WalkLawsBesides
import Derived.WalkSpells
import Derived.Test.YtebkniakflhhkaaGreatDoorANum
import Derived.Lib.AtoiAll
import Derived.Lib.ItoaNum
import Derived.Lib.Join
import Derived.Lib.SplitLaws
import Derived.Test.YtebkniakflhhkaaGreatDoorAESpec
import Derived.Shelf.Strconv.AtoiAll
import Derived.Shelf.Strconv.Itoa3
import Derived.Shelf.Strings.OnBuilder
import Derived.Shelf.Strings.Split
set_option linter.unusedSimpArgs false
set_option linter.unusedVariables false
namespace Go.Proofs.YtebkniakflhhkaaGreatDoor
open Go.RowKit
def Bnd.val (x:Bnd):Value:=.agg #[.int .i64 x.f,.int .i64 x.t,.int .i64 x.m,.int .i64 x.b]
section
variable {w w':World} {A:Option Addr} {n c:Nat}
end
section
variable {w w':World} {g:Nat} {t:TypeId} {cs:Array Value}
end
section
variable {P:Program} {w:World} {ops:Array Oper} {rest:List Oper} {o:Oper} {a:Act} {Q:Exit→Act→World→Prop}
variable {F:Fence} {nn:Nat}
end
end Go.Proofs.YtebkniakflhhkaaGreatDoor
/- CheckSystem of gauge, and what it calls. -/
namespace Go.Proofs.YtebkniakflhhkaaGreatDoor
open Go.RowKit
end Go.Proofs.YtebkniakflhhkaaGreatDoor
/- Short forms for the walks' texts: cells by their place, an operation that is taken first or comes up next (its text is read off the region), facts kept hidden. -/
namespace Go.Proofs.YtebkniakflhhkaaGreatDoor
open Go.RowKit
section
variable {P:Program} {ops:Array Oper} {Q:Exit→Act→World→Prop} {md:Region.Mode} {S:World→Prop} {fuel:Nat} {listed:Array Bool} {a:Act} {w:World}
end
section
open Go.Lib
variable {w w' w0:World} {g B:Nat} {t:TypeId} {cs:Array Value} {A:Option Addr} {n c:Nat} {l:List Bnd} {x:List Int}
end
def digs (n:Int):List UInt8:=if n<10 then [UInt8.ofNat (48+n.toNat)] else [49,UInt8.ofNat (38+n.toNat)]
def okW (p:Prg):Bool:=isStr p.af p.at2 16&&isStr p.bf p.bt 16&&decide (p.at2-p.af=p.bt-p.bf)
theorem okW_ok {p:Prg} (h:okW p=true):0≤p.af∧p.af<p.at2∧p.at2≤16∧0≤p.bf∧p.bf<p.bt∧p.bt≤16∧p.at2-p.af=p.bt-p.bf:=by
 simp only [okW,isStr,Bool.and_eq_true,decide_eq_true_eq] at h
 omega
def spL (p:Prg):List UInt8:=digs p.af++32::(digs p.at2++32::(digs p.bf++32::digs p.bt))
def spB (p:Prg):ByteArray:=⟨(spL p).toArray⟩
theorem cases17 {n:Int} (h0:0≤n) (h1:n≤16) {Q:Int→Prop} (hq:∀ k:Fin 17,Q (k.val:Int)):Q n:=by
 obtain ⟨m,rfl⟩:∃ m:Nat,n=m:=⟨n.toNat,by omega⟩
 exact hq ⟨m,by omega⟩
theorem digs_no (k:Fin 17):(32:UInt8) ∉ digs (k.val:Int):=by revert k;decide +kernel
theorem digs_no32 {n:Int} (h0:0≤n) (h1:n≤16):(32:UInt8) ∉ digs n:=cases17 h0 h1 (Q:=fun n=>(32:UInt8) ∉ digs n) digs_no
theorem digs_atoi (k:Fin 17):Lib.atoiAll (digs (k.val:Int))=.ok (k.val:Int):=by revert k;decide +kernel
theorem digs_num {n:Int} (h0:0≤n) (h1:n≤16):Lib.atoiAll (digs n)=.ok n:=cases17 h0 h1 (Q:=fun n=>Lib.atoiAll (digs n)=.ok n) digs_atoi
theorem digs_lens (k:Fin 17):1≤(digs (k.val:Int)).length∧(digs (k.val:Int)).length≤2:=by revert k;decide +kernel
theorem digs_len {n:Int} (h0:0≤n) (h1:n≤16):1≤(digs n).length∧(digs n).length≤2:=cases17 h0 h1 (Q:=fun n=>1≤(digs n).length∧(digs n).length≤2) digs_lens
theorem digs_dec (n:Nat) (h:n≤16):Lib.decDigits n=digs n:=by
 by_cases h9:n<10
 · rw [Lib.decDigits,dif_pos h9,digs,if_pos (by omega)];simp
 · rw [Lib.decDigits,dif_neg h9,Lib.decDigits,dif_pos (by omega),digs,if_neg (by omega),show n / 10=1 by omega,show 48+n % 10=38+n by omega];simp
theorem spL_len {p:Prg} (h:okW p=true):7≤(spL p).length∧(spL p).length≤11:=by
 obtain ⟨h1,h2,h3,h4,h5,h6,-⟩:=okW_ok h
 have a:=digs_len h1 (by omega);have b:=digs_len (show 0≤p.at2 by omega) h3;have c:=digs_len h4 (by omega);have d:=digs_len (show 0≤p.bt by omega) h6
 simp only [spL,List.length_append,List.length_cons]
 omega
theorem index_free {l r:List UInt8} (h:(32:UInt8) ∉ l):Lib.index (l++32::r) [32]=(l.length:Nat):=by
 rw [Lib.index_one]
 induction l with
 | nil=>simp [Lib.indexByte]
 | cons b l ih =>
  simp only [List.mem_cons,not_or] at h
  rw [List.cons_append,Lib.indexByte,ih h.2]
  have hb:(b == 32)=false:=by simpa using Ne.symm h.1
  simp [hb]
theorem splitK_free {l r:List UInt8} (h:(32:UInt8) ∉ l) (k:Nat):Lib.splitK [32] 0 (k+1) (l++32::r)=l::Lib.splitK [32] 0 k r:=by
 rw [Lib.splitK,index_free h]
 simp
theorem count_free {l r:List UInt8} (h:(32:UInt8) ∉ l):Lib.count (l++32::r) [32]=1+Lib.count r [32]:=by
 rw [Lib.count_one,Lib.count_one,List.count_append,List.count_cons_self,List.count_eq_zero.2 h];omega
theorem count_none {l:List UInt8} (h:(32:UInt8) ∉ l):Lib.count l [32]=0:=by rw [Lib.count_one,List.count_eq_zero.2 h]
def sp1:ByteArray:=⟨#[32]⟩
def wordsB (s:ByteArray):List ByteArray:=Lib.splitB sp1 0 (Lib.countB s sp1) s
theorem words_sp {p:Prg} (h:okW p=true):Lib.countB (spB p) sp1=3∧(wordsB (spB p)).map (·.data.toList)=[digs p.af,digs p.at2,digs p.bf,digs p.bt]:=by
 obtain ⟨h1,h2,h3,h4,h5,h6,-⟩:=okW_ok h
 have n1:=digs_no32 h1 (by omega);have n2:=digs_no32 (show 0≤p.at2 by omega) h3;have n3:=digs_no32 h4 (by omega);have n4:=digs_no32 (show 0≤p.bt by omega) h6
 have hc:Lib.count (spL p) [32]=3:=by
  unfold spL
  rw [count_free n1,count_free n2,count_free n3,count_none n4]
 refine ⟨hc,?_⟩
 unfold wordsB
 rw [Lib.splitB_data,show Lib.countB (spB p) sp1=3 from hc]
 show Lib.splitK [32] 0 3 (spL p)=_
 unfold spL
 rw [splitK_free n1,splitK_free n2,splitK_free n3]
 rfl
theorem bytes_inj {a b:ByteArray} (h:a.data.toList=b.data.toList):a=b:=by
 obtain ⟨⟨a⟩⟩:=a
 obtain ⟨⟨b⟩⟩:=b
 simp at h
 subst h
 rfl
theorem digs_inj {m n:Int} (h0:0≤m) (h1:m≤16) (g0:0≤n) (g1:n≤16) (h:digs m=digs n):m=n:=by
 have a:=digs_num h0 h1
 rw [h,digs_num g0 g1] at a
 injection a with a
 exact a.symm
theorem sp_inj {p q:Prg} (hp:okW p=true) (hq:okW q=true) (h:spB p=spB q):p=q:=by
 have a:=(words_sp hp).2
 rw [h,(words_sp hq).2] at a
 obtain ⟨h1,h2,h3,h4,h5,h6,-⟩:=okW_ok hp
 obtain ⟨g1,g2,g3,g4,g5,g6,-⟩:=okW_ok hq
 simp only [List.cons.injEq,and_true] at a
 obtain ⟨a1,a2,a3,a4⟩:=a
 obtain ⟨p1,p2,p3,p4⟩:=p
 obtain ⟨q1,q2,q3,q4⟩:=q
 dsimp only at *
 rw [digs_inj g1 (by omega) h1 (by omega) a1,digs_inj (by omega) g3 (by omega) h3 a2,digs_inj g4 (by omega) h4 (by omega) a3,digs_inj (by omega) g6 (by omega) h6 a4]
def SpIs (s:ByteArray) (p:Prg):Prop:=okW p=true∧spB p=s
def NoSp (s:ByteArray):Prop:=∀ p,okW p=true→spB p≠s
theorem noSp_len {s:ByteArray} (h:s.size<7∨11<s.size):NoSp s:=by
 intro p hp e
 have:=spL_len hp
 subst e
 simp only [ByteArray.size,spB,List.size_toArray] at h
 omega
theorem noSp_words {s:ByteArray} (h:(wordsB s).length≠4):NoSp s:=by
 intro p hp e
 subst e
 have:=congrArg List.length (words_sp hp).2
 simp at this
 exact h this
theorem sp_words {s:ByteArray} {p:Prg} (h:SpIs s p) {a b c d:ByteArray} (hw:wordsB s=[a,b,c,d]) :
 Lib.atoiAll a.data.toList=.ok p.af∧Lib.atoiAll b.data.toList=.ok p.at2∧Lib.atoiAll c.data.toList=.ok p.bf∧Lib.atoiAll d.data.toList=.ok p.bt:=by
 obtain ⟨hp,rfl⟩:=h
 have e:=(words_sp hp).2
 rw [hw] at e
 simp only [List.map_cons,List.map_nil,List.cons.injEq,and_true] at e
 obtain ⟨e1,e2,e3,e4⟩:=e
 obtain ⟨h1,h2,h3,h4,h5,h6,-⟩:=okW_ok hp
 rw [e1,e2,e3,e4]
 exact ⟨digs_num h1 (by omega),digs_num (by omega) h3,digs_num h4 (by omega),digs_num (by omega) h6⟩
def atoV (l:List UInt8):Int:=match Lib.atoiAll l with | .ok v=>v | .range=>Lib.atoiSat l|_=>0
open Go.Shelf
def lays171_ren:Go.Shelf.Ren:=⟨fun|171=>24|243=>49|246=>77|283=>113|284=>114|285=>115|286=>116|129=>103|317=>145|318=>146|319=>147|320=>148|337=>165|338=>166|n=>n,fun|3=>3|9=>9|2=>2|4=>4|171=>178|0=>0|53=>165|37=>105|5=>5|173=>180|212=>214|51=>163|20=>20|213=>215|46=>124|232=>246|233=>247|n=>n,fun|17=>2|18=>6|19=>7|n=>n⟩
theorem lays171:Go.Proofs.Lays.n171 Tryz.prog lays171_ren:={
 mixed:=by kernel_rfl
 f129:=Tryz.func103.trans (congrArg some (by kernel_rfl))
 f171:=Tryz.func24.trans (congrArg some (by kernel_rfl))
 f243:=Tryz.func49.trans (congrArg some (by kernel_rfl))
 f246:=Tryz.func77.trans (congrArg some (by kernel_rfl))
 f283:=Tryz.func113.trans (congrArg some (by kernel_rfl))
 f284:=Tryz.func114.trans (congrArg some (by kernel_rfl))
 f285:=Tryz.func115.trans (congrArg some (by kernel_rfl))
 f286:=Tryz.func116.trans (congrArg some (by kernel_rfl))
 f317:=Tryz.func145.trans (congrArg some (by kernel_rfl))
 f318:=Tryz.func146.trans (congrArg some (by kernel_rfl))
 f319:=Tryz.func147.trans (congrArg some (by kernel_rfl))
 f320:=Tryz.func148.trans (congrArg some (by kernel_rfl))
 f337:=Tryz.func165.trans (congrArg some (by kernel_rfl))
 f338:=Tryz.func166.trans (congrArg some (by kernel_rfl))
 t0:=Tryz.underlying0
 a0:=Tryz.isAgg0
 z0:=Tryz.sizeOf0
 v0:=Tryz.zeroValue0
 t2:=Tryz.underlying2
 a2:=Tryz.isAgg2
 z2:=Tryz.sizeOf2
 v2:=Tryz.zeroValue2
 t3:=Tryz.underlying3
 a3:=Tryz.isAgg3
 z3:=Tryz.sizeOf3
 v3:=Tryz.zeroValue3
 t4:=Tryz.underlying4
 a4:=Tryz.isAgg4
 z4:=Tryz.sizeOf4
 v4:=Tryz.zeroValue4
 t5:=Tryz.underlying5
 a5:=Tryz.isAgg5
 z5:=Tryz.sizeOf5
 v5:=Tryz.zeroValue5
 t9:=Tryz.underlying9
 a9:=Tryz.isAgg9
 z9:=Tryz.sizeOf9
 v9:=Tryz.zeroValue9
 t20:=Tryz.underlying20
 a20:=Tryz.isAgg20
 z20:=Tryz.sizeOf20
 v20:=Tryz.zeroValue20
 t37:=Tryz.underlying105
 a37:=Tryz.isAgg105
 z37:=Tryz.sizeOf105
 v37:=Tryz.zeroValue105
 t46:=Tryz.underlying124
 a46:=Tryz.isAgg124
 z46:=Tryz.sizeOf124
 v46:=Tryz.zeroValue124
 t51:=Tryz.underlying163
 a51:=Tryz.isAgg163
 z51:=Tryz.sizeOf163
 v51:=Tryz.zeroValue163
 t53:=Tryz.underlying165
 a53:=Tryz.isAgg165
 z53:=Tryz.sizeOf165
 v53:=Tryz.zeroValue165
 t171:=Tryz.underlying178
 a171:=Tryz.isAgg178
 z171:=Tryz.sizeOf178
 v171:=Tryz.zeroValue178
 t173:=Tryz.underlying180
 a173:=Tryz.isAgg180
 z173:=Tryz.sizeOf180
 v173:=Tryz.zeroValue180
 t212:=Tryz.underlying214
 a212:=Tryz.isAgg214
 z212:=Tryz.sizeOf214
 v212:=Tryz.zeroValue214
 t213:=Tryz.underlying215
 a213:=Tryz.isAgg215
 z213:=Tryz.sizeOf215
 t232:=Tryz.underlying246
 a232:=Tryz.isAgg246
 z232:=Tryz.sizeOf246
 v232:=Tryz.zeroValue246
 t233:=Tryz.underlying247
 a233:=Tryz.isAgg247
 z233:=Tryz.sizeOf247
 v233:=Tryz.zeroValue247
 g17:=by kernel_rfl
 g18:=by kernel_rfl
 g19:=by kernel_rfl }
def lays156_ren:Go.Shelf.Ren:=⟨fun|156=>25|165=>50|166=>51|169=>52|240=>78|241=>79|276=>117|277=>118|n=>n,fun|31=>65|9=>9|3=>3|4=>4|0=>0|20=>20|72=>107|76=>73|70=>104|37=>105|75=>72|127=>141|164=>182|5=>5|80=>109|n=>n,fun|n=>n⟩
theorem lays156:Go.Proofs.Lays.n156 Tryz.prog lays156_ren:={
 mixed:=by kernel_rfl
 f156:=Tryz.func25.trans (congrArg some (by kernel_rfl))
 f165:=Tryz.func50.trans (congrArg some (by kernel_rfl))
 f166:=Tryz.func51.trans (congrArg some (by kernel_rfl))
 f169:=Tryz.func52.trans (congrArg some (by kernel_rfl))
 f240:=Tryz.func78.trans (congrArg some (by kernel_rfl))
 f241:=Tryz.func79.trans (congrArg some (by kernel_rfl))
 f276:=Tryz.func117.trans (congrArg some (by kernel_rfl))
 f277:=Tryz.func118.trans (congrArg some (by kernel_rfl))
 t0:=Tryz.underlying0
 a0:=Tryz.isAgg0
 z0:=Tryz.sizeOf0
 v0:=Tryz.zeroValue0
 t3:=Tryz.underlying3
 a3:=Tryz.isAgg3
 z3:=Tryz.sizeOf3
 v3:=Tryz.zeroValue3
 t4:=Tryz.underlying4
 a4:=Tryz.isAgg4
 z4:=Tryz.sizeOf4
 v4:=Tryz.zeroValue4
 t9:=Tryz.underlying9
 a9:=Tryz.isAgg9
 z9:=Tryz.sizeOf9
 v9:=Tryz.zeroValue9
 t20:=Tryz.underlying20
 a20:=Tryz.isAgg20
 z20:=Tryz.sizeOf20
 v20:=Tryz.zeroValue20
 t31:=Tryz.underlying65
 a31:=Tryz.isAgg65
 z31:=Tryz.sizeOf65
 v31:=Tryz.zeroValue65
 t37:=Tryz.underlying105
 a37:=Tryz.isAgg105
 z37:=Tryz.sizeOf105
 v37:=Tryz.zeroValue105
 t70:=Tryz.underlying104
 a70:=Tryz.isAgg104
 z70:=Tryz.sizeOf104
 v70:=Tryz.zeroValue104
 t72:=Tryz.underlying107
 a72:=Tryz.isAgg107
 z72:=Tryz.sizeOf107
 v72:=Tryz.zeroValue107
 t75:=Tryz.underlying72
 a75:=Tryz.isAgg72
 z75:=Tryz.sizeOf72
 v75:=Tryz.zeroValue72
 t76:=Tryz.underlying73
 a76:=Tryz.isAgg73
 z76:=Tryz.sizeOf73
 v76:=Tryz.zeroValue73
 t127:=Tryz.underlying141
 a127:=Tryz.isAgg141
 z127:=Tryz.sizeOf141
 v127:=Tryz.zeroValue141
 t164:=Tryz.underlying182
 a164:=Tryz.isAgg182
 z164:=Tryz.sizeOf182
 v164:=Tryz.zeroValue182 }
theorem Builder_Extra_156:Builder.Extra Tryz.prog lays156_ren:={
 sizeBuilder:=by kernel_rfl
 liesBuilder:=by kernel_rfl
 t5:=Tryz.underlying5
 a5:=Tryz.isAgg5
 z5:=Tryz.sizeOf5
 v5:=Tryz.zeroValue5
 infoByte:=by kernel_rfl
 cellsByte:=by kernel_rfl
 sizeByte:=by kernel_rfl
 neB5:=by decide }
def lays146_ren:Go.Shelf.Ren:=⟨fun|146=>28|221=>53|268=>80|138=>81|143=>82|195=>119|197=>120|218=>121|219=>122|260=>149|217=>150|225=>151|224=>152|267=>153|266=>167|314=>168|n=>n,fun|9=>9|31=>65|3=>3|4=>4|0=>0|105=>186|21=>21|5=>5|46=>124|119=>234|139=>237|138=>236|146=>238|51=>163|n=>n,fun|1=>3|3=>4|4=>5|n=>n⟩
theorem lays146:Go.Proofs.Lays.n146 Tryz.prog lays146_ren:={
 mixed:=by kernel_rfl
 f138:=Tryz.func81.trans (congrArg some (by kernel_rfl))
 f143:=Tryz.func82.trans (congrArg some (by kernel_rfl))
 f146:=Tryz.func28.trans (congrArg some (by kernel_rfl))
 f195:=Tryz.func119.trans (congrArg some (by kernel_rfl))
 f197:=Tryz.func120.trans (congrArg some (by kernel_rfl))
 f217:=Tryz.func150.trans (congrArg some (by kernel_rfl))
 f218:=Tryz.func121.trans (congrArg some (by kernel_rfl))
 f219:=Tryz.func122.trans (congrArg some (by kernel_rfl))
 f221:=Tryz.func53.trans (congrArg some (by kernel_rfl))
 f224:=Tryz.func152.trans (congrArg some (by kernel_rfl))
 f225:=Tryz.func151.trans (congrArg some (by kernel_rfl))
 f260:=Tryz.func149.trans (congrArg some (by kernel_rfl))
 f266:=Tryz.func167.trans (congrArg some (by kernel_rfl))
 f267:=Tryz.func153.trans (congrArg some (by kernel_rfl))
 f268:=Tryz.func80.trans (congrArg some (by kernel_rfl))
 f314:=Tryz.func168.trans (congrArg some (by kernel_rfl))
 t0:=Tryz.underlying0
 a0:=Tryz.isAgg0
 z0:=Tryz.sizeOf0
 v0:=Tryz.zeroValue0
 t3:=Tryz.underlying3
 a3:=Tryz.isAgg3
 z3:=Tryz.sizeOf3
 v3:=Tryz.zeroValue3
 t4:=Tryz.underlying4
 a4:=Tryz.isAgg4
 z4:=Tryz.sizeOf4
 v4:=Tryz.zeroValue4
 t5:=Tryz.underlying5
 a5:=Tryz.isAgg5
 z5:=Tryz.sizeOf5
 v5:=Tryz.zeroValue5
 t9:=Tryz.underlying9
 a9:=Tryz.isAgg9
 z9:=Tryz.sizeOf9
 v9:=Tryz.zeroValue9
 t21:=Tryz.underlying21
 a21:=Tryz.isAgg21
 z21:=Tryz.sizeOf21
 v21:=Tryz.zeroValue21
 t31:=Tryz.underlying65
 a31:=Tryz.isAgg65
 z31:=Tryz.sizeOf65
 v31:=Tryz.zeroValue65
 t46:=Tryz.underlying124
 a46:=Tryz.isAgg124
 z46:=Tryz.sizeOf124
 v46:=Tryz.zeroValue124
 t51:=Tryz.underlying163
 a51:=Tryz.isAgg163
 z51:=Tryz.sizeOf163
 v51:=Tryz.zeroValue163
 t105:=Tryz.underlying186
 a105:=Tryz.isAgg186
 z105:=Tryz.sizeOf186
 v105:=Tryz.zeroValue186
 t119:=Tryz.underlying234
 a119:=Tryz.isAgg234
 z119:=Tryz.sizeOf234
 t138:=Tryz.underlying236
 a138:=Tryz.isAgg236
 z138:=Tryz.sizeOf236
 v138:=Tryz.zeroValue236
 t139:=Tryz.underlying237
 a139:=Tryz.isAgg237
 z139:=Tryz.sizeOf237
 v139:=Tryz.zeroValue237
 t146:=Tryz.underlying238
 a146:=Tryz.isAgg238
 z146:=Tryz.sizeOf238
 v146:=Tryz.zeroValue238
 g1:=by kernel_rfl
 g3:=by kernel_rfl
 g4:=by kernel_rfl }
def laysC172_ren:Go.Shelf.Ren:=⟨fun|172=>29|244=>54|245=>55|247=>83|279=>84|280=>85|281=>86|282=>87|287=>123|316=>124|171=>24|205=>125|321=>154|322=>155|243=>49|246=>77|283=>113|284=>114|285=>115|286=>116|129=>103|317=>145|318=>146|319=>147|320=>148|337=>165|338=>166|n=>n,fun|9=>9|3=>3|75=>72|76=>73|4=>4|5=>5|167=>144|37=>105|0=>0|85=>145|2=>2|168=>147|53=>165|175=>189|46=>124|210=>193|127=>141|145=>220|143=>218|21=>21|171=>178|173=>180|212=>214|51=>163|20=>20|213=>215|232=>246|233=>247|80=>109|n=>n,fun|15=>0|16=>1|17=>2|18=>6|19=>7|n=>n⟩
theorem laysC172:Go.Proofs.LaysC.n172 Tryz.prog laysC172_ren:={
 mixed:=by kernel_rfl
 f129:=Tryz.func103.trans (congrArg some (by kernel_rfl))
 f171:=Tryz.func24.trans (congrArg some (by kernel_rfl))
 f172:=Tryz.func29.trans (congrArg some (by kernel_rfl))
 f205:=Tryz.func125.trans (congrArg some (by kernel_rfl))
 f243:=Tryz.func49.trans (congrArg some (by kernel_rfl))
 f244:=Tryz.func54.trans (congrArg some (by kernel_rfl))
 f245:=Tryz.func55.trans (congrArg some (by kernel_rfl))
 f246:=Tryz.func77.trans (congrArg some (by kernel_rfl))
 f247:=Tryz.func83.trans (congrArg some (by kernel_rfl))
 f279:=Tryz.func84.trans (congrArg some (by kernel_rfl))
 f280:=Tryz.func85.trans (congrArg some (by kernel_rfl))
 f281:=Tryz.func86.trans (congrArg some (by kernel_rfl))
 f282:=Tryz.func87.trans (congrArg some (by kernel_rfl))
 f283:=Tryz.func113.trans (congrArg some (by kernel_rfl))
 f284:=Tryz.func114.trans (congrArg some (by kernel_rfl))
 f285:=Tryz.func115.trans (congrArg some (by kernel_rfl))
 f286:=Tryz.func116.trans (congrArg some (by kernel_rfl))
 f287:=Tryz.func123.trans (congrArg some (by kernel_rfl))
 f316:=Tryz.func124.trans (congrArg some (by kernel_rfl))
 f317:=Tryz.func145.trans (congrArg some (by kernel_rfl))
 f318:=Tryz.func146.trans (congrArg some (by kernel_rfl))
 f319:=Tryz.func147.trans (congrArg some (by kernel_rfl))
 f320:=Tryz.func148.trans (congrArg some (by kernel_rfl))
 f321:=Tryz.func154.trans (congrArg some (by kernel_rfl))
 f322:=Tryz.func155.trans (congrArg some (by kernel_rfl))
 f337:=Tryz.func165.trans (congrArg some (by kernel_rfl))
 f338:=Tryz.func166.trans (congrArg some (by kernel_rfl))
 t0:=Tryz.underlying0
 a0:=Tryz.isAgg0
 z0:=Tryz.sizeOf0
 v0:=Tryz.zeroValue0
 t2:=Tryz.underlying2
 a2:=Tryz.isAgg2
 z2:=Tryz.sizeOf2
 v2:=Tryz.zeroValue2
 t3:=Tryz.underlying3
 a3:=Tryz.isAgg3
 z3:=Tryz.sizeOf3
 v3:=Tryz.zeroValue3
 t4:=Tryz.underlying4
 a4:=Tryz.isAgg4
 z4:=Tryz.sizeOf4
 v4:=Tryz.zeroValue4
 t5:=Tryz.underlying5
 a5:=Tryz.isAgg5
 z5:=Tryz.sizeOf5
 v5:=Tryz.zeroValue5
 t9:=Tryz.underlying9
 a9:=Tryz.isAgg9
 z9:=Tryz.sizeOf9
 v9:=Tryz.zeroValue9
 t20:=Tryz.underlying20
 a20:=Tryz.isAgg20
 z20:=Tryz.sizeOf20
 v20:=Tryz.zeroValue20
 t21:=Tryz.underlying21
 a21:=Tryz.isAgg21
 z21:=Tryz.sizeOf21
 v21:=Tryz.zeroValue21
 t37:=Tryz.underlying105
 a37:=Tryz.isAgg105
 z37:=Tryz.sizeOf105
 v37:=Tryz.zeroValue105
 t46:=Tryz.underlying124
 a46:=Tryz.isAgg124
 z46:=Tryz.sizeOf124
 v46:=Tryz.zeroValue124
 t51:=Tryz.underlying163
 a51:=Tryz.isAgg163
 z51:=Tryz.sizeOf163
 v51:=Tryz.zeroValue163
 t53:=Tryz.underlying165
 a53:=Tryz.isAgg165
 z53:=Tryz.sizeOf165
 v53:=Tryz.zeroValue165
 t75:=Tryz.underlying72
 a75:=Tryz.isAgg72
 z75:=Tryz.sizeOf72
 v75:=Tryz.zeroValue72
 t76:=Tryz.underlying73
 a76:=Tryz.isAgg73
 z76:=Tryz.sizeOf73
 v76:=Tryz.zeroValue73
 t85:=Tryz.underlying145
 a85:=Tryz.isAgg145
 z85:=Tryz.sizeOf145
 v85:=Tryz.zeroValue145
 t127:=Tryz.underlying141
 a127:=Tryz.isAgg141
 z127:=Tryz.sizeOf141
 v127:=Tryz.zeroValue141
 t143:=Tryz.underlying218
 a143:=Tryz.isAgg218
 z143:=Tryz.sizeOf218
 v143:=Tryz.zeroValue218
 t145:=Tryz.underlying220
 a145:=Tryz.isAgg220
 z145:=Tryz.sizeOf220
 v145:=Tryz.zeroValue220
 t167:=Tryz.underlying144
 a167:=Tryz.isAgg144
 z167:=Tryz.sizeOf144
 v167:=Tryz.zeroValue144
 t168:=Tryz.underlying147
 a168:=Tryz.isAgg147
 z168:=Tryz.sizeOf147
 v168:=Tryz.zeroValue147
 t171:=Tryz.underlying178
 a171:=Tryz.isAgg178
 z171:=Tryz.sizeOf178
 v171:=Tryz.zeroValue178
 t173:=Tryz.underlying180
 a173:=Tryz.isAgg180
 z173:=Tryz.sizeOf180
 v173:=Tryz.zeroValue180
 t175:=Tryz.underlying189
 a175:=Tryz.isAgg189
 z175:=Tryz.sizeOf189
 v175:=Tryz.zeroValue189
 t210:=Tryz.underlying193
 a210:=Tryz.isAgg193
 z210:=Tryz.sizeOf193
 v210:=Tryz.zeroValue193
 t212:=Tryz.underlying214
 a212:=Tryz.isAgg214
 z212:=Tryz.sizeOf214
 v212:=Tryz.zeroValue214
 t213:=Tryz.underlying215
 a213:=Tryz.isAgg215
 z213:=Tryz.sizeOf215
 t232:=Tryz.underlying246
 a232:=Tryz.isAgg246
 z232:=Tryz.sizeOf246
 v232:=Tryz.zeroValue246
 t233:=Tryz.underlying247
 a233:=Tryz.isAgg247
 z233:=Tryz.sizeOf247
 v233:=Tryz.zeroValue247
 g15:=by kernel_rfl
 g16:=by kernel_rfl
 g17:=by kernel_rfl
 g18:=by kernel_rfl
 g19:=by kernel_rfl
 t80:=Tryz.underlying109
 a80:=Tryz.isAgg109
 z80:=Tryz.sizeOf109
 v80:=Tryz.zeroValue109
 i0:=by kernel_rfl
 i2:=by kernel_rfl
 i3:=by kernel_rfl
 i4:=by kernel_rfl
 i5:=by kernel_rfl
 i9:=by kernel_rfl
 i20:=by kernel_rfl
 i21:=by kernel_rfl
 i37:=by kernel_rfl
 i46:=by kernel_rfl
 i51:=by kernel_rfl
 i53:=by kernel_rfl
 i75:=by kernel_rfl
 i76:=by kernel_rfl
 i80:=by kernel_rfl
 i85:=by kernel_rfl
 i127:=by kernel_rfl
 i143:=by kernel_rfl
 i145:=by kernel_rfl
 i167:=by kernel_rfl
 i168:=by kernel_rfl
 i171:=by kernel_rfl
 i173:=by kernel_rfl
 i175:=by kernel_rfl
 i210:=by kernel_rfl
 i212:=by kernel_rfl
 i232:=by kernel_rfl
 i233:=by kernel_rfl
 m15:=by kernel_rfl
 m16:=by kernel_rfl
 m17:=by kernel_rfl
 m18:=by kernel_rfl
 m19:=by kernel_rfl
 c0:=by kernel_rfl
 c2:=by kernel_rfl
 c3:=by kernel_rfl
 c4:=by kernel_rfl
 c5:=by kernel_rfl
 c9:=by kernel_rfl
 c20:=by kernel_rfl
 c21:=by kernel_rfl
 c37:=by kernel_rfl
 c46:=by kernel_rfl
 c51:=by kernel_rfl
 c53:=by kernel_rfl
 c75:=by kernel_rfl
 c76:=by kernel_rfl
 c80:=by kernel_rfl
 c85:=by kernel_rfl
 c127:=by kernel_rfl
 c143:=by kernel_rfl
 c145:=by kernel_rfl
 c167:=by kernel_rfl
 c168:=by kernel_rfl
 c171:=by kernel_rfl
 c173:=by kernel_rfl
 c175:=by kernel_rfl
 c210:=by kernel_rfl
 c212:=by kernel_rfl
 c213:=by kernel_rfl
 c232:=by kernel_rfl
 c233:=by kernel_rfl }
def IsErr (v:Value):Prop:=v=.nilIface∨∃ te pe,v=.iface te pe
structure LibOK (w:World):Prop where
 m:∃ m,w.cell? ⟨3,0,none⟩=some (.int .i64 m)
 s:∃ v,w.cell? ⟨0,0,none⟩=some v∧IsErr v
 r:∃ v,w.cell? ⟨1,0,none⟩=some v∧IsErr v
theorem cell_in {w:World} {b o:Nat} {v:Value} (h:w.cell? ⟨b,o,none⟩=some v):b<w.heap.size:=by
 by_cases hb:b<w.heap.size
 · exact hb
 · exfalso
   have e:w.heap[b]?=none:=by simp;omega
   simp [World.cell?,e] at h
theorem LibOK.keep {w w':World} (h:LibOK w) (hb:Below w.heap.size w w'):LibOK w':=by
 obtain ⟨⟨m,hm⟩,⟨v,hv,iv⟩,u,hu,iu⟩:=h
 exact ⟨⟨m,(hb.cell (p:=⟨_,0,none⟩) (cell_in hm)).trans hm⟩,⟨v,(hb.cell (p:=⟨_,0,none⟩) (cell_in hv)).trans hv,iv⟩,u,(hb.cell (p:=⟨_,0,none⟩) (cell_in hu)).trans hu,iu⟩
theorem LibOK.alloc {w:World} (h:LibOK w) (o:Obj):LibOK (w.alloc o):=h.keep ((Below.refl _ w).alloc (Nat.le_refl _) o)
theorem LibOK.drew {w:World} (h:LibOK w):LibOK w.drew:=h.keep ((Below.refl _ w).drew)
theorem itoa_any (n:Int) (h0:0≤n) (h1:n≤16) (w:World) :
 Calls Tryz.prog 24 #[.int .i64 n] w fun e w'=>e=.returned (.string ⟨(digs n).toArray⟩)∧w=w':=by
 obtain ⟨m,rfl⟩:∃ m:Nat,n=m:=⟨n.toNat,by omega⟩
 refine (Any.strconv_Itoa_small lays171 m (by omega) w).mono fun e w' h=>?_
 rw [digs_dec m (by omega)] at h
 exact ⟨h.1,h.2.symm⟩
theorem join_any (bk o c:Nat) (xs:List ByteArray) (sep:ByteArray) (w:World) (hcells:∀ (j:Nat) x,xs[j]?=some x→w.cell? ⟨bk,o+j,none⟩=some (.string x)) (hbk:bk<w.heap.size) (hN:xs.length≤1000) (hcap:xs.length≤c)
 (hlen:(Lib.join (xs.map (·.data.toList)) sep.data.toList).length≤1000000) :
 Calls Tryz.prog 25 #[.slice (some ⟨bk,o,none⟩) xs.length c,.string sep] w fun e w'=>e=.returned (.string ⟨(Lib.join (xs.map (·.data.toList)) sep.data.toList).toArray⟩)∧Below w.heap.size w w' :=
 Any.strings_Join lays156 Builder_Extra_156 bk o c xs sep w hcells hbk (by omega) hcap (by omega)
theorem split_any (s:ByteArray) (w:World) (hs:s.size≤100000) (hl:LibOK w) :
 Calls Tryz.prog 28 #[.string s,.string sp1] w fun e w' =>
  e=.returned (.slice (some ⟨w.heap.size,0,none⟩) (Lib.countB s sp1+1) (Lib.countB s sp1+1))∧w'=w.alloc (.cells ((wordsB s).map Value.string).toArray 9):=by
 obtain ⟨m,hm⟩:=hl.m
 exact Any.strings_Split lays146 (by kernel_rfl) s sp1 m w (by omega) hm (by decide)
theorem atoi_any (s:ByteArray) (w:World) (hs:s.size≤100000) (hl:LibOK w) :
 Calls Tryz.prog 29 #[.string s] w fun e w'=>∃ er,e=.returned (.tuple #[.int .i64 (atoV s.data.toList),er])∧Below w.heap.size w w':=by
 obtain ⟨v,hv,iv⟩:=hl.s
 obtain ⟨u,hu,iu⟩:=hl.r
 unfold atoV
 cases h:Lib.atoiAll s.data.toList with
 | ok n =>
  refine (Any.strconv_Atoi_ok laysC172 s (by omega) n h w).mono fun e w' h=>⟨_,h.1,?_⟩
  rcases h.2 with rfl|⟨t,rfl⟩
  · exact Below.refl _ _
  · exact Lib.bytesWorld_below _ _ _
 | range=>exact (Any.strconv_Atoi_range laysC172 s (by omega) h u w hu iu).mono fun e w' ⟨N,h1,_,_,h2⟩=>⟨_,h1,h2⟩
 | _=>exact (Any.strconv_Atoi_syntax laysC172 s (by omega) h v w hv iv).mono fun e w' ⟨N,h1,_,_,h2⟩=>⟨_,h1,h2⟩
end Go.Proofs.YtebkniakflhhkaaGreatDoor
