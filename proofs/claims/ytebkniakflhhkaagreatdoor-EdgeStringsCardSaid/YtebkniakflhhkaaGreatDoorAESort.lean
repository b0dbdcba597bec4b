import Derived.Shelf.SlSortCmp.NoneTotal
import Derived.Test.YtebkniakflhhkaaGreatDoorAECollect
import Derived.Test.YtebkniakflhhkaaGreatDoorAEStr
set_option linter.unusedSimpArgs false
set_option linter.unusedVariables false
namespace Go.Proofs.YtebkniakflhhkaaGreatDoor
open Go.RowKit Go.Sort Go.Shelf Go.Lib
def sortPr_ren:Go.Shelf.Ren:=⟨fun|6=>39|15=>65|14=>64|28=>102|29=>103|20=>94|21=>95|22=>96|23=>97|24=>98|25=>99|26=>100|27=>101|46=>131|47=>132|48=>133|49=>134|50=>135|57=>159|n=>n,fun|22=>42|24=>25|25=>95|3=>3|39=>124|0=>0|53=>163|55=>165|4=>4|46=>157|45=>156|50=>136|5=>5|9=>9|66=>200|70=>204|76=>223|77=>224|n=>n,fun|n=>n⟩
theorem sortPr:Go.Proofs.SlLaysF0.n6 Tryz.prog sortPr_ren:={
 mixed:=by kernel_rfl
 f6:=⟨Tryz.f39.name,by decide,Tryz.func39.trans (congrArg some (by kernel_rfl))⟩
 f14:=⟨Tryz.f64.name,by decide,Tryz.func64.trans (congrArg some (by kernel_rfl))⟩
 f15:=Tryz.func65.trans (congrArg some (by kernel_rfl))
 f20:=⟨Tryz.f94.name,by decide,Tryz.func94.trans (congrArg some (by kernel_rfl))⟩
 f21:=⟨Tryz.f95.name,by decide,Tryz.func95.trans (congrArg some (by kernel_rfl))⟩
 f22:=⟨Tryz.f96.name,by decide,Tryz.func96.trans (congrArg some (by kernel_rfl))⟩
 f23:=⟨Tryz.f97.name,by decide,Tryz.func97.trans (congrArg some (by kernel_rfl))⟩
 f24:=⟨Tryz.f98.name,by decide,Tryz.func98.trans (congrArg some (by kernel_rfl))⟩
 f25:=⟨Tryz.f99.name,by decide,Tryz.func99.trans (congrArg some (by kernel_rfl))⟩
 f26:=⟨Tryz.f100.name,by decide,Tryz.func100.trans (congrArg some (by kernel_rfl))⟩
 f27:=⟨Tryz.f101.name,by decide,Tryz.func101.trans (congrArg some (by kernel_rfl))⟩
 f28:=Tryz.func102.trans (congrArg some (by kernel_rfl))
 f29:=Tryz.func103.trans (congrArg some (by kernel_rfl))
 f46:=⟨Tryz.f131.name,by decide,Tryz.func131.trans (congrArg some (by kernel_rfl))⟩
 f47:=Tryz.func132.trans (congrArg some (by kernel_rfl))
 f48:=Tryz.func133.trans (congrArg some (by kernel_rfl))
 f49:=⟨Tryz.f134.name,by decide,Tryz.func134.trans (congrArg some (by kernel_rfl))⟩
 f50:=⟨Tryz.f135.name,by decide,Tryz.func135.trans (congrArg some (by kernel_rfl))⟩
 f57:=⟨Tryz.f159.name,by decide,Tryz.func159.trans (congrArg some (by kernel_rfl))⟩
 t0:=Tryz.underlying0
 a0:=Tryz.isAgg0
 z0:=Tryz.sizeOf0
 v0:=Tryz.zeroValue0
 t3:=Tryz.underlying3
 a3:=Tryz.isAgg3
 z3:=Tryz.sizeOf3
 v3:=Tryz.zeroValue3
 t4:=Tryz.underlying4
 a4:=Tryz.isAgg4
 z4:=Tryz.sizeOf4
 v4:=Tryz.zeroValue4
 t5:=Tryz.underlying5
 a5:=Tryz.isAgg5
 z5:=Tryz.sizeOf5
 v5:=Tryz.zeroValue5
 t9:=Tryz.underlying9
 a9:=Tryz.isAgg9
 z9:=Tryz.sizeOf9
 v9:=Tryz.zeroValue9
 t22:=Tryz.underlying42
 a22:=Tryz.isAgg42
 z22:=Tryz.sizeOf42
 v22:=Tryz.zeroValue42
 t25:=Tryz.underlying95
 a25:=Tryz.isAgg95
 z25:=Tryz.sizeOf95
 v25:=Tryz.zeroValue95
 t39:=Tryz.underlying124
 a39:=Tryz.isAgg124
 z39:=Tryz.sizeOf124
 v39:=Tryz.zeroValue124
 t45:=Tryz.underlying156
 a45:=Tryz.isAgg156
 z45:=Tryz.sizeOf156
 v45:=Tryz.zeroValue156
 t46:=Tryz.underlying157
 a46:=Tryz.isAgg157
 z46:=Tryz.sizeOf157
 v46:=Tryz.zeroValue157
 t50:=Tryz.underlying136
 a50:=Tryz.isAgg136
 z50:=Tryz.sizeOf136
 v50:=Tryz.zeroValue136
 t53:=Tryz.underlying163
 a53:=Tryz.isAgg163
 z53:=Tryz.sizeOf163
 v53:=Tryz.zeroValue163
 t55:=Tryz.underlying165
 a55:=Tryz.isAgg165
 z55:=Tryz.sizeOf165
 v55:=Tryz.zeroValue165
 t66:=Tryz.underlying200
 a66:=Tryz.isAgg200
 z66:=Tryz.sizeOf200
 v66:=Tryz.zeroValue200
 t70:=Tryz.underlying204
 a70:=Tryz.isAgg204
 z70:=Tryz.sizeOf204
 v70:=Tryz.zeroValue204
 t76:=Tryz.underlying223
 a76:=Tryz.isAgg223
 z76:=Tryz.sizeOf223
 v76:=Tryz.zeroValue223
 t77:=Tryz.underlying224
 a77:=Tryz.isAgg224
 z77:=Tryz.sizeOf224
 v77:=Tryz.zeroValue224 }
def encL {a b:Otl} (x:Yp a b):List Value:=[.int .i64 x.1.af,.int .i64 x.1.at2,.int .i64 x.1.bf,.int .i64 x.1.bt]
def cfY {a b:Otl} (x y:Yp a b):Int:=cmpP x.1 y.1
theorem orI_neg (a b c:Int):orI a b c<0 ↔ a<0∨(a=0∧(b<0∨(b=0∧c<0))):=by
 unfold orI
 split
 · rename_i h;omega
 · rename_i h
   split
   · rename_i h2;omega
   · omega
theorem cmpI_neg (x y:Int):Lib.compareInt x y<0 ↔ x<y:=by
 unfold Lib.compareInt
 split
 · omega
 · split<;>omega
theorem cmpI_zero (x y:Int):Lib.compareInt x y=0 ↔ x=y:=by
 unfold Lib.compareInt
 split
 · omega
 · split<;>omega
theorem cmpP_neg (p q:Prg):cmpP p q<0 ↔ p.af<q.af∨(p.af=q.af∧(p.at2<q.at2∨(p.at2=q.at2∧p.bf<q.bf))):=by
 unfold cmpP
 rw [orI_neg,cmpI_neg,cmpI_neg,cmpI_neg,cmpI_zero,cmpI_zero]
theorem ltY {a b:Otl} (x y:Yp a b):ltOf cfY x y=true ↔ x.1.af<y.1.af∨(x.1.af=y.1.af∧(x.1.at2<y.1.at2∨(x.1.at2=y.1.at2∧x.1.bf<y.1.bf))):=by
 unfold ltOf cfY
 rw [decide_eq_true_eq,cmpP_neg]
theorem ltY_no {a b:Otl} (x y:Yp a b):ltOf cfY x y=false ↔ ¬ (x.1.af<y.1.af∨(x.1.af=y.1.af∧(x.1.at2<y.1.at2∨(x.1.at2=y.1.at2∧x.1.bf<y.1.bf)))):=by
 rw [← ltY,Bool.not_eq_true]
theorem swoY (a b:Otl):SWO (ltOf (cfY (a:=a) (b:=b))) where
 irrefl x:=by rw [ltY_no];omega
 trans x y z h1 h2:=by rw [ltY] at *;omega
 ntrans x y z h1 h2:=by rw [ltY_no] at *;omega
theorem totY {a b:Otl} (x y:Yp a b) (h1:ltOf cfY x y=false) (h2:ltOf cfY y x=false):x=y:=by
 rw [ltY_no] at h1 h2
 have hx:=(chkP_ok x.2).2.2.2.2
 have hy:=(chkP_ok y.2).2.2.2.2
 obtain ⟨⟨x1,x2,x3,x4⟩,hxx⟩:=x
 obtain ⟨⟨y1,y2,y3,y4⟩,hyy⟩:=y
 dsimp only at *
 obtain rfl:x1=y1:=by omega
 obtain rfl:x2=y2:=by omega
 obtain rfl:x3=y3:=by omega
 obtain rfl:x4=y4:=by omega
 rfl
theorem cmpLaysY {a b:Otl} [Inhabited (Yp a b)] (blk off size:Nat) (w:World):CmpLays Tryz.prog 40 #[] (encL (a:=a) (b:=b)) 4 cfY blk off size w:=fun m os dk _ x y =>
 byStretches_is x.1.af x.1.at2 x.1.bf x.1.bt y.1.af y.1.at2 y.1.bf y.1.bt _
theorem pcells_at {a b:Otl} [Inhabited (Yp a b)]:∀ (l:List (Yp a b)) (j:Nat) (v:Value),(pcells l)[j]?=some v→v=(encL (l[j / 4]!))[j % 4]!
 | [],j,v,h=>by simp [pcells,prs,bcells] at h
 | x::l,j,v,h=>by
  have e:pcells (x::l)=encL x++pcells l:=by unfold pcells;simp [prs,bcells,encL,pB,Bnd.cells]
  rw [e] at h
  by_cases hj:j<4
  · rw [List.getElem?_append_left (by simpa [encL] using hj)] at h
    have h1:j / 4=0:=Nat.div_eq_of_lt hj
    have h2:j % 4=j:=Nat.mod_eq_of_lt hj
    rw [h1,h2]
    show v=(encL x)[j]!
    rw [List.getElem!_eq_getElem?_getD,h]
    rfl
  · obtain ⟨k,rfl⟩:=Nat.exists_eq_add_of_le (Nat.le_of_not_lt hj)
    rw [List.getElem?_append_right (by simp [encL])] at h
    have h3:4+k-(encL x).length=k:=by simp [encL]
    rw [h3] at h
    have ih:=pcells_at l k v h
    rw [ih,show (4+k) / 4=k / 4+1 by omega,show (4+k) % 4=k % 4 by omega]
    simp
theorem pcells_length {a b:Otl} (l:List (Yp a b)):(pcells l).length=l.length * 4:=by
 unfold pcells
 rw [bcells_length,List.length_map,prs_length]
theorem flat_at {a b:Otl} [Inhabited (Yp a b)] (l:List (Yp a b)) (j:Nat) (hj:j<l.length * 4):(pcells l)[j]?=some ((flatK encL 4 l.toArray)[j]!):=by
 have hlt:j<(pcells l).length:=by rw [pcells_length];exact hj
 rw [get_flatK _ _ _ _ (by simpa using hj),List.getElem?_eq_getElem hlt]
 have h:=pcells_at l j _ (List.getElem?_eq_getElem hlt)
 rw [h]
 congr 1
 simp
theorem holdsK_own {a b:Otl} [Inhabited (Yp a b)] {w:World} {base g cap:Nat} {l:List (Yp a b)} (h:w.ownsRow base 25 4 (.slice (some ⟨g,0,none⟩) l.length cap) l.length (pcells l)):HoldsK encL 4 w g 0 l.toArray∧g<w.heap.size∧l.length≤cap:=by
 rcases h.2 with ⟨h1,_⟩|⟨g',cap',cur,h1,h2,h3,h4,h5,h6,h7⟩
 · cases h1
 · injection h1 with e1 e2 e3
   injection e1 with e1
   injection e1 with e1
   subst e1 e3
   refine ⟨fun j hj=>?_,(Array.getElem?_eq_some_iff.1 h3).1,h4⟩
   rw [size_flatK] at hj
   have hj':j<l.length * 4:=by simpa using hj
   have hf:=flat_at l j hj'
   rw [← h7,List.getElem?_take,if_pos hj',Array.getElem?_toList] at hf
   refine ⟨?_,?_⟩
   · simp only [World.cell?,h3,Nat.zero_add]
     exact hf
   · simp [World.frozen?,h3]
theorem grownBy_sortW (w:World) (g n:Nat) (F:Array Value) (os:Array Obj):w.grownBy (grow (putRow id (Sort.ahead w n) g 0 F) os) (some g):=by
 refine ⟨rfl,rfl,rfl,?_,fun i hi hne=>?_⟩
 · show w.heap.size≤((putRow id (Sort.ahead w n) g 0 F).heap++os).size
   rw [Array.size_append,Sort.size_putRow]
   show w.heap.size≤w.heap.size+os.size
   omega
 · show ((putRow id (Sort.ahead w n) g 0 F).heap++os)[i]?=w.heap[i]?
   have hs:(putRow id (Sort.ahead w n) g 0 F).heap.size=w.heap.size:=by rw [Sort.size_putRow];rfl
   rw [Array.getElem?_append_left (by rw [hs];exact hi)]
   have hg:i≠g:=fun e=>hne (by rw [e])
   simp only [putRow,mapBlock]
   rw [Array.getElem?_modify,if_neg (by omega)]
   rfl
def sortY {a b:Otl} (l:List (Yp a b)):List (Yp a b):=l.mergeSort fun x y=>!(ltOf cfY y x)
theorem sortY_length {a b:Otl} (l:List (Yp a b)):(sortY l).length=l.length:=List.length_mergeSort _
theorem sortP_any {a b:Otl} [Inhabited (Yp a b)] (w:World) (base g cap:Nat) (l:List (Yp a b)) (hl:l.length≤100000) (h:w.ownsRow base 25 4 (.slice (some ⟨g,0,none⟩) l.length cap) l.length (pcells l)) (hc:cap≤maxLen) :
 Calls Tryz.prog 39 #[.slice (some ⟨g,0,none⟩) l.length cap,.func (.func 40) #[] #[]] w fun e w'=>e=.returned (.tuple #[])∧RdB w' (some ⟨g,0,none⟩) l.length cap ((prs (sortY l)).map pB)∧w.grownBy w' (some g):=by
 obtain ⟨hH,hg,hcap⟩:=holdsK_own h
 have hcon:=AnyQ.slices_SortFunc_total sortPr 4 Tryz.isAgg25 Tryz.sizeOf25 (encL (a:=a) (b:=b)) (fun _=>rfl) (fun x v hv=>by simp [encL] at hv;rcases hv with rfl|rfl|rfl|rfl<;>rfl) cfY (swoY a b) 40 #[] g 0 cap l.toArray w
  (enters_of Tryz.func40 (by kernel_rfl) rfl) (cmpLaysY g 0 _ w) hH hg (by simp;omega) totY
 change Calls Tryz.prog 39 _ _ _ at hcon
 refine hcon.mono ?_
 rintro e w' ⟨rfl,n,os,rfl⟩
 have hsz:((sortY l).toArray).size=l.toArray.size:=by simp [sortY_length]
 have hh:Holds id (sortWorldK encL 4 w g 0 n (sortY l).toArray os) g 0 (flatK encL 4 (sortY l).toArray) :=
  holds_sortWorld id w g 0 n (flatK encL 4 l.toArray) (flatK encL 4 (sortY l).toArray) os hg hH (by rw [size_flatK,size_flatK,hsz])
 refine ⟨rfl,⟨by rw [List.length_map,prs_length,sortY_length],hcap,(fun e=>by cases e),.inr ⟨g,0,rfl,?_,fun j v hv=>?_⟩⟩,grownBy_sortW w g n _ os⟩
 · have hs:=(grownBy_sortW w g n (flatK encL 4 (sortY l).toArray) os).size
   exact Nat.lt_of_lt_of_le hg hs
 · have hj:j<(sortY l).length * 4:=by
    have h1:=(List.getElem?_eq_some_iff.1 hv).1
    rw [show bcells ((prs (sortY l)).map pB)=pcells (sortY l) from rfl,pcells_length] at h1
    exact h1
   have hf:=flat_at (sortY l) j hj
   rw [show pcells (sortY l)=bcells ((prs (sortY l)).map pB) from rfl,hv] at hf
   injection hf with hf
   rw [hf]
   exact (hh j (by rw [size_flatK];simpa using hj)).1
theorem sortNone_any (w:World):Calls Tryz.prog 39 #[.slice none 0 0,.func (.func 40) #[] #[]] w fun e w'=>e=.returned (.tuple #[])∧w'=w:=by
 have hcon:=AnyF.slices_SortFunc_none sortPr none 0 (.func (.func 40) #[] #[]) w
 change Calls Tryz.prog 39 _ _ _ at hcon
 exact hcon
end Go.Proofs.YtebkniakflhhkaaGreatDoor
