import Derived.Test.YtokpblmgdmokoaaGreatAVCol
import Derived.Shelf.SlicesQ.Reverse
import Derived.Test.YtokpblmgdmokoaaGreatAVSeq
import Derived.Deep.CutRange
set_option maxHeartbeats 8000000
set_option linter.unusedSimpArgs false
set_option linter.unusedVariables false
namespace Go.Proofs.YtokpblmgdmokoaaGreat
open Go.RowKit Go.Maps Go.Shelf
theorem collect_any (Bv g:Nat) (ware:ByteArray) (lim by_:Int) (A:Option Addr) (n k:Nat) (ps:List Prt) (w0 w:World) (hv:Vw w0 g ware lim by_ A n k ps) (h20:n<20) (hb0:Below w0.heap.size w0 w) (hbv:Blk w Bv 77 #[.pointer (some ⟨g,0,none⟩)]) :
 Calls Tryz.prog 122 #[.func (.func 137) #[] #[.pointer (some ⟨Bv,0,none⟩)]] w fun e w'=>∃ A m c xs,e=.returned (.slice A m c)∧RdV w' A m c xs∧xs.map (·.l)=vesL ps∧Below w.heap.size w w':=by
 have HC:=Lib.hid (callsIn_wide.1 (appendSeq_in Bv g ware lim by_ A n k ps w0 w hv h20 hb0 hbv));clear hv hb0 hbv
 go_enter Tryz.func122,Tryz.ntmps122
 go_wp2_with fail
 refine HC.out.mono ?_
 rintro e w1 ⟨A5,m5,c5,xs,rfl,h1,h2,h3⟩
 clear HC
 have H1:=Lib.hid h1;have H2:=Lib.hid h2;have H3:=Lib.hid h3;clear h1 h2 h3
 go_wp2
 go_ret
 exact ⟨A5,m5,c5,xs,rfl,H1.out,H2.out,H3.out⟩
def firR (ps:List Prt) (v:List Int):Rng:=colR (ptA ps (v.headD 0))
set_option maxRecDepth 100000 in
theorem first0 (g:Nat) (ware:ByteArray) (lim by_:Int) (A:Option Addr) (n k:Nat) (ps:List Prt) (B:Option Addr) (m d:Nat) (l:List Int) (w:World) (hv:Vw w g ware lim by_ A n k ps) (hl:RdI w B m d l) (hpos:0<m) (a:Nat) (h0:l[0]?=some (a:Int)) (ha:a<n):Calls Tryz.prog 123 #[.pointer (some ⟨g,0,none⟩),.slice B m d] w fun e w'=>e=.returned (.agg #[.int .i64 (ps.getD a default).lo,.int .i64 (ps.getD a default).hi])∧Below w.heap.size w w':=by
 obtain ⟨-,-,-,v3⟩:=hv.cells
 have hgl:=hv.lt
 obtain ⟨b9,o9,p,x,rfl,hb9,hx,hok,c0,c1,c2,c3,c4,c5,c6,c7⟩:=RdP.get hv.prt ha
 obtain ⟨b8,o8,v8,rfl,hb8,hv8,e0⟩:=RdI.get hl (k:=0) hpos
 obtain rfl:v8=(a:Int):=by rw [h0] at hv8;injection hv8 with h;exact h.symm
 have hab:(a:Int)<n:=by omega
 have hpz:(0:Int)<m:=by omega
 simp only [Nat.add_zero] at e0
 have HX:=Lib.hid (show ps.getD a default=p by rw [List.getD_eq_getElem?_getD,hx];rfl)
 have V3:=Lib.hid v3;have E0:=Lib.hid e0;have HGL:=Lib.hid hgl;have HB8:=Lib.hid hb8;have HB9:=Lib.hid hb9;clear v3 e0 hgl hb8 hb9 hx hok hv8 h0 hv hl
 have C0:=Lib.hid c0;clear c0
 have C1:=Lib.hid c1;clear c1
 have C2:=Lib.hid c2;clear c2
 have C3:=Lib.hid c3;clear c3
 have C4:=Lib.hid c4;clear c4
 have C5:=Lib.hid c5;clear c5
 have C6:=Lib.hid c6;clear c6
 have C7:=Lib.hid c7;clear c7
 go_enter Tryz.func123,Tryz.ntmps123
 obtain ⟨a1,a0⟩:=ent1 w #[.int .i64 0,.int .i64 0] 41
 go_wp2_with fail
 replace a0:=bD a0
 replace a1:=kD a1
 refine wp_region_held_drew (S:=(fun W'=>Below w.heap.size w W')) (by kernel_rfl) a0.out (fun _=>?_)
 obtain ⟨b3,a3⟩:∃ w',w'=((w.alloc (.cells #[.int .i64 0,.int .i64 0] 41)).drew):=⟨_,rfl⟩
 rw [← a3] at a0 a1
 rw [← a3]
 clear a3
 refine' twH 0 a0.out ?_
 refine' twH 1 a0.out ?_
 refine' twH 2 a0.out ?_
 refine' twH 3 a0.out ?_
 try simp only [pq]
 refine' tkH 4 a0.out ?a7 ?_
 case a7=>(rintro W' hS0;have hc0:=(Below.cell hS0 HGL.out).trans V3.out;clear hS0;go_simp;try with_reducible rfl)
 refine' twH 5 a0.out ?_
 refine' twH 6 a0.out ?_
 refine' tkH 7 a0.out ?a8 ?_
 case a8=>(rintro W' hS0;have hc0:=(Below.cell hS0 HB8.out).trans E0.out;clear hS0;go_simp;try with_reducible rfl)
 try simp only [pq]
 refine' twH 8 a0.out ?_
 refine' tkH 9 a0.out ?a9 ?_
 case a9=>(rintro W' hS0;have hc0:=(Below.cell hS0 HB9.out).trans C0.out;have hc1:=(Below.cell hS0 HB9.out).trans C1.out;have hc2:=(Below.cell hS0 HB9.out).trans C2.out;have hc3:=(Below.cell hS0 HB9.out).trans C3.out;have hc4:=(Below.cell hS0 HB9.out).trans C4.out;have hc5:=(Below.cell hS0 HB9.out).trans C5.out;have hc6:=(Below.cell hS0 HB9.out).trans C6.out;have hc7:=(Below.cell hS0 HB9.out).trans C7.out;clear hS0;go_simp;try with_reducible rfl)
 try simp only [pq]
 refine oneH 10 rfl fun K hK=>?_
 go_simp
 go_at_call 120
 refine (col_any p x p.ft (b3)).mono ?_
 rintro e a5 ⟨rfl,a2⟩
 dsimp only
 replace a2:=Lib.hid a2
 replace a0:=bH a0 a2
 refine hK.out _ _ a0.out (fun _=>?_);clear hK K
 try simp only [pq]
 refine oneH 11 rfl fun K hK=>?_
 replace a1:=kH a1 a2
 have v0_:(a5).cell? ⟨w.heap.size,0,none⟩=some (.int .i64 0):=Blk.cell (a1.out) 0
 have v1_:(a5).cell? ⟨w.heap.size,1,none⟩=some (.int .i64 0):=Blk.cell (a1.out) 1
 have f0_:=Blk.frozen (a1.out) 0
 have f1_:=Blk.frozen (a1.out) 1
 go_simp
 have b0:=Lib.hid (Blk.set_ (Blk.set_ (a1.out) 0 (.int .i64 p.lo)) 1 (.int .i64 p.hi))
 have a6:=Lib.hid (Below.setCell (Below.setCell (a0.out) (p:=⟨w.heap.size,0,none⟩) (Nat.le_refl _) (.int .i64 p.lo)) (p:=⟨w.heap.size,1,none⟩) (Nat.le_refl _) (.int .i64 p.hi))
 obtain ⟨b4,a4⟩:∃ w',w'=((((a5).setCell ⟨w.heap.size,0,none⟩ (.int .i64 p.lo))).setCell ⟨w.heap.size,1,none⟩ (.int .i64 p.hi)):=⟨_,rfl⟩
 rw [← a4] at b0 a6
 rw [← a4]
 clear a4 v0_ v1_ f0_ f1_
 refine hK.out _ _ a6.out (fun _=>?_);clear hK K
 try simp only [pq]
 refine wpAnyH_done (by kernel_rfl) ?_ _
 obtain ⟨b1,b2⟩:=at2 b0
 go_wp2
 refine bodyPost_ret (v:=.agg #[.int .i64 p.lo,.int .i64 p.hi]) (by simp [results,Tryz.results123,go_sem,b1,b2]) rfl ⟨by rw [HX.out],a6.out⟩
open Go.RowKit Go.Maps Go.Shelf Go.Sort Go.Lib
def laysRevR_ren:Go.Shelf.Ren:=⟨fun|35=>124|n=>n,fun|22=>51|23=>41|0=>0|3=>3|4=>4|n=>n,fun|n=>n⟩
theorem laysRevR:Go.Proofs.SlLaysE0.n35 Tryz.prog laysRevR_ren:={
 mixed:=by kernel_rfl
 f35:=⟨Tryz.f124.name,by decide,Tryz.func124.trans (congrArg some (by kernel_rfl))⟩
 t0:=Tryz.underlying0
 a0:=Tryz.isAgg0
 z0:=Tryz.sizeOf0
 v0:=Tryz.zeroValue0
 t3:=Tryz.underlying3
 a3:=Tryz.isAgg3
 z3:=Tryz.sizeOf3
 v3:=Tryz.zeroValue3
 t4:=Tryz.underlying4
 a4:=Tryz.isAgg4
 z4:=Tryz.sizeOf4
 v4:=Tryz.zeroValue4
 t22:=Tryz.underlying51
 a22:=Tryz.isAgg51
 z22:=Tryz.sizeOf51
 v22:=Tryz.zeroValue51 }
def encG (r:Rng):List Value:=[.int .i64 r.lo,.int .i64 r.hi]
def rcells (l:List Rng):List Value:=l.flatMap encG
theorem rcells_len (l:List Rng):(rcells l).length=l.length * 2:=flat_len (f:=encG) (s:=2) (fun _=>rfl) l
theorem rcells_append (l k:List Rng):rcells (l++k)=rcells l++rcells k:=List.flatMap_append
theorem flatK_rcells (d:Array Rng):(flatK encG 2 d).toList=rcells d.toList:=by
 apply List.ext_getElem?
 intro t
 by_cases ht:t<d.size * 2
 · have hj:t / 2<d.size:=by omega
   have h1:=get_flatK encG 2 d t ht
   rw [getElem!_pos (flatK encG 2 d) t (by rw [size_flatK];exact ht),getElem!_pos d _ hj,getElem!_pos (encG _) (t % 2) (by show _<2;omega)] at h1
   rw [Array.getElem?_toList,Array.getElem?_eq_getElem (by rw [size_flatK];exact ht),h1]
   have h2:=flat_get (f:=encG) (s:=2) (fun _=>rfl) d.toList (t / 2) (t % 2) d[t / 2] (by rw [Array.getElem?_toList,Array.getElem?_eq_getElem hj]) (by omega)
   rw [show t / 2 * 2+t % 2=t by omega] at h2
   unfold rcells
   rw [h2,List.getElem?_eq_getElem (by show _<2;omega)]
 · rw [List.getElem?_eq_none (by rw [Array.length_toList,size_flatK];omega),List.getElem?_eq_none (by rw [rcells_len,Array.length_toList];omega)]
theorem take_putCellsId (cur F:Array Value) (h:F.size≤cur.size):(putCells id 0 F cur).toList.take F.size=F.toList:=by
 apply List.ext_getElem?
 intro j
 by_cases hj:j<F.size
 · rw [List.getElem?_take_of_lt hj,Array.getElem?_toList]
   simp [putCells,hj,show j<cur.size by omega]
 · rw [List.getElem?_take_eq_none (by omega),List.getElem?_eq_none (by simp;omega)]
theorem reverse_any {w:World} {base:Nat} {v:Value} {l:List Rng} (ho:w.ownsRow base 41 2 v l.length (rcells l)) (hb:base≤w.heap.size) (hsm:l.length≤100000) :
 Calls Tryz.prog 124 #[v] w fun e w'=>e=.returned (.tuple #[])∧w'.ownsRow base 41 2 v l.length (rcells l.reverse)∧Below base w w':=by
 rcases ho.2 with ⟨rfl,h0⟩|⟨g,cap,cur,rfl,hg,hh,hn,hm,hs,ht⟩
 · have hl:l=[]:=List.length_eq_zero_iff.1 h0
   subst hl
   refine (AnyQ.slices_Reverse_empty laysRevR none 0 w).mono fun e w' h=>?_
   obtain ⟨rfl,rfl⟩:=h
   exact ⟨rfl,ho,Below.refl _ _⟩
 · have hF:(flatK encG 2 l.toArray).toList=rcells l:=flatK_rcells l.toArray
   have hFs:(flatK encG 2 l.toArray).size=l.length * 2:=by rw [size_flatK];simp
   have hH:HoldsK encG 2 w g 0 l.toArray:=by
    intro j hj
    have hj2:j<l.length * 2:=by rw [hFs] at hj;exact hj
    refine ⟨?_,by simp [World.frozen?,hh]⟩
    have h1:(cur.toList.take (l.length * 2))[j]?=(rcells l)[j]?:=by rw [ht]
    rw [List.getElem?_take_of_lt hj2,← hF,Array.getElem?_toList,Array.getElem?_toList,Array.getElem?_eq_getElem hj] at h1
    simp only [World.cell?,hh,Nat.zero_add]
    rw [getElem!_pos _ j hj]
    simpa using h1
   refine (AnyQ.slices_Reverse laysRevR 2 Tryz.isAgg41 Tryz.sizeOf41 encG (fun _=>rfl) (fun x u hu=>by simp only [encG,List.mem_cons,List.not_mem_nil,or_false] at hu;rcases hu with rfl|rfl<;>rfl) g 0 cap l.toArray w hH (by simp;omega)).mono fun e w' h=>?_
   obtain ⟨rfl,q,rfl⟩:=h
   have hF2:(flatK encG 2 l.toArray.reverse).toList=rcells l.reverse:=by rw [flatK_rcells];simp
   have hF2s:(flatK encG 2 l.toArray.reverse).size=l.length * 2:=by rw [size_flatK];simp
   have hgl:g<w.heap.size:=(Array.getElem?_eq_some_iff.1 hh).1
   have hh2:(putRowK encG 2 (Sort.ahead w q) g 0 l.toArray.reverse).heap[g]?=some (.cells (putCells id 0 (flatK encG 2 l.toArray.reverse) cur) 41 (0,0)):=by
    simp [putRowK,putRow,mapBlock,Sort.ahead,Array.getElem?_modify,hh,onCells]
   refine ⟨rfl,⟨by rw [rcells_len];simp,.inr ⟨g,cap,_,rfl,hg,hh2,hn,hm,by simp [putCells,hs],?_⟩⟩,?_⟩
   · have h5:=take_putCellsId cur (flatK encG 2 l.toArray.reverse) (by rw [hF2s,hs];omega)
     rw [hF2s,hF2] at h5
     exact h5
   · refine ⟨rfl,rfl,rfl,by simp [putRowK,putRow,mapBlock,Sort.ahead],fun k hk=>?_⟩
     have:g≠k:=by omega
     simp [putRowK,putRow,mapBlock,Sort.ahead,Array.getElem?_modify,this]
end Go.Proofs.YtokpblmgdmokoaaGreat
namespace Go.Proofs.YtokpblmgdmokoaaGreat
open Go.RowKit Go.Maps Go.Shelf
def lowS (ps:List Prt) (lo:Int) (p:Int):Int:=if (ptA ps p).ft then min lo (ptA ps p).lo else lo
def lowF (ps:List Prt) (v:List Int) (lo:Int):Int:=v.foldl (lowS ps) lo
def shwI (ps:List Prt) (made:List (List Int)):Nat→Int→Nat × Int
 | 0,lo=>(0,lo)
 | q+1,lo=>if lo≤(firR ps (made.getD q [])).hi then shwI ps made q (lowF ps (made.getD q []) lo) else (q+1,lo)
def shwO (ps:List Prt) (made:List (List Int)):Nat→Nat→List Rng
 | 0,_=>[]
 | _+1,0=>[]
 | f+1,q+1=>⟨(shwI ps made q (firR ps (made.getD q [])).lo).2,(firR ps (made.getD q [])).hi⟩::shwO ps made f (shwI ps made q (firR ps (made.getD q [])).lo).1
def showL (ps:List Prt):List Rng:=(shwO ps (vesL ps) (vesL ps).length (vesL ps).length).reverse
theorem shwI_succ (ps:List Prt) (made:List (List Int)) (q:Nat) (lo:Int):shwI ps made (q+1) lo=if lo≤(firR ps (made.getD q [])).hi then shwI ps made q (lowF ps (made.getD q []) lo) else (q+1,lo):=rfl
theorem shwI_le (ps:List Prt) (made:List (List Int)):∀ q lo,(shwI ps made q lo).1≤q
 | 0,lo=>Nat.le_refl _
 | q+1,lo=>by
  unfold shwI
  split
  · exact Nat.le_trans (shwI_le ps made q _) (Nat.le_succ _)
  · exact Nat.le_refl _
theorem shwO_len (ps:List Prt) (made:List (List Int)):∀ f q,(shwO ps made f q).length≤f
 | 0,_=>Nat.le_refl _
 | _+1,0=>Nat.zero_le _
 | f+1,q+1=>by
  unfold shwO
  rw [List.length_cons]
  exact Nat.succ_le_succ (shwO_len ps made f _)
theorem srtL_len {ps:List Prt} (l:List Int):(srtL ps l).length=l.length:=by
 unfold srtL
 split
 · rfl
 · rw [List.length_map,Array.length_toList]
   unfold srtA
   rw [size_insF]
   unfold toF
   simp
theorem vesF_ok {ps:List Prt} {n:Nat}:∀ (f:Nat) (l:List Int),(∀ x∈l,∃ a:Nat,x=a∧a<n)→(vesF ps f l).length≤l.length∧∀ v∈vesF ps f l,v≠[]∧v.length≤l.length∧∀ x∈v,∃ a:Nat,x=a∧a<n
 | 0,l,_=>⟨Nat.zero_le _,fun v h=>by cases h⟩
 | f+1,l,h=>by
  unfold vesF
  by_cases hl:l=[]
  · rw [if_pos hl]
    exact ⟨Nat.zero_le _,fun v h=>by cases h⟩
  · rw [if_neg hl]
    have h1:=takeL_len ps l
    have h2:=takeL_pos ps hl
    have ih:=vesF_ok (ps:=ps) (n:=n) f (takeL ps l).2 (fun x hx=>h x (takeL_mem ps l (.inr hx)))
    refine ⟨by rw [List.length_cons];have:=ih.1;omega,fun v hv=>?_⟩
    rcases List.mem_cons.1 hv with rfl|hv
    · exact ⟨fun e=>by rw [e] at h2;simp at h2,by omega,fun x hx=>h x (takeL_mem ps l (.inl hx))⟩
    · have:=ih.2 v hv
      exact ⟨this.1,by omega,this.2.2⟩
theorem vesL_ok {ps:List Prt} {n:Nat} (hn:ps.length=n):(vesL ps).length≤n∧∀ v∈vesL ps,v≠[]∧v.length≤n∧∀ x∈v,∃ a:Nat,x=a∧a<n:=by
 have h:=vesF_ok (ps:=ps) (n:=n) ps.length (srtL ps (choN (fun _=>true) ps ps.length)) (fun x hx=>by
  obtain ⟨a,h1,h2⟩:=srtL_in (fun h=>List.length_eq_zero_iff.1 (by rw [choN_all];exact h)) x hx
  exact ⟨a,h1,by omega⟩)
 rw [srtL_len,choN_all,hn] at h
 unfold vesL
 rw [hn]
 exact h
theorem lowF_snoc (ps:List Prt) (v:List Int) (lo:Int) (t:Nat) (p:Int) (h:v[t]?=some p):lowF ps (v.take (t+1)) lo=lowS ps (lowF ps (v.take t) lo) p:=by
 unfold lowF
 rw [List.take_add_one,h,Option.toList_some,List.foldl_append]
 rfl
theorem own_farV {w:World} {base n:Nat} {e:TypeId} {s:Nat} {v:Value} {xs:List Value} (h:w.ownsRow base e s v n xs) {p:Addr} (hp:v.ownBlock≠some p.block) (u:Value):(w.setCell p u).ownsRow base e s v n xs:=by
 refine ⟨h.1,?_⟩
 rcases h.2 with h0|⟨g,cap,cur,rfl,hb,hh,hr⟩
 · exact .inl h0
 · exact .inr ⟨g,cap,cur,rfl,hb,(heap_setCell_other w p g u (fun e2=>hp (by rw [← e2];simp [Value.ownBlock]))).trans hh,hr⟩
theorem infoG:(Tryz.prog.info? 41).map (fun i=>(i.zero,i.size,i.bytes))=some (some (.agg #[.int .i64 0,.int .i64 0]),2,16):=by kernel_rfl
set_option maxRecDepth 100000 in
theorem head_sliceS (b o n c i:Nat) (hi:i≤c) (w:World):(Instr.sliceAt 115 (.slice (some ⟨b,o,none⟩) n c) none (some (.int .i64 (i:Int))) none).run Tryz.prog w=.ok (.slice (some ⟨b,o,none⟩) i c) w:=by
 have he:Tryz.prog.elem 115=30:=by kernel_rfl
 have hu:Tryz.prog.underlying 115=some (.slice (Tryz.prog.elem 115)):=by rw [he];exact Tryz.underlying115
 have hs:∀ w,(sizeOf (Tryz.prog.elem 115)).run Tryz.prog w=.ok 1 w:=fun w=>by rw [he];kernel_rfl
 rw [run_sliceAt_slice (h:=hu),run_slice_h _ _ _ _ _ hu .i64 (i:Int) (by omega) (by omega),hs]
 simp [Result.andThen_ok,sliced,Addr.add_lit]
theorem RdV.get {W:World} {A:Option Addr} {n c:Nat} {xs:List Ves} (h:RdV W A n c xs) {j:Nat} (hj:j<n):∃ b o y,A=some ⟨b,o,none⟩∧b<W.heap.size∧xs[j]?=some y∧RdI W y.A y.l.length y.c y.l∧W.cell? ⟨b,o+j,none⟩=some (.slice y.A y.l.length y.c):=by
 have hjx:j<xs.length:=by rw [h.len];exact hj
 have hx:=List.getElem?_eq_getElem hjx
 rcases h.cells with h0|⟨b,o,e,hlt,hc⟩
 · have:=congrArg List.length h0
   simp [vcs] at this
   rw [this] at hjx
   simp at hjx
 · exact ⟨b,o,xs[j],e,hlt,hx,h.ves _ (List.getElem_mem hjx),hc j _ (by unfold vcs;rw [List.getElem?_map,hx];rfl)⟩
theorem firR_eq {ps:List Prt} {l:List Int} {a:Nat} (h:l[0]?=some (a:Int)):firR ps l=⟨(ps.getD a default).lo,(ps.getD a default).hi⟩:=by
 cases l with
 | nil=>simp at h
 | cons x l =>
  simp at h
  subst h
  unfold firR colR ptA
  rw [List.headD_cons,Int.toNat_natCast]
theorem first_is (g:Nat) (ware:ByteArray) (lim by_:Int) (A:Option Addr) (n k:Nat) (ps:List Prt) (B:Option Addr) (m d:Nat) (l:List Int) (w:World) (hv:Vw w g ware lim by_ A n k ps) (hl:RdI w B m d l) (hpos:0<m) (a:Nat) (h0:l[0]?=some (a:Int)) (ha:a<n) (p:Prt) (hp:p=ps.getD a default):Calls Tryz.prog 123 #[.pointer (some ⟨g,0,none⟩),.slice B m d] w fun e w'=>e=.returned (.agg #[.int .i64 p.lo,.int .i64 p.hi])∧Below w.heap.size w w':=by
 subst hp
 exact first0 g ware lim by_ A n k ps B m d l w hv hl hpos a h0 ha
set_option maxRecDepth 100000 in
theorem fieldR1 (a b:Int) (W:World):Sem.run Tryz.prog (Instr.field 41 (.agg #[.int .i64 a,.int .i64 b]) 1) W=.ok (.int .i64 b) W:=by kernel_rfl
set_option maxRecDepth 100000 in
theorem show_any (g:Nat) (ware:ByteArray) (lim by_:Int) (A:Option Addr) (n k:Nat) (ps:List Prt) (w:World) (hv:Vw w g ware lim by_ A n k ps) (h20:n<20):Calls Tryz.prog 97 #[.pointer (some ⟨g,0,none⟩)] w fun e w'=>∃ v,e=.returned v∧w'.ownsRow w.heap.size 41 2 v (showL ps).length (rcells (showL ps))∧Below w.heap.size w w':=by
 obtain ⟨i0,hi0,hz0,hz1,hz2⟩:=info_parts infoG
 have HI:=Lib.hid hi0;have HZ0:=Lib.hid hz0;have HZ1:=Lib.hid hz1;have HZ2:=Lib.hid hz2;clear hi0 hz0 hz1 hz2
 have HOK:=Lib.hid (vesL_ok (ps:=ps) hv.prt.len)
 have HV:=Lib.hid hv;clear hv
 go_enter Tryz.func97,Tryz.ntmps97
 have HC:=Lib.hid (vessels_any g w)
 go_wp2_with fail
 refine HC.out.mono ?_
 rintro e w1 ⟨rfl,hw1⟩
 clear HC
 have hb1:Below w.heap.size w w1:=by rw [hw1];exact (Below.refl _ w).alloc (Nat.le_refl _) _
 have hv1:Blk w1 w.heap.size 77 #[.pointer (some ⟨g,0,none⟩)]:=by rw [hw1];exact Blk.new w _ _
 clear hw1
 have HD:=Lib.hid (collect_any w.heap.size g ware lim by_ A n k ps w w1 HV.out h20 hb1 hv1)
 have HB1:=Lib.hid hb1;clear hb1 hv1
 go_wp2_with fail
 refine HD.out.mono ?_
 rintro e w2 ⟨A5,m5,c5,xs,rfl,hrd,hxs,hb2⟩
 clear HD
 have HRD:=Lib.hid hrd;have HXS:=Lib.hid hxs;have HB2:=Lib.hid (HB1.out.trans (hb2.mono HB1.out.size));clear hrd hxs hb2 HB1
 have hm5:(vesL ps).length=m5:=by rw [← HXS.out,List.length_map,HRD.out.len]
 have hmn:m5≤n:=by have:=HOK.out.1;omega
 have hcap5:=HRD.out.cap
 have HM5:=Lib.hid hm5;clear hm5
 obtain ⟨MM,hMM⟩:∃ x,x=vesL ps:=⟨_,rfl⟩
 have HMM:=Lib.hid hMM
 have HV2:=Lib.hid (HV.out.keep HB2.out)
 clear hMM MM HMM
 go_wp2
 go_loopw [3,4] (fun s3 s4 wr=>∃ (q f:Nat) (dn:List Rng) (V4:Value),s4=V4∧s3=.slice A5 q c5∧q≤m5∧wr.ownsRow w2.heap.size 41 2 V4 dn.length (rcells dn)∧dn++shwO ps (vesL ps) f q=shwO ps (vesL ps) m5 m5∧q≤f∧Below w2.heap.size w2 wr) (fun s3 _ _=>match s3 with | .slice _ q _=>q|_=>0)
 case atStart=>exact ⟨m5,m5,[],_,rfl,rfl,Nat.le_refl _,World.ownsRow_nil _ _ _ _,rfl,Nat.le_refl _,Below.refl _ _⟩
 case round =>
  obtain ⟨q,f,dn,V4,hV4,rfl,hq,hown,hsh,hqf,hb⟩:=hrel
  replace hV4:=hV4.symm
  subst hV4
  have HOW:=Lib.hid hown;have HSH:=Lib.hid hsh;have HB:=Lib.hid hb;clear hown hsh hb
  have hdn:dn.length≤m5:=by have h1:=congrArg List.length HSH.out;have h2:=shwO_len ps (vesL ps) m5 m5;rw [List.length_append] at h1;omega
  cases q with
  | zero =>
   have hfin:dn=shwO ps (vesL ps) m5 m5:=by
    rw [← HSH.out]
    have e:shwO ps (vesL ps) f 0=[]:=by cases f<;>rfl
    rw [e,List.append_nil]
   have HF:=Lib.hid hfin;clear hfin
   have HR:=Lib.hid (reverse_any HOW.out HB.out.size (by omega))
   go_wp2_with fail
   refine HR.out.mono ?_
   rintro e w9 ⟨rfl,ho9,hb9⟩
   clear HR
   have HO9:=Lib.hid ho9;have HB9:=Lib.hid hb9;clear ho9 hb9
   go_wp2
   go_ret
   have hsl:showL ps=dn.reverse:=by unfold showL;rw [HM5.out,HF.out]
   refine ⟨_,rfl,?_,HB2.out.trans ((HB.out.trans HB9.out).mono HB2.out.size)⟩
   rw [hsl,List.length_reverse]
   exact owns_base HO9.out HB2.out.size
  | succ q =>
   obtain ⟨bm,om,y,hA5,hbm,hy,hyr,hyc⟩:=RdV.get HRD.out (j:=q) (by omega)
   have hyl:y.l∈vesL ps:=by rw [← HXS.out];exact List.mem_map.2 ⟨y,List.mem_of_getElem? hy,rfl⟩
   have HYG:=Lib.hid (show (vesL ps).getD q []=y.l by rw [← HXS.out,List.getD_eq_getElem?_getD,List.getElem?_map,hy];rfl)
   obtain ⟨hy1,hy2,hy3⟩:=HOK.out.2 y.l hyl
   have hypos:0<y.l.length:=List.length_pos_iff.2 hy1
   obtain ⟨a0,ha0,ha1⟩:=hy3 _ (List.getElem_mem hypos)
   have h0:y.l[0]?=some (a0:Int):=by rw [List.getElem?_eq_getElem hypos,ha0]
   have HFR:=Lib.hid (firR_eq (ps:=ps) h0)
   have HY3:=Lib.hid hy3;have HYR:=Lib.hid hyr;have HYC:=Lib.hid hyc;have HH0:=Lib.hid h0;have HBM:=Lib.hid hbm;clear hy hyl hy1 hy3 ha0 h0 hyr hyc hbm
   subst hA5
   have hqz:(0:Int)<((q+1:Nat):Int):=by omega
   have hqw:IntKind.i64.wrap (((q+1:Nat):Int)-1)=(q:Int):=by rw [IntKind.wrap_i64];omega
   have hqq:(q:Int)<((q+1:Nat):Int):=by omega
   obtain ⟨z,hz⟩:∃ z:Int,z=((q+1:Nat):Int):=⟨_,rfl⟩
   clear hz z
   have hc0:=(HB.out.cell (p:=⟨bm,om+q,none⟩) HBM.out).trans HYC.out
   have HC:=Lib.hid (first0 g ware lim by_ A n k ps y.A y.l.length y.c y.l wr (HV2.out.keep HB.out) (HYR.out.below HB.out) hypos a0 HH0.out ha1)
   go_wp2_with fail
   refine HC.out.mono ?_
   rintro e w4 ⟨rfl,hb4⟩
   clear HC hc0
   obtain ⟨p0,hp0⟩:∃ p,p=ps.getD a0 default:=⟨_,rfl⟩
   rw [← hp0] at HFR ⊢
   clear hp0
   have hszw:=HB.out.size;have hsz4:=hb4.size
   have OW4:=Lib.hid ((owns_below HOW.out hb4).alloc (.cells #[.int .i64 p0.lo,.int .i64 p0.hi] 41))
   have NG4:=Lib.hid (fun e=>Nat.lt_irrefl _ ((World.ownsRow.lt (owns_below HOW.out hb4) w4.heap.size e).2))
   have BL4:=Lib.hid ((HB.out.trans (hb4.mono hszw)).alloc (by omega) (.cells #[.int .i64 p0.lo,.int .i64 p0.hi] 41))
   have GR4:=Lib.hid (Blk.new w4 41 #[.int .i64 p0.lo,.int .i64 p0.hi])
   clear HOW HB hb4
   go_wp2
   obtain ⟨gr,hgr⟩:∃ x,x=w4.heap.size:=⟨_,rfl⟩
   rw [← hgr] at NG4 GR4 ⊢
   have hgr2:w2.heap.size≤gr:=by omega
   clear hgr hszw hsz4
   obtain ⟨w5,hw5⟩:∃ x,x=w4.alloc (.cells #[.int .i64 p0.lo,.int .i64 p0.hi] 41):=⟨_,rfl⟩
   rw [← hw5] at OW4 BL4 GR4 ⊢
   clear hw5
   have HFR0:=Lib.hid (show firR ps ((vesL ps).getD q [])=⟨p0.lo,p0.hi⟩ by rw [HYG.out,HFR.out])
   clear HFR HYG HY3 HYR HYC HH0 HBM
   obtain ⟨f,rfl⟩:∃ f',f=f'+1:=⟨f-1,by omega⟩
   have HSH2:=Lib.hid (show dn++(⟨(shwI ps (vesL ps) q p0.lo).2,p0.hi⟩::shwO ps (vesL ps) f (shwI ps (vesL ps) q p0.lo).1)=shwO ps (vesL ps) m5 m5 by have h:=HSH.out;rw [show shwO ps (vesL ps) (f+1) (q+1)=⟨(shwI ps (vesL ps) q (firR ps ((vesL ps).getD q [])).lo).2,(firR ps ((vesL ps).getD q [])).hi⟩::shwO ps (vesL ps) f (shwI ps (vesL ps) q (firR ps ((vesL ps).getD q [])).lo).1 from rfl,HFR0.out] at h;exact h)
   clear HSH
   go_loopw [5] (fun s5 wr=>∃ (j:Nat) (lo:Int),s5=.int .i64 j∧j≤q∧Blk wr gr 41 #[.int .i64 lo,.int .i64 p0.hi]∧wr.ownsRow w2.heap.size 41 2 V4 dn.length (rcells dn)∧shwI ps (vesL ps) j lo=shwI ps (vesL ps) q p0.lo∧Below w2.heap.size w2 wr) (fun s5 _=>(intOf s5).toNat)
   case atStart=>exact ⟨q,p0.lo,rfl,Nat.le_refl _,GR4.out,OW4.out,rfl,BL4.out⟩
   case round =>
    clear OW4 GR4 BL4
    obtain ⟨j,lo,rfl,hj,hgr,how,hsi,hbl⟩:=hrel
    have HSI:=Lib.hid hsi;clear hsi
    cases j with
    | zero =>
     have b0:=Lib.hid (hgr)
     have b1:=Lib.hid (how)
     have a5:=Lib.hid (hbl)
     clear hgr how hbl
     have HTI:=Lib.hid (show shwI ps (vesL ps) q p0.lo=(0,lo) from HSI.out.symm)
     go_wp2
     replace b0:=kD b0
     replace b1:=Lib.hid (World.ownsRow.drew (b1.out))
     replace a5:=bD a5
     refine wp_region_held_drew (S:=(fun W'=>Below w2.heap.size w2 W')) (by kernel_rfl) a5.out (fun _=>?_)
     obtain ⟨d0,b4⟩:∃ w',w'=(wr.drew):=⟨_,rfl⟩
     rw [← b4] at b0 b1 a5
     rw [← b4]
     clear b4
     refine' twH 0 a5.out ?_
     refine' twH 1 a5.out ?_
     refine' twH 2 a5.out ?_
     refine' tkNH 3 a5.out ?_
     try simp only [pq]
     refine' tkNH 4 a5.out ?_
     refine' tkNH 5 a5.out ?_
     refine' tkNH 6 a5.out ?_
     refine' tkNH 7 a5.out ?_
     try simp only [pq]
     refine' tkNH 8 a5.out ?_
     refine' tkNH 9 a5.out ?_
     refine' tkNH 10 a5.out ?_
     refine' tkNH 11 a5.out ?_
     try simp only [pq]
     refine' tkNH 12 a5.out ?_
     refine' tkNH 13 a5.out ?_
     refine' twH 14 a5.out ?_
     try simp only [pq]
     refine wpAnyH_done (by kernel_rfl) ?_ _
     obtain ⟨e3,e4⟩:=at2 b0
     have hsl:=head_sliceS bm om (q+1) c5 0 (by omega)
     have OW:=Lib.hid ((b1.out).alloc (.cells #[.int .i64 lo,.int .i64 p0.hi] 41));have N1:=Lib.hid (Blk.new d0 41 #[.int .i64 lo,.int .i64 p0.hi]);have BE:=Lib.hid ((a5.out).alloc (a5.out).size (.cells #[.int .i64 lo,.int .i64 p0.hi] 41))
     have hsz0:=(a5.out).size
     go_wp2_with (at_builtin;refine wpList_append_own _ rfl (.tmp 74) (.tmp 76) 51 rfl w2.heap.size 41 i0 _ 2 16 Tryz.underlying51 HI.out HZ0.out HZ1.out HZ2.out rfl (by omega) V4 _ (rcells dn) rfl OW.out ⟨d0.heap.size,0,none⟩ 1 1 [.int .i64 lo,.int .i64 p0.hi] rfl rfl (fun j u hu=>by rw [Addr.add_lit,Nat.zero_add,N1.out.cell];simpa using hu) (by simp [Value.oneCell']) (by unfold maxLen;omega) (by omega) (by rw [World.size_alloc];omega) ?_;intro v9 w9 hown9 hg9 _;have HO9:=Lib.hid hown9;have HG9:=Lib.hid hg9;clear hown9 hg9)
     go_roundw
     case rel=>exact ⟨0,f,dn++[⟨lo,p0.hi⟩],v9,rfl,rfl,by omega,by rw [List.length_append,rcells_append];exact HO9.out,by rw [List.append_assoc];exact (by have h:=HSH2.out;rw [HTI.out] at h;exact h),by omega,BE.out.grown HG9.out BE.out.size (fun r e=>(OW.out.lt r e).1)⟩
     case measure=>simp;try omega
    | succ j =>
     have a4:=Lib.hid (hgr)
     have a8:=Lib.hid (how)
     have a1:=Lib.hid (hbl)
     clear hgr how hbl
     obtain ⟨b2,o2,y2,hA2,hbm2,hy,hyr,hyc⟩:=RdV.get HRD.out (j:=j) (by omega)
     injection hA2 with hA2;injection hA2 with hA3 hA4;subst hA3 hA4
     obtain ⟨yl,yA,yc⟩:=y2
     dsimp only at hyr hyc
     have hyl:yl∈vesL ps:=by rw [← HXS.out];exact List.mem_map.2 ⟨_,List.mem_of_getElem? hy,rfl⟩
     have HYG:=Lib.hid (show (vesL ps).getD j []=yl by rw [← HXS.out,List.getD_eq_getElem?_getD,List.getElem?_map,hy];rfl)
     obtain ⟨hy1,hy2,hy3⟩:=HOK.out.2 yl hyl
     have hypos2:0<yl.length:=List.length_pos_iff.2 hy1
     obtain ⟨a2,ha0,ha2⟩:=hy3 _ (List.getElem_mem hypos2)
     have h0:yl[0]?=some (a2:Int):=by rw [List.getElem?_eq_getElem hypos2,ha0]
     obtain ⟨b6,o6,-,hA6,hb6,-,-⟩:=RdI.get hyr hypos2
     subst hA6
     have HFR:=Lib.hid (firR_eq (ps:=ps) h0)
     have HY3:=Lib.hid hy3;have HYR:=Lib.hid hyr;have HYC:=Lib.hid hyc;have HH0:=Lib.hid h0;have HBM2:=Lib.hid hbm2;have HB6:=Lib.hid hb6;clear hb6 hy hyl hy1 hy3 ha0 h0 hyr hyc hbm2
     obtain ⟨p2,hp2⟩:∃ p,p=ps.getD a2 default:=⟨_,rfl⟩
     rw [← hp2] at HFR
     have HP2:=Lib.hid hp2;clear hp2
     have hjw:IntKind.i64.wrap (j:Int)=(j:Int):=by rw [IntKind.wrap_i64];omega
     have hfd:=fun W'=>fieldR1 p2.lo p2.hi W'
     have hjz:(0:Int)<((j+1:Nat):Int):=by omega
     have hjz2:(0:Int)<(j:Int)+1:=by omega
     have hjq:(j:Int)<((q+1:Nat):Int):=by omega
     have hjq2:(j:Int)<(q:Int)+1:=by omega
     go_wp2
     replace a4:=kD a4
     replace a8:=Lib.hid (World.ownsRow.drew (a8.out))
     replace a1:=bD a1
     refine wp_region_held_drew (S:=(fun W'=>Below w2.heap.size w2 W'∧Blk W' (gr) 41 #[.int .i64 lo,.int .i64 p0.hi])) (by kernel_rfl) ⟨a1.out,a4.out⟩ (fun _=>?_)
     obtain ⟨e2,b5⟩:∃ w',w'=(wr.drew):=⟨_,rfl⟩
     rw [← b5] at a4 a8 a1
     rw [← b5]
     clear b5
     refine' twH 0 ⟨a1.out,a4.out⟩ ?_
     refine' twH 1 ⟨a1.out,a4.out⟩ ?_
     refine' twH 2 ⟨a1.out,a4.out⟩ ?_
     refine' twH 3 ⟨a1.out,a4.out⟩ ?_
     try simp only [pq]
     refine' twH 4 ⟨a1.out,a4.out⟩ ?_
     refine' twH 5 ⟨a1.out,a4.out⟩ ?_
     refine' twH 6 ⟨a1.out,a4.out⟩ ?_
     refine' twH 7 ⟨a1.out,a4.out⟩ ?_
     try simp only [pq]
     refine' tkH 8 ⟨a1.out,a4.out⟩ ?d1 ?_
     case d1=>(rintro W' ⟨hS0,hS1⟩;have hc0:=(Below.cell hS0 (p:=⟨bm,om+j,none⟩) HBM2.out).trans HYC.out;clear hS0 hS1;go_simp;try with_reducible rfl)
     refine' twH 11 ⟨a1.out,a4.out⟩ ?_
     refine' tkH 12 ⟨a1.out,a4.out⟩ ?d2 ?_
     case d2=>(rintro W' ⟨hS0,hS1⟩;have hc0:=Blk.nth hS1 0;clear hS0 hS1;go_simp;try with_reducible rfl)
     try simp only [pq]
     refine oneH 9 rfl fun K hK=>?_
     go_simp
     go_at_call 123
     refine (first_is g ware lim by_ A n k ps (some ⟨b6,o6,none⟩) yl.length yc yl (e2) (HV2.out.keep (a1.out)) (HYR.out.below (a1.out)) hypos2 a2 HH0.out ha2 p2 HP2.out).mono ?_
     rintro e d3 ⟨rfl,b3⟩
     dsimp only
     replace b3:=Lib.hid b3
     replace a1:=bH a1 b3
     replace a4:=kH a4 b3
     refine hK.out _ _ ⟨a1.out,a4.out⟩ (fun _=>?_);clear hK K
     try simp only [pq]
     refine' twH 10 ⟨a1.out,a4.out⟩ ?_
     refine' twH 13 ⟨a1.out,a4.out⟩ ?_
     refine' twH 14 ⟨a1.out,a4.out⟩ ?_
     try simp only [pq]
     refine wpAnyH_done (by kernel_rfl) ?_ _
     obtain ⟨cb,hcb⟩:∃ b:Bool,decide (lo≤p2.hi)=b:=⟨_,rfl⟩
     rw [hcb]
     have HCB:=Lib.hid hcb;clear hcb
     replace a8:=Lib.hid (owns_below (a8.out) b3.out)
     cases cb
     · have HTI:=Lib.hid (show shwI ps (vesL ps) q p0.lo=(j+1,lo) by rw [← HSI.out,shwI_succ,HYG.out,HFR.out];exact if_neg (of_decide_eq_false HCB.out))
       obtain ⟨e5,e7⟩:=at2 a4
       have hsl:=head_sliceS bm om (q+1) c5 (j+1) (by omega)
       have OW:=Lib.hid ((a8.out).alloc (.cells #[.int .i64 lo,.int .i64 p0.hi] 41));have N1:=Lib.hid (Blk.new d3 41 #[.int .i64 lo,.int .i64 p0.hi]);have BE:=Lib.hid ((a1.out).alloc (a1.out).size (.cells #[.int .i64 lo,.int .i64 p0.hi] 41))
       have hsz0:=(a1.out).size
       go_wp2_with (at_builtin;refine wpList_append_own _ rfl (.tmp 74) (.tmp 76) 51 rfl w2.heap.size 41 i0 _ 2 16 Tryz.underlying51 HI.out HZ0.out HZ1.out HZ2.out rfl (by omega) V4 _ (rcells dn) rfl OW.out ⟨d3.heap.size,0,none⟩ 1 1 [.int .i64 lo,.int .i64 p0.hi] rfl rfl (fun j u hu=>by rw [Addr.add_lit,Nat.zero_add,N1.out.cell];simpa using hu) (by simp [Value.oneCell']) (by unfold maxLen;omega) (by omega) (by rw [World.size_alloc];omega) ?_;intro v9 w9 hown9 hg9 _;have HO9:=Lib.hid hown9;have HG9:=Lib.hid hg9;clear hown9 hg9)
       go_roundw
       case rel=>exact ⟨(j+1),f,dn++[⟨lo,p0.hi⟩],v9,rfl,rfl,by omega,by rw [List.length_append,rcells_append];exact HO9.out,by rw [List.append_assoc];exact (by have h:=HSH2.out;rw [HTI.out] at h;exact h),by omega,BE.out.grown HG9.out BE.out.size (fun r e=>(OW.out.lt r e).1)⟩
       case measure=>simp;try omega
     · have HSI2:=Lib.hid (show shwI ps (vesL ps) j (lowF ps yl lo)=shwI ps (vesL ps) q p0.lo by rw [← HSI.out,shwI_succ,HYG.out,HFR.out];exact (if_pos (of_decide_eq_true HCB.out)).symm)
       obtain ⟨d4,d5⟩:=at2 a4
       have hcv:=(Below.cell (a1.out) (p:=⟨bm,om+j,none⟩) HBM2.out).trans HYC.out
       go_wp2
       clear hcv
       clear d4 d5
       go_loopw [46] (fun s46 wr=>∃ (t:Nat) (lo2:Int),s46=.int .i64 t∧t≤yl.length∧lowF ps (yl.take t) lo=lo2∧Blk wr gr 41 #[.int .i64 lo2,.int .i64 p0.hi]∧wr.ownsRow w2.heap.size 41 2 V4 dn.length (rcells dn)∧Below w2.heap.size w2 wr) (fun s46 _=>yl.length-(intOf s46).toNat)
       case atStart=>exact ⟨0,lo,rfl,Nat.zero_le _,rfl,a4.out,a8.out,a1.out⟩
       case round =>
        clear a4 a8 a1
        obtain ⟨t,lo2,rfl,ht,hlo2,hgr,how,hbl⟩:=hrel
        have HLO2:=Lib.hid hlo2;clear hlo2
        by_cases htl:t<yl.length
        · have a7:=Lib.hid (hgr)
          have a9:=Lib.hid (how)
          have a3:=Lib.hid (hbl)
          clear hgr how hbl
          have htl':(t:Int)<yl.length:=by omega
          obtain ⟨b7,o7,v6,hA6,hb6,hv6,e6⟩:=RdI.get HYR.out htl
          injection hA6 with hA6;injection hA6 with hA7 hA8;subst hA7 hA8
          obtain ⟨a6,rfl,ha6⟩:=HY3.out v6 (List.mem_of_getElem? hv6)
          have ha6':(a6:Int)<n:=by omega
          obtain ⟨b9,o9,p6,x6,hA9,hb9,hx6,-,c0,c1,c2,c3,c4,c5_,c6,c7⟩:=RdP.get HV2.out.prt ha6
          have HP6:=Lib.hid (show ptA ps (a6:Int)=p6 by unfold ptA;rw [Int.toNat_natCast,List.getD_eq_getElem?_getD,hx6];rfl)
          obtain ⟨-,-,-,v3⟩:=HV2.out.cells
          have hgl:=HV2.out.lt
          have HLS:=Lib.hid (lowF_snoc ps yl lo t _ hv6)
          rw [HLO2.out] at HLS
          have E6:=Lib.hid e6;have V3:=Lib.hid v3;have HGL:=Lib.hid hgl;have HB9:=Lib.hid hb9;have C1:=Lib.hid c1;have C5:=Lib.hid c5_;have HA9:=Lib.hid hA9;clear e6 v3 hgl hb6 hb9 c0 c1 c2 c3 c4 c5_ c6 c7 hx6 hv6 hA9
          obtain ⟨ft6,hft6⟩:∃ f,f=p6.ft:=⟨_,rfl⟩
          rw [← hft6] at C5
          have HF6:=Lib.hid hft6;clear hft6
          have z1:=(Below.cell (a3.out) HB6.out).trans E6.out;have z2:=(Below.cell (a3.out) HGL.out).trans V3.out;have z3:=(Below.cell (a3.out) HB9.out).trans C5.out
          have hpA:=HA9.out
          rw [hpA] at z2
          cases ft6
          · go_wp2
            go_roundw
            case rel=>exact ⟨t+1,lo2,by go_num,by omega,by rw [HLS.out];unfold lowS;rw [HP6.out,← HF6.out];rfl,a7.out,a9.out,a3.out⟩
            case measure=>simp [intOf];omega
          · obtain ⟨X6,hX6⟩:∃ v,min lo2 p6.lo=v:=⟨_,rfl⟩
            have hX7:(if p6.lo<lo2 then p6.lo else lo2)=X6:=by rw [← hX6];split<;>omega
            have HX6:=Lib.hid (show lowS ps lo2 (a6:Int)=X6 by unfold lowS;rw [HP6.out,← HF6.out];exact hX6)
            go_wp2_with fail
            clear z1 z2 z3
            replace a7:=kD a7
            replace a9:=Lib.hid (World.ownsRow.drew (a9.out))
            replace a3:=bD a3
            refine wp_region_held_drew (S:=(fun W'=>Below w2.heap.size w2 W')) (by kernel_rfl) a3.out (fun _=>?_)
            obtain ⟨d6,b8⟩:∃ w',w'=(wr.drew):=⟨_,rfl⟩
            rw [← b8] at a7 a9 a3
            rw [← b8]
            clear b8
            refine' twH 0 a3.out ?_
            refine' twH 2 a3.out ?_
            refine' twH 3 a3.out ?_
            refine' twH 4 a3.out ?_
            try simp only [pq]
            refine' twH 5 a3.out ?_
            refine' tkH 6 a3.out ?d7 ?_
            case d7=>(rintro W' hS0;have hc0:=(Below.cell hS0 HGL.out).trans V3.out;rw [hpA] at hc0;clear hS0;go_simp;try with_reducible rfl)
            refine' twH 7 a3.out ?_
            refine' twH 8 a3.out ?_
            try simp only [pq]
            refine' twH 9 a3.out ?_
            refine' twH 10 a3.out ?_
            refine' tkH 11 a3.out ?d8 ?_
            case d8=>(rintro W' hS0;have hc0:=(Below.cell hS0 HB9.out).trans C1.out;clear hS0;go_simp;try with_reducible rfl)
            try simp only [pq]
            refine oneH 1 rfl fun K hK=>?_
            have zl557:=Blk.cell (a7.out) 0
            go_simp
            clear zl557
            refine hK.out _ _ a3.out (fun _=>?_);clear hK K
            try simp only [pq]
            refine' tkH 12 a3.out ?d9 ?_
            case d9=>(rintro W' -;go_simp;try with_reducible rfl)
            refine' twH 13 a3.out ?_
            try simp only [pq]
            refine oneH 14 rfl fun K hK=>?_
            have v0_:(d6).cell? ⟨gr,0,none⟩=some (.int .i64 lo2):=Blk.cell (a7.out) 0
            have f0_:=Blk.frozen (a7.out) 0
            go_simp
            have e0:=Lib.hid (Blk.set_ (a7.out) 0 (.int .i64 X6))
            have e1:=Lib.hid (own_farV (a9.out) (p:=⟨gr,0,none⟩) NG4.out (.int .i64 X6))
            have c9:=Lib.hid (Below.setCell (a3.out) (p:=⟨gr,0,none⟩) hgr2 (.int .i64 X6))
            obtain ⟨e8,c8⟩:∃ w',w'=((d6).setCell ⟨gr,0,none⟩ (.int .i64 X6)):=⟨_,rfl⟩
            rw [← c8] at e0 e1 c9
            rw [← c8]
            clear c8 v0_ f0_ a7 a9 a3
            refine hK.out _ _ c9.out (fun _=>?_);clear hK K
            try simp only [pq]
            refine wpAnyH_done (by kernel_rfl) ?_ _
            clear hX6 hX7
            go_wp2
            go_roundw
            case rel=>exact ⟨t+1,X6,by go_num,by omega,by rw [HLS.out];exact HX6.out,e0.out,e1.out,c9.out⟩
            case measure=>simp [intOf];omega
        · have a7:=Lib.hid (hgr)
          have a9:=Lib.hid (how)
          have a3:=Lib.hid (hbl)
          clear hgr how hbl
          obtain rfl:t=yl.length:=by omega
          have hlo3:=HLO2.out
          rw [List.take_length] at hlo3
          have HLO3:=Lib.hid hlo3;clear hlo3
          go_wp2
          go_roundw
          case rel=>exact ⟨j,lo2,by go_num,by omega,a7.out,a9.out,by rw [← HLO3.out];exact HSI2.out,a3.out⟩
          case measure=>simp [intOf];try omega
end Go.Proofs.YtokpblmgdmokoaaGreat
