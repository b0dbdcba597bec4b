import Derived.Shelf.Slices.Reverse
import Derived.Sort.OwnSortedInts
import Derived.Test.YtjjmifcjailpaaaGreatPGraph
import Derived.Deep.DeepCutAuto
import Derived.Deep.OwnRows
import Derived.Laws.AppendOwnNone
import Derived.Lib.SmallJoins
import Derived.Maps.OwnIn
import Derived.Shelf.SlIterI.Nil
import Derived.Shelf.SortM.Plain
import Derived.Shelf.SortM.SortNone
import Derived.Test.YtjjmifcjailpaaaGreatPIdz
import Derived.Test.YtjjmifcjailpaaaGreatPSet
import Derived.Test.YtjjmifcjailpaaaGreatPEnds
import Derived.Test.YtjjmifcjailpaaaGreatPCircle
import Derived.Test.YtjjmifcjailpaaaGreatPKeeps
set_option linter.unusedSimpArgs false
set_option linter.unusedVariables false
namespace Go.Proofs.YtjjmifcjailpaaaGreat
open Go.Lib (hid)
open Go.RowKit
attribute [local go_sem] Oper.semAt_some
def KeepQ (Bs Br:Nat) (W W':World):Prop:=W.heap.size≤W'.heap.size∧W'.heap[Bs]?=W.heap[Bs]?∧W'.heap[Br]?=W.heap[Br]?
theorem KeepQ.refl (Bs Br:Nat) (W:World):KeepQ Bs Br W W:=⟨Nat.le_refl _,rfl,rfl⟩
theorem KeepQ.trans {Bs Br:Nat} {A B C:World} (h:KeepQ Bs Br A B) (k:KeepQ Bs Br B C):KeepQ Bs Br A C:=⟨Nat.le_trans h.1 k.1,k.2.1.trans h.2.1,k.2.2.trans h.2.2⟩
theorem RdI.move {w W:World} {A:Option Addr} {n c:Nat} {x:List Int} (h:RdI w A n c x) {Br:Nat} (hA:∀ b o,A=some ⟨b,o,none⟩→b=Br) (hsz:w.heap.size≤W.heap.size) (hb:W.heap[Br]?=w.heap[Br]?):RdI W A n c x:=by
 refine ⟨h.len,h.cap,h.nil,?_⟩
 rcases h.cells with h1|⟨b,o,e,hlt,hc⟩
 · exact .inl h1
 · obtain rfl:=hA b o e
   refine .inr ⟨b,o,e,by omega,fun j u hu=>?_⟩
   rw [← hc j u hu]
   simp [World.cell?,hb]
end Go.Proofs.YtjjmifcjailpaaaGreat
/- slices.Reverse at numbers, and slices.Backward itself. -/
namespace Go.Proofs.YtjjmifcjailpaaaGreat
open Go.Lib (hid)
open Go.RowKit Go.Shelf Go.Sort
end Go.Proofs.YtjjmifcjailpaaaGreat
namespace Go.Proofs.YtjjmifcjailpaaaGreat
open Go.Lib (hid)
open Go.ChangeShapes Go.WideShapes Go.ChangeAt Go.RowKit
set_option maxRecDepth 100000
theorem Law.own:ownKnob Tryz.prog.godebug=none:=by kernel_rfl
theorem Law.laidOut:laidOutB Tryz.prog=true:=by kernel_rfl
theorem add_flat (b o k:Nat):(⟨b,o,none⟩:Addr).add k=⟨b,o+k,none⟩:=by
 unfold Addr.add
 split
 · rename_i h;subst h;rfl
 · rfl
section
variable {H:Type} {enc:TypeId × Value→H} {W:World} {base:Nat} {sp:Nat→Bool} {held:Bool}
theorem cell_low {a:Addr} {v:Value} (h:W.cell? a=some v):a.block<W.heap.size:=by
 by_cases hb:a.block<W.heap.size
 · exact hb
 · exfalso
   have e:W.heap[a.block]?=none:=by simp;omega
   simp [World.cell?,e] at h
theorem one_bound {m:Nat} {cs:List Value} {x:DataW H × List MemPlace} (h:DataW.trod enc Tryz.prog W base sp held m 70 cs=some x) (hl:cs.length=4):∃ b:Bnd,cs=b.cells:=by
 obtain ⟨y0,y1,y2,y3,k,-,-,h0,h1,h2,h3⟩:=Go.Joins.trod_struct4 Tryz.underlying70 h
 match cs,hl with
 | [c0,c1,c2,c3],_ =>
  have k1:Tryz.prog.cellsOf 3=1:=by kernel_rfl
  simp only [k1,List.drop_zero,List.take_succ_cons,List.take_zero,List.drop_succ_cons] at h0 h1 h2 h3
  obtain ⟨a0,e0,-,-⟩:=DataW.trod_int Tryz.underlying3 h0
  obtain ⟨a1,e1,-,-⟩:=DataW.trod_int Tryz.underlying3 h1
  obtain ⟨a2,e2,-,-⟩:=DataW.trod_int Tryz.underlying3 h2
  obtain ⟨a3,e3,-,-⟩:=DataW.trod_int Tryz.underlying3 h3
  simp only [List.cons.injEq,and_true] at e0 e1 e2 e3
  subst e0 e1 e2 e3
  exact ⟨⟨a0,a1,a2,a3⟩,rfl⟩
theorem open_bounds {m:Nat} {v:Value} {x:DataW H × List MemPlace} (h:DataW.trod enc Tryz.prog W base sp held m 22 [v]=some x):∃ A n c l,v=.slice A n c∧RdB W A n c l∧n≤maxLen:=by
 have hC:Tryz.prog.cellsOf 70=4:=by kernel_rfl
 rcases Go.Deep.open_slice Tryz.underlying22 h with ⟨hcs,-⟩|⟨a,len,cap,m',n,D,Pl,hcs,hb,hl,hm,hmm,hx,hi⟩
 · simp only [List.cons.injEq,and_true] at hcs
   exact ⟨none,0,0,[],hcs,⟨rfl,Nat.le_refl _,fun _=>⟨rfl,rfl⟩,.inl rfl⟩,Nat.zero_le _⟩
 · simp only [List.cons.injEq,and_true] at hcs
   have hle:len≤m':=by rw [hmm];split<;>omega
   rw [hC] at hi
   obtain ⟨X,hX⟩:=Go.Deep.choose_lt (α:=Bnd) (n:=len) (p:=fun i b=>∀ j,j<4→W.cell? (a.add (i * 4+j))=b.cells[j]?) (fun i hil=>by
    obtain ⟨cs',g1,g2⟩:=hi i (by omega)
    obtain ⟨-,g3,g4⟩:=World.cells?_some g1
    obtain ⟨b,rfl⟩:=one_bound g2 g3
    refine ⟨b,fun j hj=>?_⟩
    have:=g4 j hj
    rw [Go.Deep.add_add] at this
    exact this)
   refine ⟨some a,len,cap,(List.range len).map X,hcs,⟨by simp,hl,(fun h=>by cases h),?_⟩,by omega⟩
   by_cases h0:len=0
   · subst h0;exact .inl rfl
   · obtain ⟨ab,ao,asp⟩:=a
     have z:=hX 0 (by omega) 0 (by omega)
     have hs:asp=none:=by simpa [Addr.add] using World.cell?_spot (z.trans (show (X 0).cells[0]?=some (.int .i64 (X 0).f) from rfl))
     subst hs
     have hlt:ab<W.heap.size:=by simpa [Addr.add] using cell_low (z.trans (show (X 0).cells[0]?=some (.int .i64 (X 0).f) from rfl))
     refine .inr ⟨ab,ao,rfl,hlt,fun j u hu=>?_⟩
     have hj:j<len * 4:=by
      have:=(List.getElem?_eq_some_iff.1 hu).1
      rw [bcells_length] at this
      simpa using this
     have e:j / 4 * 4+j % 4=j:=by omega
     have hlk:((List.range len).map X)[j / 4]?=some (X (j / 4)):=by
      rw [List.getElem?_map,List.getElem?_range (by omega)]
      rfl
     have h1:=bcells_get ((List.range len).map X) (j / 4) (j % 4) _ hlk (Nat.mod_lt _ (by omega))
     rw [e] at h1
     have h2:=hX (j / 4) (by omega) (j % 4) (Nat.mod_lt _ (by omega))
     rw [e,add_flat] at h2
     rw [h2,← h1,hu]
end
end Go.Proofs.YtjjmifcjailpaaaGreat
namespace Go.Proofs.YtjjmifcjailpaaaGreat
open Go.Lib (hid)
open Go.RowKit
attribute [local go_sem] Oper.semAt_some
def Src (w W:World) (A:Option Addr) (n c:Nat) (l:List Bnd):Prop:=RdB w A n c l∨OwnB W (w.heap.size+3) A n c l
theorem Src.rd {w W:World} {A:Option Addr} {n c:Nat} {l:List Bnd} (h:Src w W A n c l) (hb:Below w.heap.size w W):RdB W A n c l:=h.elim (fun h=>h.below hb) (fun h=>(OwnB.rd h).1)
theorem Src.keep {w W W':World} {A:Option Addr} {n c:Nat} {l:List Bnd} (h:Src w W A n c l) (hb:Below W.heap.size W W'):Src w W' A n c l:=h.imp id (fun h=>owns_below h hb)
theorem Src.set {w W:World} {A:Option Addr} {n c:Nat} {l:List Bnd} (h:Src w W A n c l) (a:Addr) (ha:a.block<w.heap.size+3) (u:Value):Src w (W.setCell a u) A n c l:=h.imp id (fun h=>ownsRow_setCell_below h ha _)
theorem Src.grown {w W W':World} {A:Option Addr} {n c:Nat} {l:List Bnd} (h:Src w W A n c l) {v:Value} {base m:Nat} {xs:List Value} (hv:W.ownsRow base 3 1 v m xs) (hg:W.grownBy W' v.ownBlock):Src w W' A n c l:=h.imp id (fun h=>by
 refine World.ownsRow.kept h hg ?_
 obtain ⟨_,h⟩:=h
 obtain ⟨_,hv⟩:=hv
 rcases h with ⟨h,_⟩|⟨g,cap,cur,h,_,hgc,_⟩
 · left;rw [h];rfl
 · right
   rw [h]
   rcases hv with ⟨rfl,_⟩|⟨g',cap',cur',rfl,_,hgc',_⟩
   · intro e;cases e
   · intro e
     have e:some g=some g':=e
     injection e with e
     subst e
     rw [hgc] at hgc'
     injection hgc' with hgc'
     injection hgc' with _ hgc'
     cases hgc')
end Go.Proofs.YtjjmifcjailpaaaGreat
namespace Go.Proofs.YtjjmifcjailpaaaGreat
open Go.Lib (hid)
open Go.RowKit
theorem rdI_some {w:World} {A:Option Addr} {n c:Nat} {l:List Int} {k:Nat} {v:Int} (h:RdI w A n c l) (hv:l[k]?=some v):∃ b o,A=some ⟨b,o,none⟩:=by
 obtain ⟨b,o,x,h1,-⟩:=h.get (k:=k) (by rw [← h.len];exact (List.getElem?_eq_some_iff.1 hv).1)
 exact ⟨b,o,h1⟩
theorem rdI_at {w:World} {b o n c:Nat} {l:List Int} {k:Nat} {v:Int} (h:RdI w (some ⟨b,o,none⟩) n c l) (hv:l[k]?=some v):w.cell? ⟨b,o+k,none⟩=some (.int .i64 v)∧b<w.heap.size:=by
 obtain ⟨b',o',x,h1,h2,h3,h4⟩:=h.get (k:=k) (by rw [← h.len];exact (List.getElem?_eq_some_iff.1 hv).1)
 injection h1 with h1
 injection h1 with e1 e2
 subst e1 e2
 rw [hv] at h3
 injection h3 with h3
 subst h3
 exact ⟨h4,h2⟩
theorem blk_drewN {w:World} {g:Nat} {t:TypeId} {cs:Array Value} (h:Blk w g t cs) (n:Nat):Blk (w.drewN n) g t cs:=h
end Go.Proofs.YtjjmifcjailpaaaGreat
/- What endOf answers, part by part; the code of Keeps. -/
namespace Go.Proofs.YtjjmifcjailpaaaGreat
open Go.Lib (hid)
open Go.RowKit
def iv (y:List Int) (r:List Value):Array Value:=(y.map (Value.int .i64)++r).toArray
theorem iv_get {y:List Int} {r:List Value} {k:Nat} (h:k<y.length):(iv y r)[k]?=some (.int .i64 (at_ y k)):=by
 unfold iv
 rw [List.getElem?_toArray,List.getElem?_append_left (by simpa using h),List.getElem?_map,List.getElem?_eq_getElem h]
 simp [at_,List.getD_eq_getElem?_getD,List.getElem?_eq_getElem h]
theorem iv_set {y:List Int} {r:List Value} {k:Nat} (h:k<y.length) (v:Int):(iv y r).setIfInBounds k (.int .i64 v)=iv (y.set k v) r:=by
 unfold iv
 rw [List.setIfInBounds_toArray,List.set_append_left _ _ (by simpa using h),List.map_set]
theorem own_iv {w:World} {base g n c:Nat} {y:List Int} (h:OwnI w base (some ⟨g,0,none⟩) n c y):∃ r,Blk w g 3 (iv y r)∧base≤g∧y.length+r.length=c∧c≤maxLen∧y.length=n:=by
 obtain ⟨hl,h⟩:=h
 rw [List.length_map,Nat.mul_one] at hl
 rcases h with ⟨h1,_⟩|⟨g',cap,cur,h1,hb,hg,hnc,hm,hs,ht⟩
 · cases h1
 · injection h1 with h1 _ h2
   injection h1 with h1
   injection h1 with h1
   subst h1 h2
   rw [Nat.mul_one] at ht hs
   refine ⟨cur.toList.drop n,?_,hb,?_,hm,hl⟩
   · unfold iv Blk
     rw [← ht,List.take_append_drop,hg]
   · simp only [List.length_drop,Array.length_toList,hs];omega
theorem iv_own {w:World} {base g n c:Nat} {y:List Int} {r:List Value} (h:Blk w g 3 (iv y r)) (hb:base≤g) (hn:y.length=n) (hc:y.length+r.length=c) (hm:c≤maxLen):OwnI w base (some ⟨g,0,none⟩) n c y:=by
 subst hn hc
 refine ⟨by simp,.inr ⟨g,_,iv y r,rfl,hb,h,by omega,hm,by simp [iv],?_⟩⟩
 unfold iv
 rw [Nat.mul_one,List.toList_toArray,List.take_append_of_le_length (by simp),List.take_of_length_le (by simp)]
theorem relax_no {far:Int} {y:List Int} {b:Bnd} (h:¬ (look y b.f<far∧look y b.f+b.m<look y b.t)):rrelax far y b=y:=by unfold rrelax;rw [if_neg h]
theorem relax_yes {far:Int} {y:List Int} {b:Bnd} (h:look y b.f<far∧look y b.f+b.m<look y b.t):rrelax far y b=y.set b.t.toNat (look y b.f+b.m):=by unfold rrelax;rw [if_pos h]
theorem rsums_step {far:Int} {l:List Bnd} {p k:Nat} {y:List Int} (hk:k<p+1):rsums far l (p+1-k) y=if rround far l y=y then some y else rsums far l (p+1-(k+1)) (rround far l y):=by
 obtain ⟨d,hd⟩:∃ d,p+1-k=d+1:=⟨p-k,by omega⟩
 rw [hd,show p+1-(k+1)=d from by omega]
 rfl
theorem fold_take {far:Int} {l:List Bnd} {j:Nat} {b:Bnd} {y:List Int} (h:l[j]?=some b):(l.take (j+1)).foldl (rrelax far) y=rrelax far ((l.take j).foldl (rrelax far) y) b:=by
 rw [List.take_add_one,h,List.foldl_append]
 rfl
def Bd (r:Int) (y:List Int):Prop:=∀ v,v<y.length→-(1000000000000+r)≤at_ y v∧at_ y v≤1000000000000
theorem Bd.relax {r:Int} {y:List Int} (h:Bd r y) {t:Nat} {v:Int} (ht:t<y.length) (h1:-(1000000000000+(r+100000000))≤v) (h2:v≤1000000000000) (hr:0≤r):Bd (r+100000000) (y.set t v):=fun u hu=>by
 rw [List.length_set] at hu
 rw [at_set _ _ _ _ ht]
 split
 · exact ⟨h1,h2⟩
 · have:=h u hu;omega
theorem Bd.more {r s:Int} {y:List Int} (h:Bd r y) (hrs:r≤s):Bd s y:=fun u hu=>by have:=h u hu;omega
theorem wrap_small {x:Int} (h1:-9223372036854775808≤x) (h2:x≤9223372036854775807):IntKind.i64.wrap x=x:=by
 simp only [IntKind.wrap,IntKind.bits,IntKind.signed]
 simp
 omega
theorem ints_one2 (Z:List Int):∀ v∈Z.map (Value.int .i64),v.oneCell'=true:=fun v hv=>by
 obtain ⟨z,_,rfl⟩:=List.mem_map.1 hv
 rfl
theorem own_some2 {w:World} {base:Nat} {e:TypeId} {size:Nat} {A:Option Addr} {n c m:Nat} {xs:List Value} (h:w.ownsRow base e size (.slice A n c) m xs) (hn:1≤n):∃ g,A=some ⟨g,0,none⟩∧base≤g:=by
 rcases h.2 with ⟨h1,_⟩|⟨g,cap,cur,h1,hb,_⟩
 · injection h1 with _ h1 _;omega
 · injection h1 with h1 _ _
   exact ⟨g,h1,hb⟩
set_option maxRecDepth 100000 in
set_option maxHeartbeats 8000000 in
theorem sums_any (p:Nat) (far:Int) (A B:Option Addr) (n c m d:Nat) (l:List Bnd) (x0:List Int) (w:World) (hr:RdB w A n c l) (hn400:n≤402)
 (he:∀ c∈l,0≤c.f∧c.f<p∧0≤c.t∧c.t<p∧c.f≠c.t∧-100000000≤c.m∧c.m≤100000000) (hp1:1≤p) (hp:p≤60) (hq:RdI w B m d x0) (hx:x0.length=p) (hb:Bd 0 x0) (hf1:-1000000000000≤far) (hf2:far≤1000000000000) :
 Calls Tryz.prog 132 #[.agg #[.int .i64 (p:Int),.slice A n c],.slice B m d,.int .i64 far] w (RetB ((rsums far l (p+1) x0).getD []) (rsums far l (p+1) x0).isSome w):=by
 obtain rfl:m=p:=by rw [← hq.len,hx]
 obtain ⟨v0_,hv0_⟩:∃ v,x0[0]?=some v:=⟨x0[0]'(by omega),List.getElem?_eq_getElem _⟩
 obtain ⟨bz,oz,hBz⟩:=rdI_some hq hv0_
 subst hBz
 clear hv0_
 obtain ⟨V,hV⟩:∃ V,rsums far l (m+1) x0=V:=⟨_,rfl⟩
 rw [hV]
 have HV:=hid hV;clear hV
 obtain ⟨i0,hi0,hz0,hz1,hz2⟩:=info_parts infoI
 have hB:Below w.heap.size w (w.alloc (.cells #[.int .i64 (m:Int),.slice A n c] 84)):=(Below.refl _ w).alloc (Nat.le_refl _) _
 have hbs:=(Blk.new w 84 #[.int .i64 (m:Int),.slice A n c]).alloc (.cells #[] 3)
 have hown:((w.alloc (.cells #[.int .i64 (m:Int),.slice A n c] 84)).alloc (.cells #[] 3)).ownsRow (w.heap.size+1) 3 1 (.slice (some ⟨w.heap.size+1,0,none⟩) 0 0) 0 []:=by
  have h:=World.ownsRow_lit (base:=(w.alloc (.cells #[.int .i64 (m:Int),.slice A n c] 84)).heap.size) (e:=3) (size:=1) (w.alloc (.cells #[.int .i64 (m:Int),.slice A n c] 84)) #[] 0 (Nat.le_refl _) (by unfold maxLen;omega) rfl
  rw [World.size_alloc] at h
  exact h
 have hB0:Below w.heap.size w ((w.alloc (.cells #[.int .i64 (m:Int),.slice A n c] 84)).alloc (.cells #[] 3)):=hB.alloc hB.size _
 have hq2:=hq.below hB0
 have hrn:=hr.len
 have HO:=hid hown;have HL:=hid hq2;have HB0:=hid hB0;have HR:=hid hr;have HBS:=hid hbs;clear hown hq2 hB hB0 hr hq hbs
 have HI:=hid hi0;have HZ0:=hid hz0;have HZ1:=hid hz1;have HZ2:=hid hz2;clear hi0 hz0 hz1 hz2
 have HE:=hid he;have HBD:=hid hb;clear he hb
 go_enter Tryz.func132,Tryz.ntmps132
 go_wp2_with (at_builtin;refine wpList_append_own _ rfl (.tmp 13) (.tmp 14) 34 rfl (w.heap.size+1) 3 i0 _ 1 8 Tryz.underlying34 HI.out HZ0.out HZ1.out HZ2.out rfl (by omega) _ 0 [] rfl HO.out ⟨bz,oz,none⟩ m d (x0.map (Value.int .i64)) rfl (by rw [List.length_map,HL.out.len,Nat.mul_one]) (HL.out.cells.hc _ rfl) (ints_one2 x0) (by unfold maxLen;omega) (by omega) (by simp) ?_;intro v' w' hown' hg' _;rw [Nat.zero_add,List.nil_append] at hown';obtain ⟨B',d',rfl,-⟩:=own_form hown';have HO':=hid hown';have HG':=hid (show World.grownBy _ w' (some (w.heap.size+1)) from hg');clear hown' hg')
 have hB1:Below w.heap.size w w':=HB0.out.grown HG'.out (by simp;try omega) (fun k e=>by cases e;omega)
 have hBS1:=blk_grown HBS.out HG'.out (by simp)
 obtain ⟨g,hgB,hgb⟩:=own_some2 HO'.out (by omega)
 subst hgB
 obtain ⟨r,hiv,-,hrc,hdm,-⟩:=own_iv HO'.out
 have HB1:=hid hB1;have HBS1:=hid hBS1;have HIV0:=hid hiv;clear hB1 hBS1 hiv HO' HG' HO HL HB0 HBS HI HZ0 HZ1 HZ2
 go_loopw [9] (fun i wr=>∃ (k:Nat) (y:List Int),k≤m+1∧i=.int .i64 k∧rsums far l (m+1-k) y=V∧y.length=m∧Bd (k * 50000000000) y∧Blk wr w.heap.size 84 #[.int .i64 (m:Int),.slice A n c]∧Blk wr g 3 (iv y r)∧Below w.heap.size w wr) (fun i _=>m+1-(intOf i).toNat)
 case atStart=>exact ⟨0,x0,Nat.zero_le _,rfl,HV.out,hx,HBD.out,HBS1.out,HIV0.out,HB1.out⟩
 case round =>
  clear HB1 HBS1 HIV0 HV HBD
  obtain ⟨k,y,hk,rfl,hsum,hyl,hbd,hbs,hby,hbel⟩:=hrel
  have HS:=hid hsum;have HBD:=hid hbd;have HBS:=hid hbs;have HBY:=hid hby;have HBE:=hid hbel;clear hsum hbd hbs hby hbel
  have z0:wr.cell? ⟨w.heap.size,0,none⟩=some (.int .i64 (m:Int)):=Blk.cell HBS.out 0
  by_cases hlt:k<m+1
  · have hle:(k:Int)≤m:=by omega
    go_wp2
    clear z0
    go_loopw [11,10] (fun i sv wr=>∃ (j:Nat) (z:List Int) (b:Bool),j≤n∧i=.int .i64 j∧sv=.bool b∧z=(l.take j).foldl (rrelax far) y∧z.length=m∧Bd (k * 50000000000+j * 100000000) z∧(b=decide (z=y))∧Blk wr w.heap.size 84 #[.int .i64 (m:Int),.slice A n c]∧Blk wr g 3 (iv z r)∧Below w.heap.size w wr) (fun i _ _=>n-(intOf i).toNat)
    case atStart=>exact ⟨0,y,true,Nat.zero_le _,rfl,rfl,rfl,hyl,by simpa using HBD.out,by simp,HBS.out,HBY.out,HBE.out⟩
    case round =>
     clear HBS HBY HBE HBD
     obtain ⟨j,z,b,hj,rfl,rfl,hzf,hzl,hbd,hbz,hbs,hby,hbel⟩:=hrel
     have HZF:=hid hzf;have HBD:=hid hbd;have HBZ:=hid hbz;have HBS:=hid hbs;have HBY:=hid hby;have HBE:=hid hbel;clear hzf hbd hbz hbs hby hbel
     have z0:wr.cell? ⟨w.heap.size,0,none⟩=some (.int .i64 (m:Int)):=Blk.cell HBS.out 0
     have z1:wr.cell? ⟨w.heap.size,1,none⟩=some (.slice A n c):=Blk.cell HBS.out 1
     by_cases hjn:j<n
     · obtain ⟨ba,oa,f,t,mm,i,hA,hbw,hx2,c0,c1,c2,c3⟩:=(HR.out.below HBE.out).get hjn
       obtain ⟨e1,e2,e3,e4,e5,e6,e7⟩:=HE.out _ (List.mem_of_getElem? hx2)
       simp only at e1 e2 e3 e4 e5 e6 e7
       obtain ⟨f,rfl⟩:=Int.eq_ofNat_of_zero_le e1
       obtain ⟨t,rfl⟩:=Int.eq_ofNat_of_zero_le e3
       have hft:f<m:=by omega
       have htt:t<m:=by omega
       have hne:f≠t:=by omega
       have HX:=hid hx2;clear hx2 e1 e3
       subst hA
       obtain ⟨vf,hvf⟩:∃ v,at_ z f=v:=⟨_,rfl⟩
       obtain ⟨vt,hvt⟩:∃ v,at_ z t=v:=⟨_,rfl⟩
       have hb1:=HBD.out f (by omega)
       have hb2:=HBD.out t (by omega)
       rw [hvf] at hb1
       rw [hvt] at hb2
       have hcf:(iv z r)[f]?=some (.int .i64 vf):=by rw [iv_get (by omega),hvf]
       have hct:(iv z r)[t]?=some (.int .i64 vt):=by rw [iv_get (by omega),hvt]
       have VF:=hid hcf;have VT:=hid hct;clear hcf hct
       have hlook:look z (f:Int)=vf∧look z (t:Int)=vt:=⟨by rw [look_at,hvf],by rw [look_at,hvt]⟩
       have HLK:=hid hlook;clear hlook hvf hvt
       have hgl:=HBY.out.lt
       have y1:wr.cell? ⟨g,f,none⟩=some (.int .i64 vf):=(Blk.cell HBY.out f).trans VF.out
       have y2:wr.cell? ⟨g,t,none⟩=some (.int .i64 vt):=(Blk.cell HBY.out t).trans VT.out
       have hend:∀ (b':Bool) (z':List Int) (W:World),rrelax far z ⟨f,t,mm,i⟩=z'→z'.length=m→Bd (k * 50000000000+j * 100000000+100000000) z'→b'=decide (z'=y)→Blk W w.heap.size 84 #[.int .i64 (m:Int),.slice (some ⟨ba,oa,none⟩) n c]→Blk W g 3 (iv z' r)→Below w.heap.size w W →
        ∃ (j':Nat) (z:List Int) (b:Bool),j'≤n∧Value.int .i64 ((j+1:Nat):Int)=.int .i64 j'∧Value.bool b'=.bool b∧z=(l.take j').foldl (rrelax far) y∧z.length=m∧Bd (k * 50000000000+j' * 100000000) z∧(b=decide (z=y))∧Blk W w.heap.size 84 #[.int .i64 (m:Int),.slice (some ⟨ba,oa,none⟩) n c]∧Blk W g 3 (iv z r)∧Below w.heap.size w W :=
        fun b' z' W h1 h2 h3 h4 h5 h6 h7=>⟨j+1,z',b',by omega,rfl,rfl,by rw [fold_take HX.out,← HZF.out,h1],h2,by rw [show (k:Int) * 50000000000+((j+1:Nat):Int) * 100000000=k * 50000000000+j * 100000000+100000000 from by omega];exact h3,h4,h5,h6,h7⟩
       have HEND:=hid hend;clear hend
       by_cases q1:vf<far
       · by_cases q2:vf+mm<vt
         · have d1:decide (vf<far)=true:=decide_eq_true q1
           have d2:decide (vf+mm<vt)=true:=decide_eq_true q2
           go_wp2_with fail
           go_quiet (fail)
           go_wp2_with fail
           clear y1 y2 z0 z1 c0 c1 c2 c3 d1 d2
           have BB:=hid (Blk.drew (blk_drewN (Blk.new wr 70 #[.int .i64 (f:Int),.int .i64 (t:Int),.int .i64 mm,.int .i64 i]) nq))
           have BY:=hid (Blk.drew (blk_drewN (HBY.out.alloc (.cells #[.int .i64 (f:Int),.int .i64 (t:Int),.int .i64 mm,.int .i64 i] 70)) nq))
           have BS:=hid (Blk.drew (blk_drewN (HBS.out.alloc (.cells #[.int .i64 (f:Int),.int .i64 (t:Int),.int .i64 mm,.int .i64 i] 70)) nq))
           have BE:=hid (Below.drew (bdN (HBE.out.alloc HBE.out.size (.cells #[.int .i64 (f:Int),.int .i64 (t:Int),.int .i64 mm,.int .i64 i] 70)) nq))
           clear HBS HBY HBE
           have YF:=hid ((Blk.cell BY.out f).trans VF.out)
           have hvf2:((iv z r).setIfInBounds t (.int .i64 (vf+mm)))[f]?=some (.int .i64 vf):=by rw [Array.getElem?_setIfInBounds_ne (by omega)];exact VF.out
           have VF2:=hid hvf2
           have HIV:=hid (iv_set (r:=r) (show t<z.length by omega) (vf+mm))
           have HRY:=hid (relax_yes (far:=far) (y:=z) (b:=⟨f,t,mm,i⟩) (by dsimp only;rw [HLK.out.1,HLK.out.2];exact ⟨q1,q2⟩))
           have HZN:z.set t (vf+mm)≠y:=by
            intro e
            have h1:=rfold_le far t (l.take j) y
            rw [← HZF.out,← e,at_set _ _ _ _ (by omega),if_pos rfl] at h1
            have h2:=HLK.out.2
            rw [look_at] at h2
            omega
           clear hvf2
           have HWR:=hid (wrap_small (x:=vf+mm) (by omega) (by omega))
           generalize World.drewN (wr.alloc (.cells #[.int .i64 (f:Int),.int .i64 (t:Int),.int .i64 mm,.int .i64 i] 70)) nq=W0 at *
           refine wp_region_held_drew (S:=(fun W'=>Blk W' wr.heap.size 70 #[.int .i64 (f:Int),.int .i64 (t:Int),.int .i64 mm,.int .i64 i]∧W'.cell? ⟨g,f,none⟩=some (.int .i64 vf))) (by kernel_rfl) ⟨BB.out,YF.out⟩ (fun _=>?_)
           obtain ⟨a2,a0⟩:∃ w',w'=W0.drew:=⟨_,rfl⟩
           rw [← a0] at BB YF BY BS BE
           rw [← a0]
           clear a0
           refine' twH 0 ⟨BB.out,YF.out⟩ ?_
           refine' twH 1 ⟨BB.out,YF.out⟩ ?_
           refine' tkH 2 ⟨BB.out,YF.out⟩ ?a4 ?_
           case a4=>(rintro W' ⟨hS0,hS1⟩;have hc0:=Blk.nth hS0 1;clear hS0 hS1;go_simp;try with_reducible rfl)
           refine' twH 3 ⟨BB.out,YF.out⟩ ?_
           try simp only [pq]
           refine' twH 4 ⟨BB.out,YF.out⟩ ?_
           refine' tkH 5 ⟨BB.out,YF.out⟩ ?a5 ?_
           case a5=>(rintro W' ⟨hS0,hS1⟩;have hc0:=Blk.nth hS0 0;clear hS0 hS1;go_simp;try with_reducible rfl)
           refine' twH 6 ⟨BB.out,YF.out⟩ ?_
           refine' tkH 7 ⟨BB.out,YF.out⟩ ?a6 ?_
           case a6=>(rintro W' ⟨hS0,hS1⟩;go_simp;try with_reducible rfl)
           try simp only [pq]
           refine' twH 8 ⟨BB.out,YF.out⟩ ?_
           refine' tkH 9 ⟨BB.out,YF.out⟩ ?a7 ?_
           case a7=>(rintro W' ⟨hS0,hS1⟩;have hc0:=Blk.nth hS0 2;clear hS0 hS1;go_simp;try with_reducible rfl)
           refine' twH 10 ⟨BB.out,YF.out⟩ ?_
           refine' twH 11 ⟨BB.out,YF.out⟩ ?_
           try simp only [pq]
           refine oneH 12 rfl fun K hK=>?_
           have v0:a2.cell? ⟨g,t,none⟩=some (.int .i64 vt):=(Blk.cell BY.out _).trans VT.out
           have f0:a2.frozen? ⟨g,t,none⟩=false:=Blk.frozen BY.out _
           go_simp
           rw [HWR.out]
           have a8:=hid (Blk.far (BB.out) (p:=⟨g,t,none⟩) (by simp;omega) (.int .i64 (vf+mm)))
           have a9:=hid (Blk.far (BS.out) (p:=⟨g,t,none⟩) (by simp;omega) (.int .i64 (vf+mm)))
           have a3:=hid (Blk.set_ (BY.out) t (.int .i64 (vf+mm)))
           have b0:=hid ((Blk.cell a3.out f).trans VF2.out)
           have b1:=hid (Below.setCell (BE.out) (p:=⟨g,t,none⟩) (by simp;omega) (.int .i64 (vf+mm)))
           obtain ⟨b2,a1⟩:∃ w',w'=(a2.setCell ⟨g,t,none⟩ (.int .i64 (vf+mm))):=⟨_,rfl⟩
           rw [← a1] at a8 a3 a9 b1 b0
           rw [← a1]
           clear a1 v0 f0
           refine hK.out _ _ ⟨a8.out,b0.out⟩ (fun _=>?_);clear hK K
           try simp only [pq]
           refine wpAnyH_done (by kernel_rfl) ?_ _
           have hby:=a3.out
           rw [HIV.out] at hby
           have HBYF:=hid hby;clear hby
           go_wp2
           go_roundw
           case rel=>exact HEND.out false _ _ (by rw [HRY.out];dsimp only;rw [HLK.out.1,Int.toNat_natCast]) (by rw [List.length_set];exact hzl) (HBD.out.relax (by omega) (by omega) (by omega) (by omega)) (by simp [HZN]) a9.out HBYF.out b1.out
           case measure=>(simp [intOf];omega)
         · have d1:decide (vf<far)=true:=decide_eq_true q1
           have d2:decide (vf+mm<vt)=false:=decide_eq_false q2
           go_wp2_with fail
           go_quiet (fail)
           go_wp2
           go_roundw
           case rel=>exact HEND.out b z _ (relax_no (fun h=>(Int.not_lt.2 q2) (by have h2:=h.2;dsimp only at h2;rw [HLK.out.1,HLK.out.2] at h2;exact h2))) hzl (HBD.out.more (by omega)) HBZ.out (blk_drewN (HBS.out.alloc _) _) (blk_drewN (HBY.out.alloc _) _) (bdN (HBE.out.alloc HBE.out.size _) _)
           case measure=>simp [intOf];omega
       · have d1:decide (vf<far)=false:=decide_eq_false q1
         go_wp2_with fail
         go_quiet (fail)
         go_wp2
         go_roundw
         case rel=>exact HEND.out b z _ (relax_no (fun h=>(Int.not_lt.2 q1) (by have h2:=h.1;dsimp only at h2;rw [HLK.out.1] at h2;exact h2))) hzl (HBD.out.more (by omega)) HBZ.out (blk_drewN (HBS.out.alloc _) _) (blk_drewN (HBY.out.alloc _) _) (bdN (HBE.out.alloc HBE.out.size _) _)
         case measure=>simp [intOf];omega
     · obtain rfl:j=n:=by omega
       have hzr:rround far l y=z:=by rw [HZF.out,List.take_of_length_le (by omega)];rfl
       have HSTEP:=hid (rsums_step (far:=far) (l:=l) (y:=y) hlt)
       have HZR:=hid hzr;clear hzr
       by_cases hzy:z=y
       · subst hzy
         have hb:b=true:=by rw [HBZ.out];simp
         subst hb
         have hVs:V=some z:=by rw [← HS.out,HSTEP.out,if_pos HZR.out]
         subst hVs
         go_wp2
         go_ret2
         exact ⟨_,_,_,rfl,iv_own HBY.out (by omega) hzl (by omega) hdm,HBE.out⟩
       · have hb:b=false:=by rw [HBZ.out];simp [hzy]
         subst hb
         go_wp2
         go_roundw
         case rel=>exact ⟨k+1,z,by omega,by go_num,by rw [← HS.out,HSTEP.out,HZR.out,if_neg hzy],hzl,by have h:=HBD.out;exact h.more (by omega),HBS.out,HBY.out,HBE.out⟩
         case measure=>simp [intOf];omega
  · obtain rfl:k=m+1:=by omega
    have hgt:¬ ((m+1:Nat):Int)≤m:=by omega
    have hVs:V=none:=by rw [← HS.out,Nat.sub_self];rfl
    subst hVs
    go_wp2
    go_ret2
    exact ⟨none,0,0,rfl,OwnI.nil_ _ _,HBE.out⟩
end Go.Proofs.YtjjmifcjailpaaaGreat
