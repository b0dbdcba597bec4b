import Derived.Test.YtjjmifcjailpaaaGreatProg
import Derived.BigQuiet
import Derived.Deep.RegionHeld3
import Derived.Deep.WholeRow
import Derived.Lib.Hide
import Derived.OwnWalkIn
import Derived.WalkLawsBesides
import Derived.WalkSpells
import Derived.Test.YtjjmifcjailpaaaGreatPMem
import Derived.Shelf.SlSortCmp.NoneTotal
import Derived.Test.YtjjmifcjailpaaaGreatPELongest
import Derived.Deep.AppendLies
import Derived.Deep.DeepCutAuto
import Derived.Deep.OwnRows
import Derived.Laws.AppendOwnNone
import Derived.Lib.SmallJoins
import Derived.Maps.OwnIn
import Derived.Shelf.SlIterI.Nil
import Derived.Shelf.SortM.Plain
import Derived.Shelf.SortM.SortNone
import Derived.Test.YtjjmifcjailpaaaGreatPSums
import Derived.Test.YtjjmifcjailpaaaGreatRows
import Derived.Test.YtjjmifcjailpaaaGreatPEAlive
import Derived.Test.YtjjmifcjailpaaaGreatPERefV
set_option maxHeartbeats 4000000
set_option linter.unusedSimpArgs false
set_option linter.unusedVariables false
namespace Go.Proofs.YtjjmifcjailpaaaGreat
open Go.Lib (hid)
structure Stc where
 f:Int
 t:Int
deriving DecidableEq,Inhabited
open Go.RowKit
def Stc.cells (x:Stc):List Value:=[.int .i64 x.f,.int .i64 x.t]
def scells (l:List Stc):List Value:=l.flatMap Stc.cells
theorem scells_length (l:List Stc):(scells l).length=l.length * 2:=by
 induction l with
 | nil=>rfl
 | cons x l ih=>simp only [scells,List.flatMap_cons,List.length_append,List.length_cons] at ih ⊢;rw [ih];simp [Stc.cells];omega
theorem scells_get (l:List Stc) (k j:Nat) (x:Stc) (h:l[k]?=some x) (hj:j<2):(scells l)[k * 2+j]?=x.cells[j]?:=by
 induction l generalizing k with
 | nil=>simp at h
 | cons y l ih =>
  cases k with
  | zero =>
   simp at h
   subst h
   simp only [scells,List.flatMap_cons,Nat.zero_mul,Nat.zero_add]
   rw [List.getElem?_append_left (by simp [Stc.cells];omega)]
  | succ k =>
   simp only [scells,List.flatMap_cons]
   rw [List.getElem?_append_right (by simp [Stc.cells];omega)]
   have e:(k+1) * 2+j-y.cells.length=k * 2+j:=by simp [Stc.cells];omega
   rw [e]
   exact ih k (by simpa using h)
structure RdS (w:World) (A:Option Addr) (n c:Nat) (l:List Stc):Prop where
 len:l.length=n
 cap:n≤c
 nil:A=none→n=0∧c=0
 cells:Cells w A (scells l)
theorem RdS.below {w w':World} {A:Option Addr} {n c:Nat} {l:List Stc} (h:RdS w A n c l) (hb:Below w.heap.size w w'):RdS w' A n c l:=⟨h.len,h.cap,h.nil,h.cells.below hb⟩
theorem RdS.alloc {w:World} {A:Option Addr} {n c:Nat} {l:List Stc} (h:RdS w A n c l) (o:Obj):RdS (w.alloc o) A n c l:=⟨h.len,h.cap,h.nil,h.cells.alloc o⟩
theorem RdS.get {w:World} {A:Option Addr} {n c:Nat} {l:List Stc} (h:RdS w A n c l) {k:Nat} (hk:k<n):∃ b o f t,A=some ⟨b,o,none⟩∧b<w.heap.size∧l[k]?=some ⟨f,t⟩ ∧
 w.cell? ⟨b,o+k * 2,none⟩=some (.int .i64 f)∧w.cell? ⟨b,o+k * 2+1,none⟩=some (.int .i64 t):=by
 have hl:k<l.length:=by rw [h.len];exact hk
 rcases h.cells with h0|⟨b,o,e,hlt,hc⟩
 · have:=congrArg List.length h0
   rw [scells_length] at this
   simp only [List.length_nil] at this
   omega
 · have hx:=List.getElem?_eq_getElem hl
   have g:=fun j hj=>scells_get l k j l[k] hx hj
   refine ⟨b,o,_,_,e,hlt,hx,?_,?_⟩
   · have:=hc (k * 2+0) _ (g 0 (by omega));rwa [Nat.add_zero] at this
   · have:=hc (k * 2+1) _ (g 1 (by omega));rwa [← Nat.add_assoc] at this
open Go.ChangeShapes Go.WideShapes Go.ChangeAt Go.RowKit
set_option maxRecDepth 100000
section
variable {H:Type} {enc:TypeId × Value→H} {W:World} {base:Nat} {sp:Nat→Bool} {held:Bool}
theorem open_outl {r:Reach} {b0:Nat} {v:Value} {d:DataW H} {p:List MemPlace} (hv:Value.okWide Tryz.prog W r b0 24 v) (h:DataW.Trod enc Tryz.prog W base sp held 24 v d p) :
 ∃ c A n k B m j ws ts,v=.agg #[.int .i64 c,.slice A n k,.slice B m j]∧(Lit.int .i64 c).wf=true∧RdB W A n k ws∧RdB W B m j ts∧n≤maxLen∧m≤maxLen:=by
 obtain ⟨v0,v1,v2,y0,y1,y2,fu,rfl,-,-,h0,h1,h2⟩:=Go.Joins.open_agg3 Tryz.underlying24 (by kernel_rfl) (by kernel_rfl) hv h
 obtain ⟨P,e0,-,wp⟩:=DataW.trod_int Tryz.underlying3 h0
 simp only [List.cons.injEq,and_true] at e0
 obtain ⟨A,n,k,ws,rfl,hr,hm⟩:=open_bounds h1
 obtain ⟨B,m,j,ts,rfl,hr2,hm2⟩:=open_bounds h2
 exact ⟨P,A,n,k,B,m,j,ws,ts,by rw [e0],wp,hr,hr2,hm,hm2⟩
end
end Go.Proofs.YtjjmifcjailpaaaGreat
namespace Go.Proofs.YtjjmifcjailpaaaGreat
open Go.Lib (hid)
open Go.RowKit
theorem bdrewB {B:Nat} {a w:World} (h:Below B a w) (n:Nat):Below B a (w.drewN n):=h.trans ⟨rfl,rfl,rfl,Nat.le_refl _,fun _ _=>rfl⟩
open Go.ChangeShapes Go.WideShapes Go.ChangeAt Go.RowKit
def maxV (a b:Otl):List Prg × Int:=if both a b=0 then (maxD a b 16,0) else ([],both a b)
theorem Maximal_is (c:Int) (A B:Option Addr) (n k m j:Nat) (ws ts:List Bnd) (d:Int) (C D:Option Addr) (n2 k2 m2 j2:Nat) (ws2 ts2:List Bnd) (w:World) (h1:RdB w A n k ws) (h2:RdB w B m j ts) (hn:n≤maxLen) (hm:m≤maxLen) (h3:RdB w C n2 k2 ws2) (h4:RdB w D m2 j2 ts2) (hn2:n2≤maxLen) (hm2:m2≤maxLen):Calls Tryz.prog 29 #[.agg #[.int .i64 c,.slice A n k,.slice B m j],.agg #[.int .i64 d,.slice C n2 k2,.slice D m2 j2]] w (RetPL (maxV ⟨c,ws,ts⟩ ⟨d,ws2,ts2⟩) w):=by
 refine (Maximal_any c A B n k m j ws ts d C D n2 k2 m2 j2 ws2 ts2 w h1 h2 hn hm h3 h4 hn2 hm2).mono ?_
 rintro e w' ⟨L,A9,n9,c9,rfl,hr,hnd,hmem,hn9,hb⟩
 unfold RetPL maxV
 by_cases hq:both ⟨c,ws,ts⟩ ⟨d,ws2,ts2⟩=0
 · rw [if_pos hq,maxD_eq hq L hnd hmem]
   exact ⟨A9,n9,c9,by rw [hq],hr,hn9,hb⟩
 · have hnil:prs (sortY L)=[]:=List.eq_nil_iff_forall_not_mem.2 fun p hp=>hq ((hmem p).1 hp).1
   rw [if_neg hq]
   rw [hnil] at hr
   exact ⟨A9,n9,c9,rfl,hr,hn9,hb⟩
theorem rMaximal_any (c:Int) (A B:Option Addr) (n k m j:Nat) (ws ts:List Bnd) (d:Int) (C D:Option Addr) (n2 k2 m2 j2:Nat) (ws2 ts2:List Bnd) (w:World) (h1:RdB w A n k ws) (h2:RdB w B m j ts) (hn:n≤maxLen) (hm:m≤maxLen) (h3:RdB w C n2 k2 ws2) (h4:RdB w D m2 j2 ts2) (hn2:n2≤maxLen) (hm2:m2≤maxLen):Calls Tryz.prog 30 #[.agg #[.int .i64 c,.slice A n k,.slice B m j],.agg #[.int .i64 d,.slice C n2 k2,.slice D m2 j2]] w (RetPL (maxV ⟨c,ws,ts⟩ ⟨d,ws2,ts2⟩) w):=by
 unfold maxV
 by_cases hq:both ⟨c,ws,ts⟩ ⟨d,ws2,ts2⟩=0
 · rw [if_pos hq]
   obtain ⟨oa,ob,-,-⟩:=both_ok hq
   obtain ⟨a1,a2,-,-⟩:=chkO_ok oa
   exact rMaximal_ok c A B n k m j ws ts d C D n2 k2 m2 j2 ws2 ts2 w h1 h2 hn hm h3 h4 hn2 hm2 (hid hq) (hid (meetL_high (.inl (by omega))))
 · rw [if_neg hq]
   exact rMaximal_err c A B n k m j ws ts d C D n2 k2 m2 j2 ws2 ts2 w h1 h2 hn hm h3 h4 hn2 hm2 _ (by simpa using hq) (hid rfl)
set_option maxRecDepth 100000 in
theorem SameP_true (A B:Option Addr) (n c m d:Nat) (l:List Prg) (w:World) (hx:RdB w A n c (l.map pB)) (hy:RdB w B m d (l.map pB)) (hm:n≤maxLen) :
 Calls Tryz.prog 31 #[.slice A n c,.slice B m d] w fun e w'=>e=.returned (.bool true)∧Below w.heap.size w w':=by
 unfold maxLen at hm
 obtain rfl:n=m:=hx.len.symm.trans hy.len
 have HX:=hid hx;have HY:=hid hy;clear hx hy
 go_enter Tryz.func31,Tryz.ntmps31
 go_wp2
 go_loopw [5] (fun i wr=>∃ j:Nat,j≤n∧i=.int .i64 j∧Below w.heap.size w wr) (fun i _=>n-(intOf i).toNat)
 case atStart=>exact ⟨0,Nat.zero_le _,rfl,Below.refl _ _⟩
 case round =>
  obtain ⟨j,hj,rfl,hb⟩:=hrel
  by_cases hlt:j<n
  · obtain ⟨b,o,f,t,mm,i,rfl,hbw,hx,e0,e1,e2,e3⟩:=(HX.out.below hb).get hlt
    obtain ⟨b',o',f',t',mm',i',rfl,hbw',hx',g0,g1,g2,g3⟩:=(HY.out.below hb).get hlt
    rw [hx] at hx'
    cases hx'
    clear hx
    have HB:=hid hb;clear hb
    go_wp2_with fail
    go_quiet (fail)
    go_wp2
    go_roundw
    case rel=>exact ⟨j+1,by omega,by go_num,bdrewB HB.out _⟩
    case measure=>simp [intOf];omega
  · obtain rfl:j=n:=by omega
    go_wp2
    go_ret
    exact ⟨rfl,hb⟩
set_option maxRecDepth 100000 in
theorem xp_c (c:Int) (A B:Option Addr) (n k m j:Nat) (ws ts:List Bnd) (d:Int) (C D:Option Addr) (n2 k2 m2 j2:Nat) (ws2 ts2:List Bnd) (s:Int) (hsw:Wf s) (w:World) (h1:RdB w A n k ws) (h2:RdB w B m j ts) (hn:n≤maxLen) (hm:m≤maxLen) (h3:RdB w C n2 k2 ws2) (h4:RdB w D m2 j2 ts2) (hn2:n2≤maxLen) (hm2:m2≤maxLen) (h:6<c):Calls Tryz.prog 6 #[.agg #[.int .i64 c,.slice A n k,.slice B m j],.agg #[.int .i64 d,.slice C n2 k2,.slice D m2 j2],.int .i64 s] w fun e w'=>e=.returned (.bool true)∧Below w.heap.size w w':=by
 go_enter Tryz.func6,Tryz.ntmps6
 obtain ⟨a1,a2,a0⟩:=ent2 w #[.int .i64 c,.slice A n k,.slice B m j] 24 #[.int .i64 d,.slice C n2 k2,.slice D m2 j2] 24
 have b0:=rI h1 a0
 have b1:=rI h2 a0
 have b2:=rI h3 a0
 have b3:=rI h4 a0
 clear h1 h2 h3 h4
 obtain ⟨a8,a9,a4⟩:=at3 a1
 obtain ⟨a5,a6,a7⟩:=at3 a2
 have hc:=joined_any (((w.alloc (.cells #[.int .i64 c,.slice A n k,.slice B m j] 24)).alloc (.cells #[.int .i64 d,.slice C n2 k2,.slice D m2 j2] 24)))
 have HC:=hid hc;clear hc
 go_wp2_with fail
 refine HC.out.mono ?_
 rintro e b4 ⟨rfl,hb⟩
 clear HC
 clear a8 a9 a4 a5 a6 a7
 have a3:=hid hb
 clear hb
 replace a1:=kH a1 a3
 obtain ⟨b5,b6,b7⟩:=at3 a1
 replace a2:=kH a2 a3
 obtain ⟨b8,b9,c0⟩:=at3 a2
 go_wp2
 go_ret
 replace a0:=bH a0 a3
 exact ⟨rfl,a0.out⟩
set_option maxRecDepth 100000 in
theorem xp_d (c:Int) (A B:Option Addr) (n k m j:Nat) (ws ts:List Bnd) (d:Int) (C D:Option Addr) (n2 k2 m2 j2:Nat) (ws2 ts2:List Bnd) (s:Int) (hsw:Wf s) (w:World) (h1:RdB w A n k ws) (h2:RdB w B m j ts) (hn:n≤maxLen) (hm:m≤maxLen) (h3:RdB w C n2 k2 ws2) (h4:RdB w D m2 j2 ts2) (hn2:n2≤maxLen) (hm2:m2≤maxLen) (h:¬ 6<c) (h':6<d):Calls Tryz.prog 6 #[.agg #[.int .i64 c,.slice A n k,.slice B m j],.agg #[.int .i64 d,.slice C n2 k2,.slice D m2 j2],.int .i64 s] w fun e w'=>e=.returned (.bool true)∧Below w.heap.size w w':=by
 go_enter Tryz.func6,Tryz.ntmps6
 obtain ⟨a1,a2,a0⟩:=ent2 w #[.int .i64 c,.slice A n k,.slice B m j] 24 #[.int .i64 d,.slice C n2 k2,.slice D m2 j2] 24
 have b0:=rI h1 a0
 have b1:=rI h2 a0
 have b2:=rI h3 a0
 have b3:=rI h4 a0
 clear h1 h2 h3 h4
 obtain ⟨a8,a9,a4⟩:=at3 a1
 obtain ⟨a5,a6,a7⟩:=at3 a2
 have hc:=joined_any (((w.alloc (.cells #[.int .i64 c,.slice A n k,.slice B m j] 24)).alloc (.cells #[.int .i64 d,.slice C n2 k2,.slice D m2 j2] 24)))
 have HC:=hid hc;clear hc
 go_wp2_with fail
 refine HC.out.mono ?_
 rintro e b4 ⟨rfl,hb⟩
 clear HC
 clear a8 a9 a4 a5 a6 a7
 have a3:=hid hb
 clear hb
 replace a1:=kH a1 a3
 obtain ⟨b5,b6,b7⟩:=at3 a1
 replace a2:=kH a2 a3
 obtain ⟨b8,b9,c0⟩:=at3 a2
 go_wp2
 go_ret
 replace a0:=bH a0 a3
 exact ⟨rfl,a0.out⟩
set_option maxRecDepth 100000 in
theorem xp_n (c:Int) (A B:Option Addr) (n k m j:Nat) (ws ts:List Bnd) (d:Int) (C D:Option Addr) (n2 k2 m2 j2:Nat) (ws2 ts2:List Bnd) (s:Int) (hsw:Wf s) (w:World) (h1:RdB w A n k ws) (h2:RdB w B m j ts) (hn:n≤maxLen) (hm:m≤maxLen) (h3:RdB w C n2 k2 ws2) (h4:RdB w D m2 j2 ts2) (hn2:n2≤maxLen) (hm2:m2≤maxLen) (h:¬ 6<c) (h':¬ 6<d) (a1 a2 a3:Int) (hw1:IntKind.i64.wrap ((n:Int)+m)=a1) (hw2:IntKind.i64.wrap (a1+n2)=a2) (hw3:IntKind.i64.wrap (a2+m2)=a3) (hs:(96:Int)<a3):Calls Tryz.prog 6 #[.agg #[.int .i64 c,.slice A n k,.slice B m j],.agg #[.int .i64 d,.slice C n2 k2,.slice D m2 j2],.int .i64 s] w fun e w'=>e=.returned (.bool true)∧Below w.heap.size w w':=by
 go_enter Tryz.func6,Tryz.ntmps6
 obtain ⟨a4,a5,a0⟩:=ent2 w #[.int .i64 c,.slice A n k,.slice B m j] 24 #[.int .i64 d,.slice C n2 k2,.slice D m2 j2] 24
 have b3:=rI h1 a0
 have b4:=rI h2 a0
 have b5:=rI h3 a0
 have b6:=rI h4 a0
 clear h1 h2 h3 h4
 obtain ⟨b1,b2,a7⟩:=at3 a4
 obtain ⟨a8,a9,b0⟩:=at3 a5
 have hc:=joined_any (((w.alloc (.cells #[.int .i64 c,.slice A n k,.slice B m j] 24)).alloc (.cells #[.int .i64 d,.slice C n2 k2,.slice D m2 j2] 24)))
 have HC:=hid hc;clear hc
 go_wp2_with fail
 refine HC.out.mono ?_
 rintro e b7 ⟨rfl,hb⟩
 clear HC
 clear b1 b2 a7 a8 a9 b0
 have a6:=hid hb
 clear hb
 replace a4:=kH a4 a6
 obtain ⟨b8,b9,c0⟩:=at3 a4
 replace a5:=kH a5 a6
 obtain ⟨c1,c2,c3⟩:=at3 a5
 go_wp2
 go_ret
 replace a0:=bH a0 a6
 exact ⟨rfl,a0.out⟩
set_option maxRecDepth 100000 in
theorem xp_ok (c:Int) (A B:Option Addr) (n k m j:Nat) (ws ts:List Bnd) (d:Int) (C D:Option Addr) (n2 k2 m2 j2:Nat) (ws2 ts2:List Bnd) (s:Int) (hsw:Wf s) (w:World) (h1:RdB w A n k ws) (h2:RdB w B m j ts) (hn:n≤maxLen) (hm:m≤maxLen) (h3:RdB w C n2 k2 ws2) (h4:RdB w D m2 j2 ts2) (hn2:n2≤maxLen) (hm2:m2≤maxLen) (h:¬ 6<c) (h':¬ 6<d) (a1 a2 a3:Int) (hw1:IntKind.i64.wrap ((n:Int)+m)=a1) (hw2:IntKind.i64.wrap (a1+n2)=a2) (hw3:IntKind.i64.wrap (a2+m2)=a3) (hs:¬ (96:Int)<a3) (P1 P3:List Prg) (q g:Int) (EP:Hid (pairsV ⟨c,ws,ts⟩ ⟨d,ws2,ts2⟩ s=(P1,q))) (EL:Hid (longV ⟨c,ws,ts⟩ ⟨d,ws2,ts2⟩=(g,q))) (EX:Hid (maxV ⟨c,ws,ts⟩ ⟨d,ws2,ts2⟩=(P3,q))):Calls Tryz.prog 6 #[.agg #[.int .i64 c,.slice A n k,.slice B m j],.agg #[.int .i64 d,.slice C n2 k2,.slice D m2 j2],.int .i64 s] w fun e w'=>e=.returned (.bool true)∧Below w.heap.size w w':=by
 go_enter Tryz.func6,Tryz.ntmps6
 obtain ⟨a0,a4,b3⟩:=ent2 w #[.int .i64 c,.slice A n k,.slice B m j] 24 #[.int .i64 d,.slice C n2 k2,.slice D m2 j2] 24
 have a5:=rI h1 b3
 have a6:=rI h2 b3
 have a7:=rI h3 b3
 have a8:=rI h4 b3
 clear h1 h2 h3 h4
 obtain ⟨i0,i1,c3⟩:=at3 a0
 obtain ⟨c4,c5,c6⟩:=at3 a4
 have hc:=Pairs_any c A B n k m j ws ts d C D n2 k2 m2 j2 ws2 ts2 s hsw _ a5.out a6.out hn hm a7.out a8.out hn2 hm2
 unfold RetPL at hc
 rw [EP.out] at hc
 dsimp only at hc
 have hc:=hc
 have HC:=hid hc;clear hc
 go_wp2_with fail
 refine HC.out.mono ?_
 rintro e i2 ⟨A1,n1_,c1_,rfl,hr1,hm1_,hb⟩
 clear HC
 clear i0 i1 c3 c4 c5 c6
 have b4:=hid hb
 clear hb
 have b8:=hid (hr1)
 clear hr1
 replace a0:=kH a0 b4
 obtain ⟨c7,c8,c9⟩:=at3 a0
 replace a4:=kH a4 b4
 obtain ⟨d0,d1,d2⟩:=at3 a4
 replace a5:=rH a5 b4
 replace a6:=rH a6 b4
 replace a7:=rH a7 b4
 replace a8:=rH a8 b4
 have hc:=rPairs_any c A B n k m j ws ts d C D n2 k2 m2 j2 ws2 ts2 s _ a5.out a6.out hn hm a7.out a8.out hn2 hm2
 unfold RetPL at hc
 rw [EP.out] at hc
 dsimp only at hc
 have hc:=hc
 have HC:=hid hc;clear hc
 go_wp2_with fail
 refine HC.out.mono ?_
 rintro e i3 ⟨A2,n2_,c2_,rfl,hr2,hm2_,hb⟩
 clear HC
 clear c7 c8 c9 d0 d1 d2
 have b2:=hid hb
 clear hb
 have b9:=hid (hr2)
 clear hr2
 replace a0:=kH a0 b2
 obtain ⟨d3,d4,d5⟩:=at3 a0
 replace a4:=kH a4 b2
 obtain ⟨d6,d7,d8⟩:=at3 a4
 replace a5:=rH a5 b2
 replace a6:=rH a6 b2
 replace a7:=rH a7 b2
 replace a8:=rH a8 b2
 have hc:=Longest_any c A B n k m j ws ts d C D n2 k2 m2 j2 ws2 ts2 _ a5.out a6.out hn hm a7.out a8.out hn2 hm2
 rw [EL.out] at hc
 try dsimp only at hc
 have HC:=hid hc;clear hc
 go_wp2_with fail
 refine HC.out.mono ?_
 rintro e i4 ⟨rfl,hb⟩
 clear HC
 clear d3 d4 d5 d6 d7 d8
 have a9:=hid hb
 clear hb
 replace a0:=kH a0 a9
 obtain ⟨d9,e0,e1⟩:=at3 a0
 replace a4:=kH a4 a9
 obtain ⟨e2,e3,e4⟩:=at3 a4
 replace a5:=rH a5 a9
 replace a6:=rH a6 a9
 replace a7:=rH a7 a9
 replace a8:=rH a8 a9
 have hc:=rLongest_any c A B n k m j ws ts d C D n2 k2 m2 j2 ws2 ts2 _ a5.out a6.out hn hm a7.out a8.out hn2 hm2
 rw [EL.out] at hc
 try dsimp only at hc
 have HC:=hid hc;clear hc
 go_wp2_with fail
 refine HC.out.mono ?_
 rintro e i5 ⟨rfl,hb⟩
 clear HC
 clear d9 e0 e1 e2 e3 e4
 have b0:=hid hb
 clear hb
 replace a0:=kH a0 b0
 obtain ⟨e5,e6,e7⟩:=at3 a0
 replace a4:=kH a4 b0
 obtain ⟨e8,e9,f0⟩:=at3 a4
 replace a5:=rH a5 b0
 replace a6:=rH a6 b0
 replace a7:=rH a7 b0
 replace a8:=rH a8 b0
 have hc:=Maximal_is c A B n k m j ws ts d C D n2 k2 m2 j2 ws2 ts2 _ a5.out a6.out hn hm a7.out a8.out hn2 hm2
 unfold RetPL at hc
 rw [EX.out] at hc
 dsimp only at hc
 have hc:=hc
 have HC:=hid hc;clear hc
 go_wp2_with fail
 refine HC.out.mono ?_
 rintro e i6 ⟨A5,n5_,c5_,rfl,hr5,hm5_,hb⟩
 clear HC
 clear e5 e6 e7 e8 e9 f0
 have b1:=hid hb
 clear hb
 have c0:=hid (hr5)
 clear hr5
 replace a0:=kH a0 b1
 obtain ⟨f1,f2,f3⟩:=at3 a0
 replace a4:=kH a4 b1
 obtain ⟨f4,f5,f6⟩:=at3 a4
 replace a5:=rH a5 b1
 replace a6:=rH a6 b1
 replace a7:=rH a7 b1
 replace a8:=rH a8 b1
 have hc:=rMaximal_any c A B n k m j ws ts d C D n2 k2 m2 j2 ws2 ts2 _ a5.out a6.out hn hm a7.out a8.out hn2 hm2
 unfold RetPL at hc
 rw [EX.out] at hc
 dsimp only at hc
 have hc:=hc
 have HC:=hid hc;clear hc
 go_wp2_with fail
 refine HC.out.mono ?_
 rintro e f7 ⟨A6,n6_,c6_,rfl,hr6,hm6_,hb⟩
 clear HC
 clear f1 f2 f3 f4 f5 f6
 have b6:=hid hb
 clear hb
 have c1:=hid (hr6)
 clear hr6
 replace a0:=kH a0 b6
 obtain ⟨f8,f9,g0⟩:=at3 a0
 replace a4:=kH a4 b6
 obtain ⟨g1,g2,g3⟩:=at3 a4
 have hc:=joined_any (f7)
 have HC:=hid hc;clear hc
 go_wp2_with fail
 refine HC.out.mono ?_
 rintro e i7 ⟨rfl,hb⟩
 clear HC
 clear f8 f9 g0 g1 g2 g3
 have b5:=hid hb
 clear hb
 replace a0:=kH a0 b5
 obtain ⟨g4,g5,g6⟩:=at3 a0
 replace a4:=kH a4 b5
 obtain ⟨g7,g8,g9⟩:=at3 a4
 replace b8:=rH (rH (rH (rH (rH (rH b8 b2) a9) b0) b1) b6) b5
 replace b9:=rH (rH (rH (rH (rH b9 a9) b0) b1) b6) b5
 have hc:=SameP_true A1 A2 n1_ c1_ n2_ c2_ P1 _ b8.out b9.out hm1_
 have HC:=hid hc;clear hc
 go_wp2_with fail
 refine HC.out.mono ?_
 rintro e i8 ⟨rfl,hb⟩
 clear HC
 clear g4 g5 g6 g7 g8 g9
 have b7:=hid hb
 clear hb
 replace a0:=kH a0 b7
 obtain ⟨h0,h5,h6⟩:=at3 a0
 replace a4:=kH a4 b7
 obtain ⟨h7,h8,h9⟩:=at3 a4
 have e1_:(q == q)=true:=by simp
 have e2_:(g == g)=true:=by simp
 replace c0:=rH (rH (rH c0 b6) b5) b7
 replace c1:=rH (rH c1 b5) b7
 have hc:=SameP_true A5 A6 n5_ c5_ n6_ c6_ P3 _ c0.out c1.out hm5_
 have HC:=hid hc;clear hc
 go_wp2_with fail
 refine HC.out.mono ?_
 rintro e i9 ⟨rfl,hb⟩
 clear HC
 clear h0 h5 h6 h7 h8 h9
 have c2:=hid hb
 clear hb
 replace a0:=kH a0 c2
 obtain ⟨j0,j1,j3⟩:=at3 a0
 replace a4:=kH a4 c2
 obtain ⟨j4,j5,j6⟩:=at3 a4
 go_wp2
 go_ret
 replace b3:=bH (bH (bH (bH (bH (bH (bH (bH (bH b3 b4) b2) a9) b0) b1) b6) b5) b7) c2
 exact ⟨rfl,b3.out⟩
set_option maxRecDepth 100000 in
theorem xp_walk (w:World) (c:Int) (A:Option Addr) (n k:Nat) (B:Option Addr) (m j:Nat) (ws ts:List Bnd) (_:(Lit.int .i64 c).wf=true) (h1:RdB w A n k ws) (h2:RdB w B m j ts) (hn:n≤maxLen) (hm:m≤maxLen) (d:Int) (C:Option Addr) (n2 k2:Nat) (D:Option Addr) (m2 j2:Nat) (ws2 ts2:List Bnd) (_:(Lit.int .i64 d).wf=true) (h3:RdB w C n2 k2 ws2) (h4:RdB w D m2 j2 ts2) (hn2:n2≤maxLen) (hm2:m2≤maxLen) (s:Int) (hsl:(Lit.int .i64 s).wf=true):Calls Tryz.prog 6 #[.agg #[.int .i64 c,.slice A n k,.slice B m j],.agg #[.int .i64 d,.slice C n2 k2,.slice D m2 j2],.int .i64 s] w fun e w'=>e=.returned (.bool true)∧Below w.heap.size w w':=by
 have hsw:Wf s:=hsl
 by_cases h:6<c
 · exact xp_c c A B n k m j ws ts d C D n2 k2 m2 j2 ws2 ts2 s hsw w h1 h2 hn hm h3 h4 hn2 hm2 h
 · by_cases h':6<d
   · exact xp_d c A B n k m j ws ts d C D n2 k2 m2 j2 ws2 ts2 s hsw w h1 h2 hn hm h3 h4 hn2 hm2 h h'
   · obtain ⟨a1,hw1⟩:∃ a,IntKind.i64.wrap ((n:Int)+m)=a:=⟨_,rfl⟩
     obtain ⟨a2,hw2⟩:∃ a,IntKind.i64.wrap (a1+n2)=a:=⟨_,rfl⟩
     obtain ⟨a3,hw3⟩:∃ a,IntKind.i64.wrap (a2+m2)=a:=⟨_,rfl⟩
     by_cases hs:(96:Int)<a3
     · exact xp_n c A B n k m j ws ts d C D n2 k2 m2 j2 ws2 ts2 s hsw w h1 h2 hn hm h3 h4 hn2 hm2 h h' a1 a2 a3 hw1 hw2 hw3 hs
     · have e:∃ P1 P3 q g,pairsV ⟨c,ws,ts⟩ ⟨d,ws2,ts2⟩ s=(P1,q)∧longV ⟨c,ws,ts⟩ ⟨d,ws2,ts2⟩=(g,q)∧maxV ⟨c,ws,ts⟩ ⟨d,ws2,ts2⟩=(P3,q):=by
        unfold pairsV longV maxV
        by_cases hq:both ⟨c,ws,ts⟩ ⟨d,ws2,ts2⟩=0
        · rw [if_pos hq,if_pos hq,if_pos hq];exact ⟨_,_,_,_,rfl,rfl,rfl⟩
        · rw [if_neg hq,if_neg hq,if_neg hq];exact ⟨_,_,_,_,rfl,rfl,rfl⟩
       obtain ⟨P1,P3,q,g,e1,e2,e3⟩:=e
       exact xp_ok c A B n k m j ws ts d C D n2 k2 m2 j2 ws2 ts2 s hsw w h1 h2 hn hm h3 h4 hn2 hm2 h h' a1 a2 a3 hw1 hw2 hw3 hs P1 P3 q g (hid e1) (hid e2) (hid e3)
set_option maxRecDepth 100000 in
theorem edgePairs_lifted (os:Os) (started:os.Started) (H:Type) (enc:TypeId × Value→H) :
 ReturnsInHanded {} Tryz.checked os 6 .any (Rows.edgePairsSpec.pre6 enc Tryz.prog Tryz.f6 Rows.edgePairsRow.domain false) (Rows.edgePairsSpec.post enc Tryz.prog Tryz.f6 false true false false):=by
 refine returnsInHanded_of_change (C:=Tryz.checked) Law.own started (by kernel_rfl) Tryz.func6
  (ChangeSpec.witness6 (enc:=enc) (C:=Tryz.checked) false ⟨#[],#[.agg #[.int .i64 0,.slice none 0 0,.slice none 0 0],.agg #[.int .i64 0,.slice none 0 0,.slice none 0 0],.int .i64 0],[]⟩ 8 (by kernel_rfl) (by kernel_rfl) (by kernel_rfl) (by kernel_rfl)) ?_
 intro W base args ds gs before hval0 hW hcnd _
 have hval:∀ (j:Nat) t v,Tryz.f6.params[j]?=some t→args[j]?=some v→Value.okWide Tryz.prog W .any base t v:=hval0
 have hW':=hW
 obtain ⟨p,q,hA0,hV,rfl,hfz,hnd⟩:=hW
 have hA:DataW.TrodAll enc Tryz.prog W 0 (fun _=>true) true Tryz.f6.params.toList args.toList ds p:=hA0
 rw [Tryz.params6] at hA hval
 obtain ⟨v0,vs0,d0,ds0,p0,q0,hargs,rfl,rfl,h0,r0⟩:=trodAll_cons hA
 obtain ⟨v1,vs1,d1,ds1,p1,q1,rfl,rfl,rfl,h1,r1⟩:=trodAll_cons r0
 obtain ⟨v2,vs2,d2,ds2,p2,q2,rfl,rfl,rfl,h2,r2⟩:=trodAll_cons r1
 obtain ⟨rfl,rfl,rfl⟩:=trodAll_nil r2
 obtain rfl:args=#[v0,v1,v2]:=by cases args;simp_all
 obtain ⟨rfl,rfl⟩:=trodVars_none hV
 have k0:=h0
 have lt0:∀ x∈p0,x.block<W.heap.size:=by obtain ⟨m,hm⟩:=k0;exact DataW.trod_lt m _ _ _ hm
 obtain ⟨c0,A0,n0,k0',B0,m0,j0,ws0,ts0,rfl,w0,ra0,rb0,xa0,xb0⟩:=open_outl (hval 0 24 v0 rfl rfl) h0
 have k1:=h1
 have lt1:∀ x∈p1,x.block<W.heap.size:=by obtain ⟨m,hm⟩:=k1;exact DataW.trod_lt m _ _ _ hm
 obtain ⟨c1,A1,n1,k1',B1,m1,j1,ws1,ts1,rfl,w1,ra1,rb1,xa1,xb1⟩:=open_outl (hval 1 24 v1 rfl rfl) h1
 obtain ⟨a2,rfl,rfl,rfl,w2⟩:=open_int Tryz.underlying3 (hval 2 3 v2 rfl rfl) h2
 clear hA0 hval0
 refine (xp_walk W c0 A0 n0 k0' B0 m0 j0 ws0 ts0 w0 ra0 rb0 xa0 xb0 c1 A1 n1 k1' B1 m1 j1 ws1 ts1 w1 ra1 rb1 xa1 xb1 a2 w2).mono fun e W' ⟨he,bel⟩=>?_
 subst he
 exact ⟨_,rfl,_,_,_,[],_,[],hW',trodAll_mk1 (shut_bool Tryz.underlying4 _),(trodAll_cons_mk (Below.trod Law.laidOut (by kernel_rfl) (of_decide_eq_true (by kernel_rfl)) k0 bel lt0) (trodAll_cons_mk (Below.trod Law.laidOut (by kernel_rfl) (of_decide_eq_true (by kernel_rfl)) k1 bel lt1) (trodAll_cons_mk (shut_int Tryz.underlying3 w2) trodAll_mk0))),rfl,bel.frame _,fun h=>by cases h⟩
theorem edgePairs_over:Rows.edgePairsRow.holds Tryz.pinned (OpenSpec.ofChange Rows.edgePairsSpec) :=
 OpenClaim.holds_of_wide 6 Tryz.f6 rfl rfl rfl rfl rfl rfl rfl ⟨rfl,rfl,rfl,rfl,rfl⟩ rfl rfl rfl rfl rfl (by kernel_rfl) Tryz.func6 (by kernel_rfl)
  (of_decide_eq_true (by kernel_rfl)) (by unfold Func.isWrapper;first | (rw [if_pos (by decide +kernel)];kernel_rfl) | (rw [if_neg (by decide +kernel)];exact ⟨rfl,rfl⟩))
  (fun os started H enc _=>edgePairs_lifted os started H enc)
theorem edgePairs_proved:Rows.EdgePairsSaid:=edgePairs_over
end Go.Proofs.YtjjmifcjailpaaaGreat
