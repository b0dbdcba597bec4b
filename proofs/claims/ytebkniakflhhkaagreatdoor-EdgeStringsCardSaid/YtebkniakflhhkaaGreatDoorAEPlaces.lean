import Derived.Deep.DeepCutAuto
import Derived.Deep.OwnRows
import Derived.Laws.AppendOwnNone
import Derived.Lib.SmallJoins
import Derived.Maps.OwnIn
import Derived.Shelf.SlIterI.Nil
import Derived.Shelf.Slices.Reverse
import Derived.Shelf.SortM.Plain
import Derived.Shelf.SortM.SortNone
import Derived.Sort.OwnSortedInts
import Derived.Test.YtebkniakflhhkaaGreatDoorASet
import Derived.Test.YtebkniakflhhkaaGreatDoorAKeeps
import Derived.Test.YtebkniakflhhkaaGreatDoorAEWays
set_option maxHeartbeats 4000000
set_option linter.unusedSimpArgs false
set_option linter.unusedVariables false
namespace Go.Proofs.YtebkniakflhhkaaGreatDoor
open Go.Lib (hid)
open Go.RowKit
theorem rdI_some {w:World} {A:Option Addr} {n c:Nat} {l:List Int} {k:Nat} {v:Int} (h:RdI w A n c l) (hv:l[k]?=some v):∃ b o,A=some ⟨b,o,none⟩:=by
 obtain ⟨b,o,x,h1,-⟩:=h.get (k:=k) (by rw [← h.len];exact (List.getElem?_eq_some_iff.1 hv).1)
 exact ⟨b,o,h1⟩
theorem rdI_at {w:World} {b o n c:Nat} {l:List Int} {k:Nat} {v:Int} (h:RdI w (some ⟨b,o,none⟩) n c l) (hv:l[k]?=some v):w.cell? ⟨b,o+k,none⟩=some (.int .i64 v)∧b<w.heap.size:=by
 obtain ⟨b',o',x,h1,h2,h3,h4⟩:=h.get (k:=k) (by rw [← h.len];exact (List.getElem?_eq_some_iff.1 hv).1)
 injection h1 with h1
 injection h1 with e1 e2
 subst e1 e2
 rw [hv] at h3
 injection h3 with h3
 subst h3
 exact ⟨h4,h2⟩
end Go.Proofs.YtebkniakflhhkaaGreatDoor
/- What endOf answers, part by part; the code of Keeps. -/
namespace Go.Proofs.YtebkniakflhhkaaGreatDoor
open Go.Lib (hid)
open Go.RowKit
theorem kept_spec {p:Int} {l:List Bnd} {x:List Int} {q:Int} (h:keepsV p l x=(true,q)):chk p l=0∧nums p x=true∧∀ c∈l,look x c.t≤look x c.f+c.m:=by
 unfold keepsV at h
 injection h with h _
 rw [Bool.and_eq_true,decide_eq_true_eq] at h
 obtain ⟨h1,h2⟩:=h
 unfold breaksV at h1 h2
 by_cases hk:chk p l=0
 · rw [if_neg (by simpa using hk)] at h1 h2
   by_cases hn:nums p x=false
   · rw [if_pos hn] at h1;cases h1
   · rw [if_neg hn] at h1 h2
     refine ⟨hk,by simpa using hn,fun c hc=>?_⟩
     cases hf:l.findIdx? (fun b=>!keepB x b) with
     | some i=>rw [hf] at h2;cases h2
     | none =>
      rw [List.findIdx?_eq_none_iff] at hf
      have:=hf c hc
      unfold keepB at this
      simp only [Bool.not_eq_false',decide_eq_true_eq] at this
      omega
 · rw [if_pos hk] at h1;exact absurd h1 hk
def near1 (v:Int):Bool:=decide (-100000000≤v∧v≤100000000)
def keptV (P:Int) (l:List Bnd) (x:List Int):Bool:=x.all near1&&(keepsV P l x).1
set_option maxRecDepth 100000 in
theorem areKept_any (P:Int) (A:Option Addr) (n k:Nat) (l:List Bnd) (w:World) (h1:RdB w A n k l) (hn:n≤maxLen) (X:Option Addr) (xn xk:Nat) (x:List Int) (hx:RdI w X xn xk x) (hxm:xn≤maxLen) :
 Calls Tryz.prog 72 #[.agg #[.int .i64 P,.slice A n k],.slice X xn xk] w fun e w'=>e=.returned (.bool (keptV P l x))∧Below w.heap.size w w':=by
 have hxm':=hxm
 unfold maxLen at hxm'
 have X0:=hid hx
 go_enter Tryz.func72,Tryz.ntmps72
 obtain ⟨a7,a3⟩:=ent1 w #[.int .i64 P,.slice A n k] 84
 have a9:=rI h1 a3
 have b0:=iI hx a3
 clear h1 hx
 obtain ⟨b1,b2⟩:=at2 a7
 go_wp2
 clear b1 b2
 go_loopw [11] (fun i wr=>∃ q:Nat,q≤xn∧i=.int .i64 q∧(x.take q).all near1=true∧Blk wr w.heap.size 84 #[.int .i64 P,.slice A n k]∧RdB wr A n k l∧RdI wr X xn xk x∧Below w.heap.size w wr) (fun i _=>xn-(intOf i).toNat)
 case atStart=>exact ⟨0,Nat.zero_le _,rfl,rfl,a7.out,a9.out,b0.out,a3.out⟩
 case round =>
  clear a3 a9 b0 a7
  obtain ⟨q,hq,rfl,hall,i1,i2,i3,i4⟩:=hrel
  have a1:=hid (i1)
  have a4:=hid (i2)
  have a2:=hid (i3)
  have a0:=hid (i4)
  clear i1 i2 i3 i4
  have HALL:=hid hall;clear hall
  by_cases hlt:q<xn
  · have hlt':(q:Int)<xn:=by omega
    obtain ⟨xb,xo,v,hX,xlt,hxq,hxc⟩:=RdI.get (a2.out) hlt
    subst hX
    have HXQ:=hid hxq;clear hxq
    obtain ⟨a5,a6⟩:=at2 a1
    by_cases hv1:-100000000≤v
    · by_cases hv2:v≤100000000
      · go_wp2
        go_roundw
        case rel=>exact ⟨q+1,by omega,by go_num,(by rw [List.take_add_one,HXQ.out,List.all_append,HALL.out];simp [near1];omega),a1.out,a4.out,a2.out,a0.out⟩
        case measure=>simp [intOf];omega
      · go_wp2
        go_ret
        exact ⟨ret_bool (by unfold keptV;rw [List.all_eq_false.2 ⟨v,List.mem_of_getElem? HXQ.out,by simp [near1];omega⟩];rfl),a0.out⟩
    · go_wp2
      go_ret
      exact ⟨ret_bool (by unfold keptV;rw [List.all_eq_false.2 ⟨v,List.mem_of_getElem? HXQ.out,by simp [near1];omega⟩];rfl),a0.out⟩
  · obtain rfl:xn=q:=by omega
    obtain ⟨a5,a6⟩:=at2 a1
    have hall:=HALL.out;rw [List.take_of_length_le (by rw [X0.out.len];omega)] at hall
    have HA2:=hid hall;clear hall
    obtain ⟨V,hV⟩:∃ V,keepsV P l x=V:=⟨_,rfl⟩
    have hc:=Keeps_any P A X n k xn xk l x _ a4.out hn a2.out hxm
    rw [hV] at hc
    have HV:=hid hV;clear hV
    obtain ⟨V1,V2⟩:=V
    dsimp only at hc
    have hc:=hc
    have HC:=hid hc;clear hc
    go_wp2_with fail
    refine HC.out.mono ?_
    rintro e b3 ⟨rfl,hb⟩
    clear HC
    clear a5 a6
    have a8:=hid hb
    clear hb
    go_wp2
    go_ret
    replace a0:=bH a0 a8
    exact ⟨ret_bool (by unfold keptV;rw [HA2.out,HV.out];rfl),a0.out⟩
theorem areKept_is (P:Int) (A:Option Addr) (n k:Nat) (l:List Bnd) (w:World) (h1:RdB w A n k l) (hn:n≤maxLen) (X:Option Addr) (xn xk:Nat) (x:List Int) (hx:RdI w X xn xk x) (hxm:xn≤maxLen) (b:Bool) (hb:keptV P l x=b) :
 Calls Tryz.prog 72 #[.agg #[.int .i64 P,.slice A n k],.slice X xn xk] w fun e w'=>e=.returned (.bool b)∧Below w.heap.size w w':=by
 subst hb
 exact areKept_any P A n k l w h1 hn X xn xk x hx hxm
def tieW (p:Prg) (xa xb:List Int) (q:Int):Bool:=decide (look xa (p.af+p.bt-q)-look xa p.af=look xb p.bt-look xb q)
def tieT (p:Prg) (ya yb:List Int) (q:Int):Bool:=decide (look ya (p.af+p.bt-1-q)-look ya p.af=look yb q-look yb (p.bt-1))
def ties (p:Prg) (xa xb ya yb:List Int) (n:Nat):Bool:=(List.range n).all fun j=>tieW p xa xb (p.bf+j)&&tieT p ya yb (p.bf+j)
def plB (a b:Otl) (p:Prg) (xa xb ya yb:List Int):Bool :=
 keptV (a.c+1) a.ws xa&&keptV (b.c+1) b.ws xb&&keptV a.c a.ts ya&&keptV b.c b.ts yb&&ties p xa xb ya yb (p.bt-p.bf).toNat
theorem ties_succ (p:Prg) (xa xb ya yb:List Int) (n:Nat):ties p xa xb ya yb (n+1)=(ties p xa xb ya yb n&&(tieW p xa xb (p.bf+n)&&tieT p ya yb (p.bf+n))):=by
 unfold ties
 rw [List.range_succ,List.all_append]
 simp
theorem ties_no {p:Prg} {xa xb ya yb:List Int} {n j:Nat} (hj:j<n) (h:(tieW p xa xb (p.bf+j)&&tieT p ya yb (p.bf+j))=false):ties p xa xb ya yb n=false:=by
 unfold ties
 rw [List.all_eq_false]
 exact ⟨j,List.mem_range.2 hj,by simpa using h⟩
theorem kept_facts {P:Int} {l:List Bnd} {x:List Int} (h:keptV P l x=true):(x.length:Int)=P∧∀ i,i<x.length→-100000000≤at_ x i∧at_ x i≤100000000:=by
 unfold keptV at h
 rw [Bool.and_eq_true] at h
 obtain ⟨h1,h2⟩:=h
 obtain ⟨-,hn,-⟩:=kept_spec (q:=(keepsV P l x).2) (Prod.ext h2 rfl)
 refine ⟨(nums_at hn).1,fun i hi=>?_⟩
 have:=List.all_eq_true.1 h1 (x[i]) (List.getElem_mem hi)
 simp only [near1,decide_eq_true_eq] at this
 simpa [at_,List.getD_eq_getElem?_getD,List.getElem?_eq_getElem hi] using this
theorem get_of {x:List Int} {i:Nat} (h:i<x.length):x[i]?=some (at_ x i):=by
 simp [at_,List.getD_eq_getElem?_getD,List.getElem?_eq_getElem h]
set_option maxRecDepth 100000 in
theorem isPlacement_any (c:Int) (A B:Option Addr) (n k m j:Nat) (ws ts:List Bnd) (d:Int) (C D:Option Addr) (n2 k2 m2 j2:Nat) (ws2 ts2:List Bnd) (p1 p2 p3 p4:Nat) (X1:Option Addr) (x1 k1:Nat) (xa:List Int) (X2:Option Addr) (x2 k2x:Nat) (xb:List Int) (X3:Option Addr) (x3 k3:Nat) (ya:List Int) (X4:Option Addr) (x4 k4:Nat) (yb:List Int) (w:World) (h1:RdB w A n k ws) (h2:RdB w B m j ts) (hn:n≤maxLen) (hm:m≤maxLen) (h3:RdB w C n2 k2 ws2) (h4:RdB w D m2 j2 ts2) (hn2:n2≤maxLen) (hm2:m2≤maxLen) (hx0:RdI w X1 x1 k1 xa) (hl0:x1≤maxLen) (hx1:RdI w X2 x2 k2x xb) (hl1:x2≤maxLen) (hx2:RdI w X3 x3 k3 ya) (hl2:x3≤maxLen) (hx3:RdI w X4 x4 k4 yb) (hl3:x4≤maxLen) (hq:chkP ⟨c,ws,ts⟩ ⟨d,ws2,ts2⟩ ⟨p1,p2,p3,p4⟩=0) :
 Calls Tryz.prog 45 #[.agg #[.int .i64 c,.slice A n k,.slice B m j,.int .i64 d,.slice C n2 k2,.slice D m2 j2,.int .i64 p1,.int .i64 p2,.int .i64 p3,.int .i64 p4],.agg #[.slice X1 x1 k1,.slice X2 x2 k2x,.slice X3 x3 k3,.slice X4 x4 k4]] w fun e w'=>e=.returned (.bool (plB ⟨c,ws,ts⟩ ⟨d,ws2,ts2⟩ ⟨p1,p2,p3,p4⟩ xa xb ya yb))∧Below w.heap.size w w':=by
 obtain ⟨oa,ob,sa,sb,hk⟩:=chkP_ok hq
 obtain ⟨ga1,ga2,-,-⟩:=chkO_ok oa
 obtain ⟨gb1,gb2,-,-⟩:=chkO_ok ob
 dsimp only at sa sb hk ga1 ga2 gb1 gb2
 clear oa ob hq
 unfold plB
 dsimp only
 obtain ⟨b1,e1⟩:∃ b,keptV (d+1) ws2 xb=b:=⟨_,rfl⟩
 obtain ⟨b2,e2⟩:∃ b,keptV c ts ya=b:=⟨_,rfl⟩
 obtain ⟨b3,e3⟩:∃ b,keptV d ts2 yb=b:=⟨_,rfl⟩
 rw [e1,e2,e3]
 have EK1:=hid e1;have EK2:=hid e2;have EK3:=hid e3;clear e1 e2 e3
 cases e0:keptV (c+1) ws xa
 · have EK0:=hid e0;clear e0
   simp only [Bool.false_and]
   go_enter Tryz.func45,Tryz.ntmps45
   obtain ⟨a0,a1,a4⟩:=ent2 w #[.int .i64 c,.slice A n k,.slice B m j,.int .i64 d,.slice C n2 k2,.slice D m2 j2,.int .i64 p1,.int .i64 p2,.int .i64 p3,.int .i64 p4] 78 #[.slice X1 x1 k1,.slice X2 x2 k2x,.slice X3 x3 k3,.slice X4 x4 k4] 58
   have a8:=rI h1 a4
   have a9:=rI h2 a4
   have b4:=rI h3 a4
   have b5:=rI h4 a4
   have a7:=iI hx0 a4
   have b0:=iI hx1 a4
   have a5:=iI hx2 a4
   have a6:=iI hx3 a4
   clear h1 h2 h3 h4 hx0 hx1 hx2 hx3
   go_wp2_with fail
   replace a4:=bD a4
   replace a8:=rD a8
   replace a9:=rD a9
   replace b4:=rD b4
   replace b5:=rD b5
   replace a7:=iD a7
   replace b0:=iD b0
   replace a5:=iD a5
   replace a6:=iD a6
   replace a0:=kD a0
   replace a1:=kD a1
   refine wp_region_held_drew (S:=(fun W'=>Blk W' (w.heap.size) 78 #[.int .i64 c,.slice A n k,.slice B m j,.int .i64 d,.slice C n2 k2,.slice D m2 j2,.int .i64 p1,.int .i64 p2,.int .i64 p3,.int .i64 p4]∧Blk W' (w.heap.size+1) 58 #[.slice X1 x1 k1,.slice X2 x2 k2x,.slice X3 x3 k3,.slice X4 x4 k4])) (by kernel_rfl) ⟨a0.out,a1.out⟩ (fun _=>?_)
   obtain ⟨q7,f9⟩:∃ w',w'=(((w.alloc (.cells #[.int .i64 c,.slice A n k,.slice B m j,.int .i64 d,.slice C n2 k2,.slice D m2 j2,.int .i64 p1,.int .i64 p2,.int .i64 p3,.int .i64 p4] 78)).alloc (.cells #[.slice X1 x1 k1,.slice X2 x2 k2x,.slice X3 x3 k3,.slice X4 x4 k4] 58)).drew):=⟨_,rfl⟩
   rw [← f9] at a4 a8 a9 b4 b5 a7 b0 a5 a6 a0 a1
   rw [← f9]
   clear f9
   refine' twH 0 ⟨a0.out,a1.out⟩ ?_
   refine' twH 1 ⟨a0.out,a1.out⟩ ?_
   refine' tkH 2 ⟨a0.out,a1.out⟩ ?g8 ?_
   case g8=>(rintro W' ⟨hS0,hS1⟩;have hc0:=Blk.nth hS0 0;have hc1:=Blk.nth hS0 1;have hc2:=Blk.nth hS0 2;clear hS0 hS1;go_simp;try with_reducible rfl)
   refine' twH 4 ⟨a0.out,a1.out⟩ ?_
   try simp only [pq]
   refine' tkH 5 ⟨a0.out,a1.out⟩ ?g9 ?_
   case g9=>(rintro W' ⟨hS0,hS1⟩;have hc0:=Blk.nth hS1 0;clear hS0 hS1;go_simp;try with_reducible rfl)
   try simp only [pq]
   refine oneH 3 rfl fun K hK=>?_
   go_simp
   go_at_call 69
   refine (ownWays_any c A B n k m j _ (by omega) (by omega)).mono ?_
   rintro e q8 ⟨rfl,d5⟩
   dsimp only
   replace d5:=hid d5
   replace a0:=kH a0 d5
   replace a1:=kH a1 d5
   refine hK.out _ _ ⟨a0.out,a1.out⟩ (fun _=>?_);clear hK K
   try simp only [pq]
   refine oneH 6 rfl fun K hK=>?_
   replace a8:=rH a8 d5
   replace a7:=iH a7 d5
   go_simp
   go_at_call 72
   refine (areKept_is (c+1) A n k ws _ a8.out hn X1 x1 k1 xa a7.out hl0 _ EK0.out).mono ?_
   rintro e q9 ⟨rfl,d8⟩
   dsimp only
   replace d8:=hid d8
   replace a0:=kH a0 d8
   replace a1:=kH a1 d8
   refine hK.out _ _ ⟨a0.out,a1.out⟩ (fun _=>?_);clear hK K
   try simp only [pq]
   refine' twH 7 ⟨a0.out,a1.out⟩ ?_
   refine' twH 8 ⟨a0.out,a1.out⟩ ?_
   refine' tkNH 9 ⟨a0.out,a1.out⟩ ?_
   refine' tkNH 10 ⟨a0.out,a1.out⟩ ?_
   try simp only [pq]
   refine' tkNH 11 ⟨a0.out,a1.out⟩ ?_
   refine' tkNH 12 ⟨a0.out,a1.out⟩ ?_
   refine' tkNH 13 ⟨a0.out,a1.out⟩ ?_
   refine' tkNH 14 ⟨a0.out,a1.out⟩ ?_
   try simp only [pq]
   refine' tkNH 15 ⟨a0.out,a1.out⟩ ?_
   refine' tkNH 16 ⟨a0.out,a1.out⟩ ?_
   refine' twH 17 ⟨a0.out,a1.out⟩ ?_
   try simp only [pq]
   refine wpAnyH_done (by kernel_rfl) ?_ _
   go_wp2
   go_ret
   replace a4:=bH (bH a4 d5) d8
   exact ⟨rfl,a4.out⟩
 · have EK0:=hid e0;clear e0
   go_enter Tryz.func45,Tryz.ntmps45
   obtain ⟨a0,a1,a4⟩:=ent2 w #[.int .i64 c,.slice A n k,.slice B m j,.int .i64 d,.slice C n2 k2,.slice D m2 j2,.int .i64 p1,.int .i64 p2,.int .i64 p3,.int .i64 p4] 78 #[.slice X1 x1 k1,.slice X2 x2 k2x,.slice X3 x3 k3,.slice X4 x4 k4] 58
   have a8:=rI h1 a4
   have a9:=rI h2 a4
   have b4:=rI h3 a4
   have b5:=rI h4 a4
   have a7:=iI hx0 a4
   have b0:=iI hx1 a4
   have a5:=iI hx2 a4
   have a6:=iI hx3 a4
   clear h1 h2 h3 h4 hx0 hx1 hx2 hx3
   go_wp2_with fail
   replace a4:=bD a4
   replace a8:=rD a8
   replace a9:=rD a9
   replace b4:=rD b4
   replace b5:=rD b5
   replace a7:=iD a7
   replace b0:=iD b0
   replace a5:=iD a5
   replace a6:=iD a6
   replace a0:=kD a0
   replace a1:=kD a1
   refine wp_region_held_drew (S:=(fun W'=>Blk W' (w.heap.size) 78 #[.int .i64 c,.slice A n k,.slice B m j,.int .i64 d,.slice C n2 k2,.slice D m2 j2,.int .i64 p1,.int .i64 p2,.int .i64 p3,.int .i64 p4]∧Blk W' (w.heap.size+1) 58 #[.slice X1 x1 k1,.slice X2 x2 k2x,.slice X3 x3 k3,.slice X4 x4 k4])) (by kernel_rfl) ⟨a0.out,a1.out⟩ (fun _=>?_)
   obtain ⟨r0,g0⟩:∃ w',w'=(((w.alloc (.cells #[.int .i64 c,.slice A n k,.slice B m j,.int .i64 d,.slice C n2 k2,.slice D m2 j2,.int .i64 p1,.int .i64 p2,.int .i64 p3,.int .i64 p4] 78)).alloc (.cells #[.slice X1 x1 k1,.slice X2 x2 k2x,.slice X3 x3 k3,.slice X4 x4 k4] 58)).drew):=⟨_,rfl⟩
   rw [← g0] at a4 a8 a9 b4 b5 a7 b0 a5 a6 a0 a1
   rw [← g0]
   clear g0
   refine' twH 0 ⟨a0.out,a1.out⟩ ?_
   refine' twH 1 ⟨a0.out,a1.out⟩ ?_
   refine' tkH 2 ⟨a0.out,a1.out⟩ ?h0 ?_
   case h0=>(rintro W' ⟨hS0,hS1⟩;have hc0:=Blk.nth hS0 0;have hc1:=Blk.nth hS0 1;have hc2:=Blk.nth hS0 2;clear hS0 hS1;go_simp;try with_reducible rfl)
   refine' twH 4 ⟨a0.out,a1.out⟩ ?_
   try simp only [pq]
   refine' tkH 5 ⟨a0.out,a1.out⟩ ?h5 ?_
   case h5=>(rintro W' ⟨hS0,hS1⟩;have hc0:=Blk.nth hS1 0;clear hS0 hS1;go_simp;try with_reducible rfl)
   try simp only [pq]
   refine oneH 3 rfl fun K hK=>?_
   go_simp
   go_at_call 69
   refine (ownWays_any c A B n k m j _ (by omega) (by omega)).mono ?_
   rintro e r1 ⟨rfl,c6⟩
   dsimp only
   replace c6:=hid c6
   replace a0:=kH a0 c6
   replace a1:=kH a1 c6
   refine hK.out _ _ ⟨a0.out,a1.out⟩ (fun _=>?_);clear hK K
   try simp only [pq]
   refine oneH 6 rfl fun K hK=>?_
   replace a8:=rH a8 c6
   replace a7:=iH a7 c6
   go_simp
   go_at_call 72
   refine (areKept_is (c+1) A n k ws _ a8.out hn X1 x1 k1 xa a7.out hl0 _ EK0.out).mono ?_
   rintro e r2 ⟨rfl,c7⟩
   dsimp only
   replace c7:=hid c7
   replace a0:=kH a0 c7
   replace a1:=kH a1 c7
   refine hK.out _ _ ⟨a0.out,a1.out⟩ (fun _=>?_);clear hK K
   try simp only [pq]
   refine' twH 7 ⟨a0.out,a1.out⟩ ?_
   refine' twH 8 ⟨a0.out,a1.out⟩ ?_
   refine' twH 9 ⟨a0.out,a1.out⟩ ?_
   refine' twH 10 ⟨a0.out,a1.out⟩ ?_
   try simp only [pq]
   refine' tkH 11 ⟨a0.out,a1.out⟩ ?h6 ?_
   case h6=>(rintro W' ⟨hS0,hS1⟩;have hc0:=Blk.nth hS0 3;have hc1:=Blk.nth hS0 4;have hc2:=Blk.nth hS0 5;clear hS0 hS1;go_simp;try with_reducible rfl)
   refine' twH 13 ⟨a0.out,a1.out⟩ ?_
   refine' tkH 14 ⟨a0.out,a1.out⟩ ?h7 ?_
   case h7=>(rintro W' ⟨hS0,hS1⟩;have hc0:=Blk.nth hS1 1;clear hS0 hS1;go_simp;try with_reducible rfl)
   try simp only [pq]
   refine oneH 12 rfl fun K hK=>?_
   go_simp
   go_at_call 69
   refine (ownWays_any d C D n2 k2 m2 j2 _ (by omega) (by omega)).mono ?_
   rintro e r3 ⟨rfl,c8⟩
   dsimp only
   replace c8:=hid c8
   replace a0:=kH a0 c8
   replace a1:=kH a1 c8
   refine hK.out _ _ ⟨a0.out,a1.out⟩ (fun _=>?_);clear hK K
   try simp only [pq]
   refine oneH 15 rfl fun K hK=>?_
   replace b4:=rH (rH (rH b4 c6) c7) c8
   replace b0:=iH (iH (iH b0 c6) c7) c8
   go_simp
   go_at_call 72
   refine (areKept_is (d+1) C n2 k2 ws2 _ b4.out hn2 X2 x2 k2x xb b0.out hl1 _ EK1.out).mono ?_
   rintro e h8 ⟨rfl,c9⟩
   dsimp only
   replace c9:=hid c9
   replace a0:=kH a0 c9
   replace a1:=kH a1 c9
   refine hK.out _ _ ⟨a0.out,a1.out⟩ (fun _=>?_);clear hK K
   try simp only [pq]
   refine' twH 16 ⟨a0.out,a1.out⟩ ?_
   refine' twH 17 ⟨a0.out,a1.out⟩ ?_
   try simp only [pq]
   refine wpAnyH_done (by kernel_rfl) ?_ _
   replace a4:=bH (bH (bH (bH a4 c6) c7) c8) c9
   replace a8:=rH (rH (rH a8 c7) c8) c9
   replace a9:=rH (rH (rH (rH a9 c6) c7) c8) c9
   replace b4:=rH b4 c9
   replace b5:=rH (rH (rH (rH b5 c6) c7) c8) c9
   replace a7:=iH (iH (iH a7 c7) c8) c9
   replace b0:=iH b0 c9
   replace a5:=iH (iH (iH (iH a5 c6) c7) c8) c9
   replace a6:=iH (iH (iH (iH a6 c6) c7) c8) c9
   cases b1
   · go_wp2
     go_ret
     exact ⟨rfl,a4.out⟩
   · go_wp2_with fail
     cases b2
     · replace a4:=bD a4
       replace a8:=rD a8
       replace a9:=rD a9
       replace b4:=rD b4
       replace b5:=rD b5
       replace a7:=iD a7
       replace b0:=iD b0
       replace a5:=iD a5
       replace a6:=iD a6
       replace a0:=kD a0
       replace a1:=kD a1
       refine wp_region_held_drew (S:=(fun W'=>Blk W' (w.heap.size) 78 #[.int .i64 c,.slice A n k,.slice B m j,.int .i64 d,.slice C n2 k2,.slice D m2 j2,.int .i64 p1,.int .i64 p2,.int .i64 p3,.int .i64 p4]∧Blk W' (w.heap.size+1) 58 #[.slice X1 x1 k1,.slice X2 x2 k2x,.slice X3 x3 k3,.slice X4 x4 k4])) (by kernel_rfl) ⟨a0.out,a1.out⟩ (fun _=>?_)
       obtain ⟨r4,g3⟩:∃ w',w'=(h8.drew):=⟨_,rfl⟩
       rw [← g3] at a4 a8 a9 b4 b5 a7 b0 a5 a6 a0 a1
       rw [← g3]
       clear g3
       refine' twH 0 ⟨a0.out,a1.out⟩ ?_
       refine' twH 1 ⟨a0.out,a1.out⟩ ?_
       refine' tkH 2 ⟨a0.out,a1.out⟩ ?h9 ?_
       case h9=>(rintro W' ⟨hS0,hS1⟩;have hc0:=Blk.nth hS0 0;have hc1:=Blk.nth hS0 1;have hc2:=Blk.nth hS0 2;clear hS0 hS1;go_simp;try with_reducible rfl)
       refine' twH 4 ⟨a0.out,a1.out⟩ ?_
       try simp only [pq]
       refine' tkH 5 ⟨a0.out,a1.out⟩ ?i9 ?_
       case i9=>(rintro W' ⟨hS0,hS1⟩;have hc0:=Blk.nth hS1 2;clear hS0 hS1;go_simp;try with_reducible rfl)
       try simp only [pq]
       refine oneH 3 rfl fun K hK=>?_
       go_simp
       go_at_call 69
       refine (ownTurns_any c A B n k m j _).mono ?_
       rintro e r5 ⟨rfl,d6⟩
       dsimp only
       replace d6:=hid d6
       replace a0:=kH a0 d6
       replace a1:=kH a1 d6
       refine hK.out _ _ ⟨a0.out,a1.out⟩ (fun _=>?_);clear hK K
       try simp only [pq]
       refine oneH 6 rfl fun K hK=>?_
       replace a9:=rH a9 d6
       replace a5:=iH a5 d6
       go_simp
       go_at_call 72
       refine (areKept_is c B m j ts _ a9.out hm X3 x3 k3 ya a5.out hl2 _ EK2.out).mono ?_
       rintro e r6 ⟨rfl,d9⟩
       dsimp only
       replace d9:=hid d9
       replace a0:=kH a0 d9
       replace a1:=kH a1 d9
       refine hK.out _ _ ⟨a0.out,a1.out⟩ (fun _=>?_);clear hK K
       try simp only [pq]
       refine' twH 7 ⟨a0.out,a1.out⟩ ?_
       refine' twH 8 ⟨a0.out,a1.out⟩ ?_
       refine' tkNH 9 ⟨a0.out,a1.out⟩ ?_
       refine' tkNH 10 ⟨a0.out,a1.out⟩ ?_
       try simp only [pq]
       refine' tkNH 11 ⟨a0.out,a1.out⟩ ?_
       refine' tkNH 12 ⟨a0.out,a1.out⟩ ?_
       refine' tkNH 13 ⟨a0.out,a1.out⟩ ?_
       refine' tkNH 14 ⟨a0.out,a1.out⟩ ?_
       try simp only [pq]
       refine' tkNH 15 ⟨a0.out,a1.out⟩ ?_
       refine' tkNH 16 ⟨a0.out,a1.out⟩ ?_
       refine' twH 17 ⟨a0.out,a1.out⟩ ?_
       try simp only [pq]
       refine wpAnyH_done (by kernel_rfl) ?_ _
       go_wp2
       go_ret
       replace a4:=bH (bH a4 d6) d9
       exact ⟨rfl,a4.out⟩
     · replace a4:=bD a4
       replace a8:=rD a8
       replace a9:=rD a9
       replace b4:=rD b4
       replace b5:=rD b5
       replace a7:=iD a7
       replace b0:=iD b0
       replace a5:=iD a5
       replace a6:=iD a6
       replace a0:=kD a0
       replace a1:=kD a1
       refine wp_region_held_drew (S:=(fun W'=>Blk W' (w.heap.size) 78 #[.int .i64 c,.slice A n k,.slice B m j,.int .i64 d,.slice C n2 k2,.slice D m2 j2,.int .i64 p1,.int .i64 p2,.int .i64 p3,.int .i64 p4]∧Blk W' (w.heap.size+1) 58 #[.slice X1 x1 k1,.slice X2 x2 k2x,.slice X3 x3 k3,.slice X4 x4 k4])) (by kernel_rfl) ⟨a0.out,a1.out⟩ (fun _=>?_)
       obtain ⟨r7,g4⟩:∃ w',w'=(h8.drew):=⟨_,rfl⟩
       rw [← g4] at a4 a8 a9 b4 b5 a7 b0 a5 a6 a0 a1
       rw [← g4]
       clear g4
       refine' twH 0 ⟨a0.out,a1.out⟩ ?_
       refine' twH 1 ⟨a0.out,a1.out⟩ ?_
       refine' tkH 2 ⟨a0.out,a1.out⟩ ?j0 ?_
       case j0=>(rintro W' ⟨hS0,hS1⟩;have hc0:=Blk.nth hS0 0;have hc1:=Blk.nth hS0 1;have hc2:=Blk.nth hS0 2;clear hS0 hS1;go_simp;try with_reducible rfl)
       refine' twH 4 ⟨a0.out,a1.out⟩ ?_
       try simp only [pq]
       refine' tkH 5 ⟨a0.out,a1.out⟩ ?j1 ?_
       case j1=>(rintro W' ⟨hS0,hS1⟩;have hc0:=Blk.nth hS1 2;clear hS0 hS1;go_simp;try with_reducible rfl)
       try simp only [pq]
       refine oneH 3 rfl fun K hK=>?_
       go_simp
       go_at_call 69
       refine (ownTurns_any c A B n k m j _).mono ?_
       rintro e r8 ⟨rfl,d0⟩
       dsimp only
       replace d0:=hid d0
       replace a0:=kH a0 d0
       replace a1:=kH a1 d0
       refine hK.out _ _ ⟨a0.out,a1.out⟩ (fun _=>?_);clear hK K
       try simp only [pq]
       refine oneH 6 rfl fun K hK=>?_
       replace a9:=rH a9 d0
       replace a5:=iH a5 d0
       go_simp
       go_at_call 72
       refine (areKept_is c B m j ts _ a9.out hm X3 x3 k3 ya a5.out hl2 _ EK2.out).mono ?_
       rintro e r9 ⟨rfl,d1⟩
       dsimp only
       replace d1:=hid d1
       replace a0:=kH a0 d1
       replace a1:=kH a1 d1
       refine hK.out _ _ ⟨a0.out,a1.out⟩ (fun _=>?_);clear hK K
       try simp only [pq]
       refine' twH 7 ⟨a0.out,a1.out⟩ ?_
       refine' twH 8 ⟨a0.out,a1.out⟩ ?_
       refine' twH 9 ⟨a0.out,a1.out⟩ ?_
       refine' twH 10 ⟨a0.out,a1.out⟩ ?_
       try simp only [pq]
       refine' tkH 11 ⟨a0.out,a1.out⟩ ?j3 ?_
       case j3=>(rintro W' ⟨hS0,hS1⟩;have hc0:=Blk.nth hS0 3;have hc1:=Blk.nth hS0 4;have hc2:=Blk.nth hS0 5;clear hS0 hS1;go_simp;try with_reducible rfl)
       refine' twH 13 ⟨a0.out,a1.out⟩ ?_
       refine' tkH 14 ⟨a0.out,a1.out⟩ ?j4 ?_
       case j4=>(rintro W' ⟨hS0,hS1⟩;have hc0:=Blk.nth hS1 3;clear hS0 hS1;go_simp;try with_reducible rfl)
       try simp only [pq]
       refine oneH 12 rfl fun K hK=>?_
       go_simp
       go_at_call 69
       refine (ownTurns_any d C D n2 k2 m2 j2 _).mono ?_
       rintro e s0 ⟨rfl,d2⟩
       dsimp only
       replace d2:=hid d2
       replace a0:=kH a0 d2
       replace a1:=kH a1 d2
       refine hK.out _ _ ⟨a0.out,a1.out⟩ (fun _=>?_);clear hK K
       try simp only [pq]
       refine oneH 15 rfl fun K hK=>?_
       replace b5:=rH (rH (rH b5 d0) d1) d2
       replace a6:=iH (iH (iH a6 d0) d1) d2
       go_simp
       go_at_call 72
       refine (areKept_is d D m2 j2 ts2 _ b5.out hm2 X4 x4 k4 yb a6.out hl3 _ EK3.out).mono ?_
       rintro e o7 ⟨rfl,d3⟩
       dsimp only
       replace d3:=hid d3
       replace a0:=kH a0 d3
       replace a1:=kH a1 d3
       refine hK.out _ _ ⟨a0.out,a1.out⟩ (fun _=>?_);clear hK K
       try simp only [pq]
       refine' twH 16 ⟨a0.out,a1.out⟩ ?_
       refine' twH 17 ⟨a0.out,a1.out⟩ ?_
       try simp only [pq]
       refine wpAnyH_done (by kernel_rfl) ?_ _
       replace a4:=bH (bH (bH (bH a4 d0) d1) d2) d3
       replace a8:=rH (rH (rH (rH a8 d0) d1) d2) d3
       replace a9:=rH (rH (rH a9 d1) d2) d3
       replace b4:=rH (rH (rH (rH b4 d0) d1) d2) d3
       replace b5:=rH b5 d3
       replace a7:=iH (iH (iH (iH a7 d0) d1) d2) d3
       replace b0:=iH (iH (iH (iH b0 d0) d1) d2) d3
       replace a5:=iH (iH (iH a5 d1) d2) d3
       replace a6:=iH a6 d3
       cases b3
       · go_wp2
         go_ret
         exact ⟨rfl,a4.out⟩
       · go_wp2_with fail
         replace a4:=bD a4
         replace a8:=rD a8
         replace a9:=rD a9
         replace b4:=rD b4
         replace b5:=rD b5
         replace a7:=iD a7
         replace b0:=iD b0
         replace a5:=iD a5
         replace a6:=iD a6
         replace a0:=kD a0
         replace a1:=kD a1
         refine wp_region_held_drew (S:=(fun W'=>Blk W' (w.heap.size) 78 #[.int .i64 c,.slice A n k,.slice B m j,.int .i64 d,.slice C n2 k2,.slice D m2 j2,.int .i64 p1,.int .i64 p2,.int .i64 p3,.int .i64 p4])) (by kernel_rfl) a0.out (fun _=>?_)
         obtain ⟨s1,g5⟩:∃ w',w'=(o7.drew):=⟨_,rfl⟩
         rw [← g5] at a4 a8 a9 b4 b5 a7 b0 a5 a6 a0 a1
         rw [← g5]
         clear g5
         refine' tkH 0 a0.out ?j5 ?_
         case j5=>(rintro W' hS0;have hc0:=Blk.nth hS0 0;have hc1:=Blk.nth hS0 1;have hc2:=Blk.nth hS0 2;have hc3:=Blk.nth hS0 3;have hc4:=Blk.nth hS0 4;have hc5:=Blk.nth hS0 5;have hc6:=Blk.nth hS0 6;have hc7:=Blk.nth hS0 7;have hc8:=Blk.nth hS0 8;have hc9:=Blk.nth hS0 9;clear hS0;go_simp;try with_reducible rfl)
         refine' tkH 2 a0.out ?j6 ?_
         case j6=>(rintro W' hS0;have hc0:=Blk.nth hS0 0;have hc1:=Blk.nth hS0 1;have hc2:=Blk.nth hS0 2;have hc3:=Blk.nth hS0 3;have hc4:=Blk.nth hS0 4;have hc5:=Blk.nth hS0 5;have hc6:=Blk.nth hS0 6;have hc7:=Blk.nth hS0 7;have hc8:=Blk.nth hS0 8;have hc9:=Blk.nth hS0 9;clear hS0;go_simp;try with_reducible rfl)
         try simp only [pq]
         refine oneH 1 rfl fun K hK=>?_
         go_simp
         go_at_call 60
         refine (corner_any c A B n k m j d C D n2 k2 m2 j2 p1 p2 p3 p4 _ ⟨ga1,ga2⟩).mono ?_
         rintro e s2 ⟨g1,rfl,hcl1,hge1,d4⟩
         dsimp only
         unfold fnV
         replace d4:=hid d4
         have d7:=hid (hcl1)
         replace a0:=kH a0 d4
         refine hK.out _ _ a0.out (fun _=>?_);clear hK K
         try simp only [pq]
         refine oneH 3 rfl fun K hK=>?_
         go_simp
         go_at_call 71
         refine (side_any c A B n k m j d C D n2 k2 m2 j2 p1 p2 p3 p4 _ ⟨by omega,by omega⟩).mono ?_
         rintro e s3 ⟨g2,rfl,hcl2,hge2,c4⟩
         dsimp only
         unfold fnV
         replace c4:=hid c4
         have f8:=hid (hcl2)
         replace a0:=kH a0 c4
         refine hK.out _ _ a0.out (fun _=>?_);clear hK K
         try simp only [pq]
         refine' twH 4 a0.out ?_
         refine' twH 5 a0.out ?_
         try simp only [pq]
         refine wpAnyH_done (by kernel_rfl) ?_ _
         replace a8:=rH (rH a8 d4) c4
         clear a8
         replace a9:=rH (rH a9 d4) c4
         clear a9
         replace b4:=rH (rH b4 d4) c4
         clear b4
         replace b5:=rH (rH b5 d4) c4
         clear b5
         obtain ⟨j7,j8,j9,k0,k5,k6,k7,k8,k9,l0⟩:=at10 a0
         replace a1:=kH (kH a1 d4) c4
         obtain ⟨l1,l2,l3,l4⟩:=at4 a1
         go_wp2
         clear j7 j8 j9 k0 k5 k6 k7 k8 k9 l0 l1 l2 l3 l4
         clear hge1 hge2
         replace a4:=bH (bH a4 d4) c4
         replace a7:=iH (iH a7 d4) c4
         replace b0:=iH (iH b0 d4) c4
         replace a5:=iH (iH a5 d4) c4
         replace a6:=iH (iH a6 d4) c4
         replace d7:=hid (Cl.keep (d7.out) c4.out)
         go_loopw [7] (fun i wr=>∃ q r:Nat,q≤p4-p3∧r=p3+q∧i=.int .i64 (r:Int)∧ties ⟨p1,p2,p3,p4⟩ xa xb ya yb q=true∧Cl wr g1 (c+1) p1 p3 p4∧Cl wr g2 c p1 p3 ((p4:Int)-1)∧Blk wr (w.heap.size) 78 #[.int .i64 c,.slice A n k,.slice B m j,.int .i64 d,.slice C n2 k2,.slice D m2 j2,.int .i64 p1,.int .i64 p2,.int .i64 p3,.int .i64 p4]∧Blk wr (w.heap.size+1) 58 #[.slice X1 x1 k1,.slice X2 x2 k2x,.slice X3 x3 k3,.slice X4 x4 k4]∧RdI wr X1 x1 k1 xa∧RdI wr X2 x2 k2x xb∧RdI wr X3 x3 k3 ya∧RdI wr X4 x4 k4 yb∧Below w.heap.size w wr) (fun i _=>p4-(intOf i).toNat)
         case atStart=>exact ⟨0,p3,Nat.zero_le _,rfl,rfl,rfl,d7.out,f8.out,a0.out,a1.out,a7.out,b0.out,a5.out,a6.out,a4.out⟩
         case round =>
          clear a4 a7 b0 a5 a6 a0 a1 d7 f8
          obtain ⟨q,r,hq,hrq,rfl,hti,i0,i1,i2,i3,i4,i5,i6,i7,i8⟩:=hrel
          have c3:=hid (i0)
          have c5:=hid (i1)
          have b6:=hid (i2)
          have b7:=hid (i3)
          have b8:=hid (i4)
          have b9:=hid (i5)
          have c0:=hid (i6)
          have c1:=hid (i7)
          have c2:=hid (i8)
          clear i0 i1 i2 i3 i4 i5 i6 i7 i8
          have HTI:=hid hti;clear hti
          by_cases hlt:r<p4
          · have hlt':(r:Int)<(p4:Int):=by omega
            obtain ⟨v1,hv1⟩:∃ v,v=p1+p4-r:=⟨_,rfl⟩
            obtain ⟨v2,hv2⟩:∃ v,v=p1+p4-1-r:=⟨_,rfl⟩
            obtain ⟨p5,hp5⟩:∃ v,v=p4-1:=⟨_,rfl⟩
            have hr1:ren (c+1) p1 p3 p4 (r:Int)=(v1:Int):=by unfold ren;rw [if_neg (by omega),if_neg (by omega)];omega
            have hr2:ren c p1 p3 ((p4:Int)-1) (r:Int)=(v2:Int):=by unfold ren;rw [if_neg (by omega),if_neg (by omega)];omega
            have HV1:=hid (fun w h=>Calls.mono (renum_any (c+1) p1 p3 p4 (r:Int) g1 w h (by omega) (by omega) (by omega) (by omega) (by omega)) (fun e w' h=>(show e=.returned (.int .i64 (v1:Int))∧w=w' from ⟨by rw [h.1,hr1],h.2⟩)))
            have HV2:=hid (fun w h=>Calls.mono (renum_any c p1 p3 ((p4:Int)-1) (r:Int) g2 w h (by omega) (by omega) (by omega) (by omega) (by omega)) (fun e w' h=>(show e=.returned (.int .i64 (v2:Int))∧w=w' from ⟨by rw [h.1,hr2],h.2⟩)))
            clear hr1 hr2
            obtain ⟨kl0,kb0⟩:=kept_facts EK0.out;have hn0_:=(b8.out).len
            obtain ⟨kl1,kb1⟩:=kept_facts EK1.out;have hn1_:=(b9.out).len
            obtain ⟨kl2,kb2⟩:=kept_facts EK2.out;have hn2_:=(c0.out).len
            obtain ⟨kl3,kb3⟩:=kept_facts EK3.out;have hn3_:=(c1.out).len
            have hin_:v1<xa.length:=by omega
            have ga_:=get_of hin_;have ba_:=kb0 _ hin_;clear hin_
            obtain ⟨za,hza⟩:∃ z,at_ xa v1=z:=⟨_,rfl⟩
            rw [hza] at ga_ ba_
            have hin_:p1<xa.length:=by omega
            have gb_:=get_of hin_;have bb_:=kb0 _ hin_;clear hin_
            obtain ⟨zb,hzb⟩:∃ z,at_ xa p1=z:=⟨_,rfl⟩
            rw [hzb] at gb_ bb_
            have hin_:p4<xb.length:=by omega
            have gc_:=get_of hin_;have bc_:=kb1 _ hin_;clear hin_
            obtain ⟨zc,hzc⟩:∃ z,at_ xb p4=z:=⟨_,rfl⟩
            rw [hzc] at gc_ bc_
            have hin_:r<xb.length:=by omega
            have gd_:=get_of hin_;have bd_:=kb1 _ hin_;clear hin_
            obtain ⟨zd,hzd⟩:∃ z,at_ xb r=z:=⟨_,rfl⟩
            rw [hzd] at gd_ bd_
            have hin_:v2<ya.length:=by omega
            have ge_:=get_of hin_;have be_:=kb2 _ hin_;clear hin_
            obtain ⟨ze,hze⟩:∃ z,at_ ya v2=z:=⟨_,rfl⟩
            rw [hze] at ge_ be_
            have hin_:p1<ya.length:=by omega
            have gf_:=get_of hin_;have bf_:=kb2 _ hin_;clear hin_
            obtain ⟨zf,hzf⟩:∃ z,at_ ya p1=z:=⟨_,rfl⟩
            rw [hzf] at gf_ bf_
            have hin_:r<yb.length:=by omega
            have gg_:=get_of hin_;have bg_:=kb3 _ hin_;clear hin_
            obtain ⟨zg,hzg⟩:∃ z,at_ yb r=z:=⟨_,rfl⟩
            rw [hzg] at gg_ bg_
            have hin_:p5<yb.length:=by omega
            have gh_:=get_of hin_;have bh_:=kb3 _ hin_;clear hin_
            obtain ⟨zh,hzh⟩:∃ z,at_ yb p5=z:=⟨_,rfl⟩
            rw [hzh] at gh_ bh_
            obtain ⟨ab0,ao0,hA0⟩:=rdI_some (b8.out) ga_
            obtain ⟨ab1,ao1,hA1⟩:=rdI_some (b9.out) gc_
            obtain ⟨ab2,ao2,hA2⟩:=rdI_some (c0.out) ge_
            obtain ⟨ab3,ao3,hA3⟩:=rdI_some (c1.out) gg_
            subst hA0
            subst hA1
            subst hA2
            subst hA3
            have htw:tieW ⟨p1,p2,p3,p4⟩ xa xb ((p3:Int)+(q:Int))=decide (za-zb=zc-zd):=by unfold tieW;dsimp only;rw [show ((p1:Int)+p4-((p3:Int)+q))=((v1:Nat):Int) by omega,show ((p3:Int)+q)=((r:Nat):Int) by omega,look_at,look_at,look_at,look_at,hza,hzb,hzc,hzd]
            have htt:tieT ⟨p1,p2,p3,p4⟩ ya yb ((p3:Int)+(q:Int))=decide (ze-zf=zg-zh):=by unfold tieT;dsimp only;rw [show ((p1:Int)+p4-1-((p3:Int)+q))=((v2:Nat):Int) by omega,show ((p3:Int)+q)=(r:Int) by omega,show ((p4:Int)-1)=((p5:Nat):Int) by omega,look_at,look_at,look_at,look_at,hze,hzf,hzg,hzh]
            have HTW:=hid htw;have HTT:=hid htt;clear htw htt hza hzb hzc hzd hze hzf hzg hzh
            have s4:IntKind.i64.wrap (za-zb)=za-zb:=IntWalk.i64_in _ (by omega)
            have s5:IntKind.i64.wrap (zc-zd)=zc-zd:=IntWalk.i64_in _ (by omega)
            have s6:IntKind.i64.wrap (ze-zf)=ze-zf:=IntWalk.i64_in _ (by omega)
            have s7:IntKind.i64.wrap (zg-zh)=zg-zh:=IntWalk.i64_in _ (by omega)
            have s8:IntKind.i64.wrap ((p4:Int)-1)=(p5:Int):=by rw [IntWalk.i64_in _ (by omega)];omega
            have hlv1:(v1:Int)<x1:=by omega
            have hlp1:(p1:Int)<x1:=by omega
            have hlp4:(p4:Int)<x2:=by omega
            have hlq2:(r:Int)<x2:=by omega
            have hlv2:(v2:Int)<x3:=by omega
            have hlp13:(p1:Int)<x3:=by omega
            have hlq4:(r:Int)<x4:=by omega
            have hlp5:(p5:Int)<x4:=by omega
            clear kl0 kb0 hn0_ kl1 kb1 hn1_ kl2 kb2 hn2_ kl3 kb3 hn3_
            have HRQ:=hid hrq;clear hv1 hv2 hp5 hrq
            by_cases h1:za-zb=zc-zd
            · have hb1:(za-zb != zc-zd)=false:=by simpa using h1
              have hd1:decide (za-zb=zc-zd)=true:=decide_eq_true h1
              clear h1
              obtain ⟨v2_,hb2⟩:∃ v,(ze-zf != zg-zh)=v:=⟨_,rfl⟩
              obtain ⟨e4,e5,e6,e7,e8,e9,f0,f1,f2,f3⟩:=at10 b6
              obtain ⟨f4,f5,f6,f7⟩:=at4 b7
              go_wp2_with fail
              clear e4 e5 e6 e7 e8 e9 f0 f1 f2 f3 f4 f5 f6 f7
              replace c3:=hid (Cl.drew (c3.out))
              replace c5:=hid (Cl.drew (c5.out))
              replace b6:=kD b6
              replace b7:=kD b7
              replace b8:=iD b8
              replace b9:=iD b9
              replace c0:=iD c0
              replace c1:=iD c1
              replace c2:=bD c2
              refine wp_region_held_drew (S:=(fun W'=>Blk W' (w.heap.size) 78 #[.int .i64 c,.slice A n k,.slice B m j,.int .i64 d,.slice C n2 k2,.slice D m2 j2,.int .i64 p1,.int .i64 p2,.int .i64 p3,.int .i64 p4]∧Blk W' (w.heap.size+1) 58 #[.slice (some ⟨ab0,ao0,none⟩) x1 k1,.slice (some ⟨ab1,ao1,none⟩) x2 k2x,.slice (some ⟨ab2,ao2,none⟩) x3 k3,.slice (some ⟨ab3,ao3,none⟩) x4 k4]∧RdI W' (some ⟨ab0,ao0,none⟩) x1 k1 xa∧RdI W' (some ⟨ab1,ao1,none⟩) x2 k2x xb∧RdI W' (some ⟨ab2,ao2,none⟩) x3 k3 ya∧RdI W' (some ⟨ab3,ao3,none⟩) x4 k4 yb)) (by kernel_rfl) ⟨b6.out,b7.out,b8.out,b9.out,c0.out,c1.out⟩ (fun _=>?_)
              obtain ⟨s9,g6⟩:∃ w',w'=(wr.drew):=⟨_,rfl⟩
              rw [← g6] at c3 c5 b6 b7 b8 b9 c0 c1 c2
              rw [← g6]
              clear g6
              have a2:=hid (And.intro b6.out (And.intro b7.out (And.intro b8.out (And.intro b9.out (And.intro c0.out c1.out)))))
              refine' twH 0 a2.out ?_
              refine' tkH 1 a2.out ?l5 ?_
              case l5=>(rintro W' ⟨hS0,hS1,hS2,hS3,hS4,hS5⟩;have hc0:=Blk.nth hS1 0;clear hS0 hS1 hS2 hS3 hS4 hS5;go_simp;try with_reducible rfl)
              refine' twH 2 a2.out ?_
              refine' twH 3 a2.out ?_
              try simp only [pq]
              refine' twH 7 a2.out ?_
              refine' tkH 8 a2.out ?l6 ?_
              case l6=>(rintro W' ⟨hS0,hS1,hS2,hS3,hS4,hS5⟩;have hc0:=Blk.nth hS1 0;clear hS0 hS1 hS2 hS3 hS4 hS5;go_simp;try with_reducible rfl)
              refine' twH 9 a2.out ?_
              refine' twH 10 a2.out ?_
              try simp only [pq]
              refine' twH 11 a2.out ?_
              refine' tkH 12 a2.out ?l7 ?_
              case l7=>(rintro W' ⟨hS0,hS1,hS2,hS3,hS4,hS5⟩;have hc0:=Blk.nth hS0 6;clear hS0 hS1 hS2 hS3 hS4 hS5;go_simp;try with_reducible rfl)
              refine' twH 13 a2.out ?_
              refine' tkH 14 a2.out ?l8 ?_
              case l8=>(rintro W' ⟨hS0,hS1,hS2,hS3,hS4,hS5⟩;have hc_:=(rdI_at hS2 gb_).1;clear hS0 hS1 hS2 hS3 hS4 hS5;go_simp;try with_reducible rfl)
              try simp only [pq]
              refine' twH 16 a2.out ?_
              refine' tkH 17 a2.out ?l9 ?_
              case l9=>(rintro W' ⟨hS0,hS1,hS2,hS3,hS4,hS5⟩;have hc0:=Blk.nth hS1 1;clear hS0 hS1 hS2 hS3 hS4 hS5;go_simp;try with_reducible rfl)
              refine' twH 18 a2.out ?_
              refine' twH 19 a2.out ?_
              try simp only [pq]
              refine' twH 20 a2.out ?_
              refine' tkH 21 a2.out ?m0 ?_
              case m0=>(rintro W' ⟨hS0,hS1,hS2,hS3,hS4,hS5⟩;have hc0:=Blk.nth hS0 9;clear hS0 hS1 hS2 hS3 hS4 hS5;go_simp;try with_reducible rfl)
              refine' twH 22 a2.out ?_
              refine' tkH 23 a2.out ?m1 ?_
              case m1=>(rintro W' ⟨hS0,hS1,hS2,hS3,hS4,hS5⟩;have hc_:=(rdI_at hS3 gc_).1;clear hS0 hS1 hS2 hS3 hS4 hS5;go_simp;try with_reducible rfl)
              try simp only [pq]
              refine' twH 24 a2.out ?_
              refine' tkH 25 a2.out ?m3 ?_
              case m3=>(rintro W' ⟨hS0,hS1,hS2,hS3,hS4,hS5⟩;have hc0:=Blk.nth hS1 1;clear hS0 hS1 hS2 hS3 hS4 hS5;go_simp;try with_reducible rfl)
              refine' twH 26 a2.out ?_
              refine' twH 27 a2.out ?_
              try simp only [pq]
              refine' tkH 28 a2.out ?m4 ?_
              case m4=>(rintro W' ⟨hS0,hS1,hS2,hS3,hS4,hS5⟩;have hc_:=(rdI_at hS3 gd_).1;clear hS0 hS1 hS2 hS3 hS4 hS5;go_simp;try with_reducible rfl)
              refine' twH 29 a2.out ?_
              try simp only [pq]
              refine oneH 4 rfl fun K hK=>?_
              go_simp
              go_at_call 130
              refine (HV1.out _ (c3.out)).mono ?_
              rintro e t0 ⟨rfl,rfl⟩
              dsimp only
              refine hK.out _ _ a2.out (fun _=>?_);clear hK K
              try simp only [pq]
              refine' twH 5 a2.out ?_
              refine' tkH 6 a2.out ?m5 ?_
              case m5=>(rintro W' ⟨hS0,hS1,hS2,hS3,hS4,hS5⟩;have hc_:=(rdI_at hS2 ga_).1;clear hS0 hS1 hS2 hS3 hS4 hS5;go_simp;try with_reducible rfl)
              refine' twH 15 a2.out ?_
              refine' twH 30 a2.out ?_
              try simp only [pq]
              refine' twH 31 a2.out ?_
              refine' twH 32 a2.out ?_
              refine' tkH 33 a2.out ?m6 ?_
              case m6=>(rintro W' ⟨hS0,hS1,hS2,hS3,hS4,hS5⟩;have hc0:=Blk.nth hS1 2;clear hS0 hS1 hS2 hS3 hS4 hS5;go_simp;try with_reducible rfl)
              refine' twH 34 a2.out ?_
              try simp only [pq]
              refine' twH 35 a2.out ?_
              refine' twH 39 a2.out ?_
              refine' tkH 40 a2.out ?m7 ?_
              case m7=>(rintro W' ⟨hS0,hS1,hS2,hS3,hS4,hS5⟩;have hc0:=Blk.nth hS1 2;clear hS0 hS1 hS2 hS3 hS4 hS5;go_simp;try with_reducible rfl)
              refine' twH 41 a2.out ?_
              try simp only [pq]
              refine' twH 42 a2.out ?_
              refine' twH 43 a2.out ?_
              refine' tkH 44 a2.out ?m8 ?_
              case m8=>(rintro W' ⟨hS0,hS1,hS2,hS3,hS4,hS5⟩;have hc0:=Blk.nth hS0 6;clear hS0 hS1 hS2 hS3 hS4 hS5;go_simp;try with_reducible rfl)
              refine' twH 45 a2.out ?_
              try simp only [pq]
              refine' tkH 46 a2.out ?m9 ?_
              case m9=>(rintro W' ⟨hS0,hS1,hS2,hS3,hS4,hS5⟩;have hc_:=(rdI_at hS4 gf_).1;clear hS0 hS1 hS2 hS3 hS4 hS5;go_simp;try with_reducible rfl)
              refine' twH 48 a2.out ?_
              refine' tkH 49 a2.out ?n0 ?_
              case n0=>(rintro W' ⟨hS0,hS1,hS2,hS3,hS4,hS5⟩;have hc0:=Blk.nth hS1 3;clear hS0 hS1 hS2 hS3 hS4 hS5;go_simp;try with_reducible rfl)
              refine' twH 50 a2.out ?_
              try simp only [pq]
              refine' twH 51 a2.out ?_
              refine' tkH 52 a2.out ?n1 ?_
              case n1=>(rintro W' ⟨hS0,hS1,hS2,hS3,hS4,hS5⟩;have hc_:=(rdI_at hS5 gg_).1;clear hS0 hS1 hS2 hS3 hS4 hS5;go_simp;try with_reducible rfl)
              refine' twH 53 a2.out ?_
              refine' tkH 54 a2.out ?n3 ?_
              case n3=>(rintro W' ⟨hS0,hS1,hS2,hS3,hS4,hS5⟩;have hc0:=Blk.nth hS1 3;clear hS0 hS1 hS2 hS3 hS4 hS5;go_simp;try with_reducible rfl)
              try simp only [pq]
              refine' twH 55 a2.out ?_
              refine' twH 56 a2.out ?_
              refine' twH 57 a2.out ?_
              refine' tkH 58 a2.out ?n4 ?_
              case n4=>(rintro W' ⟨hS0,hS1,hS2,hS3,hS4,hS5⟩;have hc0:=Blk.nth hS0 9;clear hS0 hS1 hS2 hS3 hS4 hS5;go_simp;try with_reducible rfl)
              try simp only [pq]
              refine' twH 59 a2.out ?_
              refine' twH 60 a2.out ?_
              refine' tkH 61 a2.out ?n5 ?_
              case n5=>(rintro W' ⟨hS0,hS1,hS2,hS3,hS4,hS5⟩;have hc_:=(rdI_at hS5 gh_).1;clear hS0 hS1 hS2 hS3 hS4 hS5;go_simp;try with_reducible rfl)
              refine' twH 62 a2.out ?_
              try simp only [pq]
              refine oneH 36 rfl fun K hK=>?_
              go_simp
              go_at_call 130
              refine (HV2.out _ (c5.out)).mono ?_
              rintro e t1 ⟨rfl,rfl⟩
              dsimp only
              refine hK.out _ _ a2.out (fun _=>?_);clear hK K
              try simp only [pq]
              refine' twH 37 a2.out ?_
              refine' tkH 38 a2.out ?n6 ?_
              case n6=>(rintro W' ⟨hS0,hS1,hS2,hS3,hS4,hS5⟩;have hc_:=(rdI_at hS4 ge_).1;clear hS0 hS1 hS2 hS3 hS4 hS5;go_simp;try with_reducible rfl)
              refine' twH 47 a2.out ?_
              refine' twH 63 a2.out ?_
              try simp only [pq]
              refine' twH 64 a2.out ?_
              try simp only [pq]
              refine wpAnyH_done (by kernel_rfl) ?_ _
              cases v2_
              · have hd2:decide (ze-zf=zg-zh)=true:=decide_eq_true (by simpa using hb2)
                go_wp2
                go_roundw
                all_goals have hrq:=HRQ.out
                case rel=>exact ⟨q+1,r+1,by omega,by omega,by go_num,by rw [ties_succ,HTI.out,HTW.out,HTT.out,hd1,hd2];rfl,c3.out,c5.out,b6.out,b7.out,b8.out,b9.out,c0.out,c1.out,c2.out⟩
                case measure=>simp [intOf];omega
              · have hd2:decide (ze-zf=zg-zh)=false:=decide_eq_false (by simpa using hb2)
                go_wp2
                go_ret
                have hrq:=HRQ.out
                exact ⟨ret_bool (ties_no (j:=q) (by show q<((p4:Int)-p3).toNat;omega) (by rw [HTT.out,hd2];simp)).symm,c2.out⟩
            · have hb1:(za-zb != zc-zd)=true:=by simpa using h1
              have hd1:decide (za-zb=zc-zd)=false:=decide_eq_false h1
              clear h1
              obtain ⟨e4,e5,e6,e7,e8,e9,f0,f1,f2,f3⟩:=at10 b6
              obtain ⟨f4,f5,f6,f7⟩:=at4 b7
              go_wp2_with fail
              clear e4 e5 e6 e7 e8 e9 f0 f1 f2 f3 f4 f5 f6 f7
              replace c3:=hid (Cl.drew (c3.out))
              replace c5:=hid (Cl.drew (c5.out))
              replace b6:=kD b6
              replace b7:=kD b7
              replace b8:=iD b8
              replace b9:=iD b9
              replace c0:=iD c0
              replace c1:=iD c1
              replace c2:=bD c2
              refine wp_region_held_drew (S:=(fun W'=>Blk W' (w.heap.size) 78 #[.int .i64 c,.slice A n k,.slice B m j,.int .i64 d,.slice C n2 k2,.slice D m2 j2,.int .i64 p1,.int .i64 p2,.int .i64 p3,.int .i64 p4]∧Blk W' (w.heap.size+1) 58 #[.slice (some ⟨ab0,ao0,none⟩) x1 k1,.slice (some ⟨ab1,ao1,none⟩) x2 k2x,.slice (some ⟨ab2,ao2,none⟩) x3 k3,.slice (some ⟨ab3,ao3,none⟩) x4 k4]∧RdI W' (some ⟨ab0,ao0,none⟩) x1 k1 xa∧RdI W' (some ⟨ab1,ao1,none⟩) x2 k2x xb∧RdI W' (some ⟨ab2,ao2,none⟩) x3 k3 ya∧RdI W' (some ⟨ab3,ao3,none⟩) x4 k4 yb)) (by kernel_rfl) ⟨b6.out,b7.out,b8.out,b9.out,c0.out,c1.out⟩ (fun _=>?_)
              obtain ⟨t2,g7⟩:∃ w',w'=(wr.drew):=⟨_,rfl⟩
              rw [← g7] at c3 c5 b6 b7 b8 b9 c0 c1 c2
              rw [← g7]
              clear g7
              have a3:=hid (And.intro b6.out (And.intro b7.out (And.intro b8.out (And.intro b9.out (And.intro c0.out c1.out)))))
              refine' twH 0 a3.out ?_
              refine' tkH 1 a3.out ?n7 ?_
              case n7=>(rintro W' ⟨hS0,hS1,hS2,hS3,hS4,hS5⟩;have hc0:=Blk.nth hS1 0;clear hS0 hS1 hS2 hS3 hS4 hS5;go_simp;try with_reducible rfl)
              refine' twH 2 a3.out ?_
              refine' twH 3 a3.out ?_
              try simp only [pq]
              refine' twH 7 a3.out ?_
              refine' tkH 8 a3.out ?n8 ?_
              case n8=>(rintro W' ⟨hS0,hS1,hS2,hS3,hS4,hS5⟩;have hc0:=Blk.nth hS1 0;clear hS0 hS1 hS2 hS3 hS4 hS5;go_simp;try with_reducible rfl)
              refine' twH 9 a3.out ?_
              refine' twH 10 a3.out ?_
              try simp only [pq]
              refine' twH 11 a3.out ?_
              refine' tkH 12 a3.out ?n9 ?_
              case n9=>(rintro W' ⟨hS0,hS1,hS2,hS3,hS4,hS5⟩;have hc0:=Blk.nth hS0 6;clear hS0 hS1 hS2 hS3 hS4 hS5;go_simp;try with_reducible rfl)
              refine' twH 13 a3.out ?_
              refine' tkH 14 a3.out ?o0 ?_
              case o0=>(rintro W' ⟨hS0,hS1,hS2,hS3,hS4,hS5⟩;have hc_:=(rdI_at hS2 gb_).1;clear hS0 hS1 hS2 hS3 hS4 hS5;go_simp;try with_reducible rfl)
              try simp only [pq]
              refine' twH 16 a3.out ?_
              refine' tkH 17 a3.out ?o1 ?_
              case o1=>(rintro W' ⟨hS0,hS1,hS2,hS3,hS4,hS5⟩;have hc0:=Blk.nth hS1 1;clear hS0 hS1 hS2 hS3 hS4 hS5;go_simp;try with_reducible rfl)
              refine' twH 18 a3.out ?_
              refine' twH 19 a3.out ?_
              try simp only [pq]
              refine' twH 20 a3.out ?_
              refine' tkH 21 a3.out ?o2 ?_
              case o2=>(rintro W' ⟨hS0,hS1,hS2,hS3,hS4,hS5⟩;have hc0:=Blk.nth hS0 9;clear hS0 hS1 hS2 hS3 hS4 hS5;go_simp;try with_reducible rfl)
              refine' twH 22 a3.out ?_
              refine' tkH 23 a3.out ?o3 ?_
              case o3=>(rintro W' ⟨hS0,hS1,hS2,hS3,hS4,hS5⟩;have hc_:=(rdI_at hS3 gc_).1;clear hS0 hS1 hS2 hS3 hS4 hS5;go_simp;try with_reducible rfl)
              try simp only [pq]
              refine' twH 24 a3.out ?_
              refine' tkH 25 a3.out ?o4 ?_
              case o4=>(rintro W' ⟨hS0,hS1,hS2,hS3,hS4,hS5⟩;have hc0:=Blk.nth hS1 1;clear hS0 hS1 hS2 hS3 hS4 hS5;go_simp;try with_reducible rfl)
              refine' twH 26 a3.out ?_
              refine' twH 27 a3.out ?_
              try simp only [pq]
              refine' tkH 28 a3.out ?o5 ?_
              case o5=>(rintro W' ⟨hS0,hS1,hS2,hS3,hS4,hS5⟩;have hc_:=(rdI_at hS3 gd_).1;clear hS0 hS1 hS2 hS3 hS4 hS5;go_simp;try with_reducible rfl)
              refine' twH 29 a3.out ?_
              try simp only [pq]
              refine oneH 4 rfl fun K hK=>?_
              go_simp
              go_at_call 130
              refine (HV1.out _ (c3.out)).mono ?_
              rintro e t3 ⟨rfl,rfl⟩
              dsimp only
              refine hK.out _ _ a3.out (fun _=>?_);clear hK K
              try simp only [pq]
              refine' twH 5 a3.out ?_
              refine' tkH 6 a3.out ?o6 ?_
              case o6=>(rintro W' ⟨hS0,hS1,hS2,hS3,hS4,hS5⟩;have hc_:=(rdI_at hS2 ga_).1;clear hS0 hS1 hS2 hS3 hS4 hS5;go_simp;try with_reducible rfl)
              refine' twH 15 a3.out ?_
              refine' twH 30 a3.out ?_
              try simp only [pq]
              refine' twH 31 a3.out ?_
              refine' tkNH 32 a3.out ?_
              refine' tkNH 33 a3.out ?_
              refine' tkNH 34 a3.out ?_
              try simp only [pq]
              refine' tkNH 35 a3.out ?_
              refine' tkNH 36 a3.out ?_
              refine' tkNH 37 a3.out ?_
              refine' tkNH 38 a3.out ?_
              try simp only [pq]
              refine' tkNH 39 a3.out ?_
              refine' tkNH 40 a3.out ?_
              refine' tkNH 41 a3.out ?_
              refine' tkNH 42 a3.out ?_
              try simp only [pq]
              refine' tkNH 43 a3.out ?_
              refine' tkNH 44 a3.out ?_
              refine' tkNH 45 a3.out ?_
              refine' tkNH 46 a3.out ?_
              try simp only [pq]
              refine' tkNH 47 a3.out ?_
              refine' tkNH 48 a3.out ?_
              refine' tkNH 49 a3.out ?_
              refine' tkNH 50 a3.out ?_
              try simp only [pq]
              refine' tkNH 51 a3.out ?_
              refine' tkNH 52 a3.out ?_
              refine' tkNH 53 a3.out ?_
              refine' tkNH 54 a3.out ?_
              try simp only [pq]
              refine' tkNH 55 a3.out ?_
              refine' tkNH 56 a3.out ?_
              refine' tkNH 57 a3.out ?_
              refine' tkNH 58 a3.out ?_
              try simp only [pq]
              refine' tkNH 59 a3.out ?_
              refine' tkNH 60 a3.out ?_
              refine' tkNH 61 a3.out ?_
              refine' tkNH 62 a3.out ?_
              try simp only [pq]
              refine' tkNH 63 a3.out ?_
              refine' twH 64 a3.out ?_
              try simp only [pq]
              refine wpAnyH_done (by kernel_rfl) ?_ _
              go_wp2
              go_ret
              have hrq:=HRQ.out
              exact ⟨ret_bool (ties_no (j:=q) (by show q<((p4:Int)-p3).toNat;omega) (by rw [HTW.out,hd1];simp)).symm,c2.out⟩
          · have hqe:p4-p3=q:=by omega
            have hnl:¬ (r:Int)<(p4:Int):=by omega
            have HQE:=hid hqe;clear hqe
            obtain ⟨o8,o9,p0,p6,p7,p8,p9,q0,q1,q2⟩:=at10 b6
            obtain ⟨q3,q4,q5,q6⟩:=at4 b7
            go_wp2
            go_ret
            exact ⟨ret_bool (by have h:=HTI.out;rw [← HQE.out] at h;first|exact h.symm|simpa using h.symm),c2.out⟩
end Go.Proofs.YtebkniakflhhkaaGreatDoor
