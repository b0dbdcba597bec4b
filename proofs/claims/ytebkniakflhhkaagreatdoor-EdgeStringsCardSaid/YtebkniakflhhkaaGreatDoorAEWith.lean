import Derived.Test.YtebkniakflhhkaaGreatDoorProg
import Derived.Deep.DeepCutAuto
import Derived.Deep.OwnRows
import Derived.Deep.RegionHeld3
import Derived.Deep.WholeRow
import Derived.Great.BuildSlice
import Derived.Laws.AppendOwnNone
import Derived.Lib.Hide
import Derived.Lib.SmallJoins
import Derived.Maps.OwnIn
import Derived.RangeFuncNested
import Derived.Shelf.SlIterI.Nil
import Derived.Shelf.Slices.Reverse
import Derived.Shelf.SortM.Plain
import Derived.Shelf.SortM.SortNone
import Derived.Sort.OwnSortedInts
import Derived.WalkLawsBesides
import Derived.WalkSpells
import Derived.Test.YtebkniakflhhkaaGreatDoorAESols
import Derived.Test.YtebkniakflhhkaaGreatDoorAEPlaces
set_option maxHeartbeats 4000000
set_option linter.unusedSimpArgs false
set_option linter.unusedVariables false
namespace Go.Proofs.YtebkniakflhhkaaGreatDoor
open Go.Lib (hid)
open Go.RowKit
theorem own_far {w:World} {base:Nat} {e:TypeId} {size:Nat} {v:Value} {n:Nat} {xs:List Value} (h:w.ownsRow base e size v n xs) {a:Addr} (ha:v.ownBlock=some a.block→False) (u:Value):(w.setCell a u).ownsRow base e size v n xs:=by
 refine ⟨h.1,?_⟩
 rcases h.2 with h0|⟨g,cap,cur,hv,hb,hg,r⟩
 · exact .inl h0
 · refine .inr ⟨g,cap,cur,hv,hb,?_,r⟩
   rw [heap_setCell_other _ _ _ _ (fun e=>ha (by rw [hv,← e];rfl))]
   exact hg
def checkPlaceV (a b:Otl) (p:Prg) (xa xb ya yb:List Int):Bool × Int:=if asked a b p=0 then (plB a b p xa xb ya yb,0) else (false,asked a b p)
set_option maxRecDepth 100000 in
theorem isPlacement_is (c:Int) (A B:Option Addr) (n k m j:Nat) (ws ts:List Bnd) (d:Int) (C D:Option Addr) (n2 k2 m2 j2:Nat) (ws2 ts2:List Bnd) (p1 p2 p3 p4:Int) (X1:Option Addr) (x1 k1:Nat) (xa:List Int) (X2:Option Addr) (x2 k2x:Nat) (xb:List Int) (X3:Option Addr) (x3 k3:Nat) (ya:List Int) (X4:Option Addr) (x4 k4:Nat) (yb:List Int) (w:World) (h1:RdB w A n k ws) (h2:RdB w B m j ts) (hn:n≤maxLen) (hm:m≤maxLen) (h3:RdB w C n2 k2 ws2) (h4:RdB w D m2 j2 ts2) (hn2:n2≤maxLen) (hm2:m2≤maxLen) (hx0:RdI w X1 x1 k1 xa) (hl0:x1≤maxLen) (hx1:RdI w X2 x2 k2x xb) (hl1:x2≤maxLen) (hx2:RdI w X3 x3 k3 ya) (hl2:x3≤maxLen) (hx3:RdI w X4 x4 k4 yb) (hl3:x4≤maxLen) (hq:chkP ⟨c,ws,ts⟩ ⟨d,ws2,ts2⟩ ⟨p1,p2,p3,p4⟩=0) :
 Calls Tryz.prog 45 #[.agg #[.int .i64 c,.slice A n k,.slice B m j,.int .i64 d,.slice C n2 k2,.slice D m2 j2,.int .i64 p1,.int .i64 p2,.int .i64 p3,.int .i64 p4],.agg #[.slice X1 x1 k1,.slice X2 x2 k2x,.slice X3 x3 k3,.slice X4 x4 k4]] w fun e w'=>e=.returned (.bool (plB ⟨c,ws,ts⟩ ⟨d,ws2,ts2⟩ ⟨p1,p2,p3,p4⟩ xa xb ya yb))∧Below w.heap.size w w':=by
 obtain ⟨oa,ob,sa,sb,hk⟩:=chkP_ok hq
 dsimp only at sa sb hk
 obtain ⟨q1,rfl⟩:=Int.eq_ofNat_of_zero_le sa.1
 obtain ⟨q2,rfl⟩:=Int.eq_ofNat_of_zero_le (show 0≤p2 by omega)
 obtain ⟨q3,rfl⟩:=Int.eq_ofNat_of_zero_le sb.1
 obtain ⟨q4,rfl⟩:=Int.eq_ofNat_of_zero_le (show 0≤p4 by omega)
 exact isPlacement_any c A B n k m j ws ts d C D n2 k2 m2 j2 ws2 ts2 q1 q2 q3 q4 X1 x1 k1 xa X2 x2 k2x xb X3 x3 k3 ya X4 x4 k4 yb w h1 h2 hn hm h3 h4 hn2 hm2 hx0 hl0 hx1 hl1 hx2 hl2 hx3 hl3 hq
set_option maxRecDepth 100000 in
theorem CheckPlace_any (c:Int) (A B:Option Addr) (n k m j:Nat) (ws ts:List Bnd) (d:Int) (C D:Option Addr) (n2 k2 m2 j2:Nat) (ws2 ts2:List Bnd) (p1 p2 p3 p4:Int) (w:World) (h1:RdB w A n k ws) (h2:RdB w B m j ts) (hn:n≤maxLen) (hm:m≤maxLen) (h3:RdB w C n2 k2 ws2) (h4:RdB w D m2 j2 ts2) (hn2:n2≤maxLen) (hm2:m2≤maxLen) (X1:Option Addr) (x1 k1:Nat) (xa:List Int) (X2:Option Addr) (x2 k2x:Nat) (xb:List Int) (X3:Option Addr) (x3 k3:Nat) (ya:List Int) (X4:Option Addr) (x4 k4:Nat) (yb:List Int) (hx0:RdI w X1 x1 k1 xa) (hl0:x1≤maxLen) (hx1:RdI w X2 x2 k2x xb) (hl1:x2≤maxLen) (hx2:RdI w X3 x3 k3 ya) (hl2:x3≤maxLen) (hx3:RdI w X4 x4 k4 yb) (hl3:x4≤maxLen):Calls Tryz.prog 18 #[.agg #[.int .i64 c,.slice A n k,.slice B m j],.agg #[.int .i64 d,.slice C n2 k2,.slice D m2 j2],.agg #[.int .i64 p1,.int .i64 p2,.int .i64 p3,.int .i64 p4],.agg #[.slice X1 x1 k1,.slice X2 x2 k2x,.slice X3 x3 k3,.slice X4 x4 k4]] w fun e w'=>e=.returned (.tuple #[.bool (checkPlaceV ⟨c,ws,ts⟩ ⟨d,ws2,ts2⟩ ⟨p1,p2,p3,p4⟩ xa xb ya yb).1,.int .i64 (checkPlaceV ⟨c,ws,ts⟩ ⟨d,ws2,ts2⟩ ⟨p1,p2,p3,p4⟩ xa xb ya yb).2])∧Below w.heap.size w w':=by
 unfold checkPlaceV
 by_cases hq:asked ⟨c,ws,ts⟩ ⟨d,ws2,ts2⟩ ⟨p1,p2,p3,p4⟩=0
 · rw [if_pos hq]
   have HQ1:=hid (asked_ok hq).1
   go_enter Tryz.func18,Tryz.ntmps18
   obtain ⟨a2,a3,a4,a5,a1⟩:=ent4 w #[.int .i64 c,.slice A n k,.slice B m j] 35 #[.int .i64 d,.slice C n2 k2,.slice D m2 j2] 35 #[.int .i64 p1,.int .i64 p2,.int .i64 p3,.int .i64 p4] 25 #[.slice X1 x1 k1,.slice X2 x2 k2x,.slice X3 x3 k3,.slice X4 x4 k4] 58
   have a6:=rI h1 a1
   have a7:=rI h2 a1
   have a8:=rI h3 a1
   have a9:=rI h4 a1
   have b0:=iI hx0 a1
   have b1:=iI hx1 a1
   have b2:=iI hx2 a1
   have b3:=iI hx3 a1
   clear h1 h2 h3 h4 hx0 hx1 hx2 hx3
   obtain ⟨b5,b6,b7⟩:=at3 a2
   obtain ⟨b8,b9,c0⟩:=at3 a3
   obtain ⟨c1,c2,c3,c4⟩:=at4 a4
   obtain ⟨c5,c6,c7,c8⟩:=at4 a5
   have hc:=pairOf_yes c A B n k m j ws ts d C D n2 k2 m2 j2 ws2 ts2 p1 p2 p3 p4 _ a6.out a7.out hn hm a8.out a9.out hn2 hm2 hq
   have HC:=hid hc;clear hc
   go_wp2_with fail
   refine HC.out.mono ?_
   rintro e c9 ⟨rfl,hb⟩
   clear HC
   clear b5 b6 b7 b8 b9 c0 c1 c2 c3 c4 c5 c6 c7 c8
   have a0:=hid hb
   clear hb
   replace a2:=kH a2 a0
   obtain ⟨d0,d1,d2⟩:=at3 a2
   replace a3:=kH a3 a0
   obtain ⟨d3,d4,d5⟩:=at3 a3
   replace a4:=kH a4 a0
   obtain ⟨d6,d7,d8,d9⟩:=at4 a4
   replace a5:=kH a5 a0
   obtain ⟨e0,e1,e2,e3⟩:=at4 a5
   clear d0 d1 d2 d3 d4 d5 d6 d7 d8 d9 e0 e1 e2 e3
   obtain ⟨o_,ho_⟩:∃ o,o=((.cells #[.int .i64 c,.slice A n k,.slice B m j,.int .i64 d,.slice C n2 k2,.slice D m2 j2,.int .i64 p1,.int .i64 p2,.int .i64 p3,.int .i64 p4] 78):Obj):=⟨_,rfl⟩
   replace a1:=bA (bH a1 a0) o_
   replace a6:=rA (rH a6 a0) o_
   replace a7:=rA (rH a7 a0) o_
   replace a8:=rA (rH a8 a0) o_
   replace a9:=rA (rH a9 a0) o_
   replace b0:=iA (iH b0 a0) o_
   replace b1:=iA (iH b1 a0) o_
   replace b2:=iA (iH b2 a0) o_
   replace b3:=iA (iH b3 a0) o_
   replace a2:=kA a2 o_
   replace a3:=kA a3 o_
   replace a4:=kA a4 o_
   replace a5:=kA a5 o_
   subst ho_
   have b4:=hid (Blk.new c9 78 #[.int .i64 c,.slice A n k,.slice B m j,.int .i64 d,.slice C n2 k2,.slice D m2 j2,.int .i64 p1,.int .i64 p2,.int .i64 p3,.int .i64 p4])
   obtain ⟨e4,e5,e6⟩:=at3 a2
   obtain ⟨e7,e8,e9⟩:=at3 a3
   obtain ⟨f0,f1,f2,f3⟩:=at4 a4
   obtain ⟨f4,f5,f6,f7⟩:=at4 a5
   obtain ⟨f8,f9,g0,g1,g2,g3,g4,g5,g6,g7⟩:=at10 b4
   have hc:=isPlacement_is c A B n k m j ws ts d C D n2 k2 m2 j2 ws2 ts2 p1 p2 p3 p4 X1 x1 k1 xa X2 x2 k2x xb X3 x3 k3 ya X4 x4 k4 yb _ a6.out a7.out hn hm a8.out a9.out hn2 hm2 b0.out hl0 b1.out hl1 b2.out hl2 b3.out hl3 HQ1.out
   have HC:=hid hc;clear hc
   go_wp2_with fail
   refine HC.out.mono ?_
   rintro e g9 ⟨rfl,hb⟩
   clear HC
   clear e4 e5 e6 e7 e8 e9 f0 f1 f2 f3 f4 f5 f6 f7 f8 f9 g0 g1 g2 g3 g4 g5 g6 g7
   have g8:=hid hb
   clear hb
   go_wp2
   go_ret2
   replace a1:=bH a1 g8
   exact ⟨rfl,a1.out⟩
 · rw [if_neg hq]
   obtain ⟨q,hq2⟩:∃ q,asked ⟨c,ws,ts⟩ ⟨d,ws2,ts2⟩ ⟨p1,p2,p3,p4⟩=q:=⟨_,rfl⟩
   rw [hq2] at hq
   rw [hq2]
   have hne:=hq
   have hqe:(q == 0)=false:=by simpa using hq
   clear hq
   have hq:=hq2;clear hq2
   dsimp only
   go_enter Tryz.func18,Tryz.ntmps18
   obtain ⟨a2,a3,a4,a5,a1⟩:=ent4 w #[.int .i64 c,.slice A n k,.slice B m j] 35 #[.int .i64 d,.slice C n2 k2,.slice D m2 j2] 35 #[.int .i64 p1,.int .i64 p2,.int .i64 p3,.int .i64 p4] 25 #[.slice X1 x1 k1,.slice X2 x2 k2x,.slice X3 x3 k3,.slice X4 x4 k4] 58
   have a6:=rI h1 a1
   have a7:=rI h2 a1
   have a8:=rI h3 a1
   have a9:=rI h4 a1
   have b0:=iI hx0 a1
   have b1:=iI hx1 a1
   have b2:=iI hx2 a1
   have b3:=iI hx3 a1
   clear h1 h2 h3 h4 hx0 hx1 hx2 hx3
   obtain ⟨b5,b6,b7⟩:=at3 a2
   obtain ⟨b8,b9,c0⟩:=at3 a3
   obtain ⟨c1,c2,c3,c4⟩:=at4 a4
   obtain ⟨c5,c6,c7,c8⟩:=at4 a5
   have hc:=pairOf_no c A B n k m j ws ts d C D n2 k2 m2 j2 ws2 ts2 p1 p2 p3 p4 _ a6.out a7.out hn hm a8.out a9.out hn2 hm2 q hq hne
   have HC:=hid hc;clear hc
   go_wp2_with fail
   refine HC.out.mono ?_
   rintro e c9 ⟨rfl,hb⟩
   clear HC
   clear b5 b6 b7 b8 b9 c0 c1 c2 c3 c4 c5 c6 c7 c8
   have a0:=hid hb
   clear hb
   replace a2:=kH a2 a0
   obtain ⟨d0,d1,d2⟩:=at3 a2
   replace a3:=kH a3 a0
   obtain ⟨d3,d4,d5⟩:=at3 a3
   replace a4:=kH a4 a0
   obtain ⟨d6,d7,d8,d9⟩:=at4 a4
   replace a5:=kH a5 a0
   obtain ⟨e0,e1,e2,e3⟩:=at4 a5
   clear d0 d1 d2 d3 d4 d5 d6 d7 d8 d9 e0 e1 e2 e3
   obtain ⟨o_,ho_⟩:∃ o,o=((.cells #[.int .i64 0,.slice none 0 0,.slice none 0 0,.int .i64 0,.slice none 0 0,.slice none 0 0,.int .i64 0,.int .i64 0,.int .i64 0,.int .i64 0] 78):Obj):=⟨_,rfl⟩
   replace a1:=bA (bH a1 a0) o_
   replace a6:=rA (rH a6 a0) o_
   replace a7:=rA (rH a7 a0) o_
   replace a8:=rA (rH a8 a0) o_
   replace a9:=rA (rH a9 a0) o_
   replace b0:=iA (iH b0 a0) o_
   replace b1:=iA (iH b1 a0) o_
   replace b2:=iA (iH b2 a0) o_
   replace b3:=iA (iH b3 a0) o_
   replace a2:=kA a2 o_
   replace a3:=kA a3 o_
   replace a4:=kA a4 o_
   replace a5:=kA a5 o_
   subst ho_
   have b4:=hid (Blk.new c9 78 #[.int .i64 0,.slice none 0 0,.slice none 0 0,.int .i64 0,.slice none 0 0,.slice none 0 0,.int .i64 0,.int .i64 0,.int .i64 0,.int .i64 0])
   obtain ⟨e4,e5,e6⟩:=at3 a2
   obtain ⟨e7,e8,e9⟩:=at3 a3
   obtain ⟨f0,f1,f2,f3⟩:=at4 a4
   obtain ⟨f4,f5,f6,f7⟩:=at4 a5
   obtain ⟨f8,f9,g0,g1,g2,g3,g4,g5,g6,g7⟩:=at10 b4
   go_wp2
   go_ret2
   exact ⟨rfl,(by have hsz_:=Below.size a1.out;repeat' (first|with_reducible exact a1.out|with_reducible exact Below.refl _ _|with_reducible refine Below.alloc ?_ ?_ _|with_reducible refine Below.setCell ?_ ?_ _|with_reducible refine Below.drew ?_|with_reducible refine below_setRow ?_ ?_ _|omega | (simp;done) | (simp;omega)))⟩
def withO (u:Bool) (a:Otl) (x:Bnd):Otl:=if u then ⟨a.c,a.ws,a.ts++[x]⟩ else ⟨a.c,a.ws++[x],a.ts⟩
def withE (u:Bool) (a:Otl) (x:Bnd):Int:=if chkO a≠0 then chkO a else chkO (withO u a x)
def RetO (q:Int) (o:Otl) (w:World) (e:Ending) (w':World):Prop :=
 ∃ A n k B m j,e=.returned (.tuple #[.agg #[.int .i64 (if q=0 then o.c else 0),.slice A n k,.slice B m j],.int .i64 q])∧RdB w' A n k (if q=0 then o.ws else [])∧RdB w' B m j (if q=0 then o.ts else [])∧n≤maxLen∧m≤maxLen∧Below w.heap.size w w'
theorem OwnsX.gt {w:World} {base:Nat} {e:TypeId} {size:Nat} {A:Option Addr} {n c:Nat} {xs:List Value} (h:OwnsX w base e size (.slice A n c) n xs) {k:Nat} (hk:k<base) (hc:c≠0):(Value.slice A n c).ownBlock≠some k:=by
 intro he
 rcases h.either with ⟨-,h⟩|⟨-,h,-⟩
 · have:=(h.lt k he).1;omega
 · exact hc h
theorem OwnsX.far {w:World} {base:Nat} {e:TypeId} {size:Nat} {A:Option Addr} {n c:Nat} {xs:List Value} (h:OwnsX w base e size (.slice A n c) n xs) {a:Addr} (ha:c≠0→(Value.slice A n c).ownBlock≠some a.block) (u:Value):OwnsX (w.setCell a u) base e size (.slice A n c) n xs:=by
 rcases h.either with ⟨hc,h⟩|⟨h1,h2,h3⟩
 · exact .inl (own_far h (ha hc) u)
 · subst h1 h2 h3
   exact .inr ⟨A,rfl,rfl,rfl⟩
theorem OwnsX.apart {w w':World} {b1:Nat} {e:TypeId} {size:Nat} {A B:Option Addr} {n c m d:Nat} {xs ys:List Value} (h1:OwnsX w b1 e size (.slice A n c) n xs) (h2:OwnsX w' w.heap.size e size (.slice B m d) m ys) :
 ∀ b o,B=some ⟨b,o,none⟩→m≠0→c≠0→(Value.slice A n c).ownBlock≠some b:=by
 intro b o hB hm hc he
 rcases h1.either with ⟨-,h1⟩|⟨-,h1,-⟩
 · have i1:=(h1.lt b he).2
   rcases h2.either with ⟨-,h2⟩|⟨h2,-,-⟩
   · subst hB
     have:=(h2.lt b rfl).1
     omega
   · exact hm h2
 · exact hc h1
theorem OwnsX.apart' {w w':World} {b1:Nat} {e:TypeId} {size:Nat} {A B:Option Addr} {n c m d:Nat} {xs ys:List Value} (h1:OwnsX w b1 e size (.slice A n c) n xs) (h2:OwnsX w' w.heap.size e size (.slice B m d) m ys) :
 ∀ b o,A=some ⟨b,o,none⟩→n≠0→d≠0→(Value.slice B m d).ownBlock≠some b:=by
 intro b o hA hn hd he
 rcases h2.either with ⟨-,h2⟩|⟨-,h2,-⟩
 · have i1:=(h2.lt b he).1
   rcases h1.either with ⟨-,h1⟩|⟨h1,-,-⟩
   · subst hA
     have:=(h1.lt b rfl).2
     omega
   · exact hn h1
 · exact hd h2
theorem rdB_setN {w:World} {A:Option Addr} {n c:Nat} {l:List Bnd} (h:RdB w A n c l) (a:Addr) (u:Value) {t:TypeId} {cs:Array Value} (hb:Blk w a.block t cs) (hn:∀ (j:Nat) (x:Int),cs[j+1]?≠some (.int .i64 x)):RdB (w.setCell a u) A n c l:=by
 refine ⟨h.len,h.cap,h.nil,?_⟩
 rcases h.cells with h0|⟨k,o,e,hlt,hj⟩
 · exact .inl h0
 · refine .inr ⟨k,o,e,by rw [show (w.setCell a u).heap.size=w.heap.size by simp];exact hlt,fun j q hq=>?_⟩
   by_cases hbb:k=a.block
   · exfalso
     subst hbb
     cases l with
     | nil=>simp [bcells] at hq
     | cons y l =>
      have h2:=hj 1 (.int .i64 y.t) (by simp [bcells,Bnd.cells])
      rw [hb.cell] at h2
      exact hn o y.t h2
   · rw [World.cell?_of_block (a:=⟨k,o+j,none⟩) (heap_setCell_other w a k u hbb)]
     exact hj j q hq
theorem rdB_far {w w':World} {A S:Option Addr} {n c m d:Nat} {l:List Bnd} (h:RdB w A n c l) (hk:∀ k,k<w.heap.size→(d≠0→(Value.slice S m d).ownBlock≠some k)→w'.heap[k]?=w.heap[k]?)
 (hf:∀ b o,A=some ⟨b,o,none⟩→n≠0→d≠0→(Value.slice S m d).ownBlock≠some b) (hs:w.heap.size≤w'.heap.size):RdB w' A n c l:=by
 refine ⟨h.len,h.cap,h.nil,?_⟩
 rcases h.cells with h0|⟨b,o,e,hlt,hj⟩
 · exact .inl h0
 · by_cases hn:n=0
   · left
     have:=h.len
     rw [hn] at this
     rw [List.length_eq_zero_iff.1 this]
     rfl
   · refine .inr ⟨b,o,e,Nat.lt_of_lt_of_le hlt hs,fun j u hu=>?_⟩
     rw [World.cell?_of_block (a:=⟨b,o+j,none⟩) (hk b hlt (hf b o e hn))]
     exact hj j u hu
set_option maxRecDepth 100000 in
theorem With_ok1 (c:Int) (A B:Option Addr) (n k m j:Nat) (ws ts:List Bnd) (w:World) (h1:RdB w A n k ws) (h2:RdB w B m j ts) (hn:n≤maxLen) (hm:m≤maxLen) (f t mm ib:Int) (E1:Hid (chkO ⟨c,ws,ts⟩=0)) (q:Int) (E2:Hid (chkO ⟨c,ws,ts++[⟨f,t,mm,ib⟩]⟩=q)) :
 Calls Tryz.prog 16 #[.agg #[.int .i64 c,.slice A n k,.slice B m j],.bool true,.agg #[.int .i64 f,.int .i64 t,.int .i64 mm,.int .i64 ib]] w (RetO q (withO true ⟨c,ws,ts⟩ ⟨f,t,mm,ib⟩) w):=by
 obtain ⟨i0,hi0,hz0,hz1,hz2⟩:=info_parts infoB
 have HI:=hid hi0;have HZ0:=hid hz0;have HZ1:=hid hz1;have HZ2:=hid hz2;clear hi0 hz0 hz1 hz2
 obtain ⟨-,-,g3,g4⟩:=chkO_ok E1.out
 have HL1:=hid (chk_ok g3).2.2.1;have HL2:=hid (chk_ok g4).2.2.1;clear g3 g4
 have HN4:=hid (rdB_len h1 HL1.out);have HM4:=hid (rdB_len h2 HL2.out)
 go_enter Tryz.func16,Tryz.ntmps16
 obtain ⟨a0,a4,a1,a2⟩:=ent3 w #[.int .i64 c,.slice A n k,.slice B m j] 35 #[.int .i64 f,.int .i64 t,.int .i64 mm,.int .i64 ib] 50 #[.int .i64 0,.slice none 0 0,.slice none 0 0] 35
 have a5:=rI h1 a2
 have a3:=rI h2 a2
 clear h1 h2
 obtain ⟨n7,n8,n9⟩:=at3 a0
 obtain ⟨j8,j9,k0,l0⟩:=at4 a4
 obtain ⟨l1,l2,l3⟩:=at3 a1
 have hc:=CheckOutline_any c A B n k m j ws ts _ a5.out a3.out hn hm
 rw [E1.out] at hc
 try dsimp only at hc
 have HC:=hid hc;clear hc
 go_wp2_with fail
 refine HC.out.mono ?_
 rintro e l4 ⟨rfl,hb⟩
 clear HC
 clear n7 n8 n9 j8 j9 k0 l0 l1 l2 l3
 have c1:=hid hb
 clear hb
 replace a0:=kH a0 c1
 obtain ⟨l5,l6,l7⟩:=at3 a0
 replace a4:=kH a4 c1
 obtain ⟨l8,l9,m0,m1⟩:=at4 a4
 replace a1:=kH a1 c1
 obtain ⟨m2,m3,m4⟩:=at3 a1
 go_wp2_with fail
 clear l5 l6 l7 l8 l9 m0 m1 m2 m3 m4
 replace a2:=bH a2 c1
 replace a5:=rH a5 c1
 replace a3:=rH a3 c1
 obtain ⟨w1,hW⟩:∃ w',w'=l4:=⟨_,rfl⟩
 rw [← hW] at a2 a5 a3 a0 a4 a1
 rw [← hW]
 clear hW
 go_cut [9] from 17 to 25 (fun s9 wx=>∃ (gq:Nat) (Ac:Option Addr) (cc:Nat) (Bc:Option Addr) (dc:Nat),s9=.pointer (some ⟨gq,0,none⟩)∧OwnsX wx (w.heap.size+1+1+1) 50 4 (.slice Ac n cc) n (bcells ws)∧OwnsX wx (w.heap.size+1+1+1) 50 4 (.slice Bc m dc) m (bcells ts)∧Blk wx gq 35 #[.int .i64 c,.slice Ac n cc,.slice Bc m dc]∧Blk wx (w.heap.size+1+1) 35 #[.int .i64 0,.slice none 0 0,.slice none 0 0]∧Blk wx (w.heap.size+1) 50 #[.int .i64 f,.int .i64 t,.int .i64 mm,.int .i64 ib]∧Below w.heap.size w wx∧(cc≠0→(Value.slice Ac n cc).ownBlock≠some gq)∧(dc≠0→(Value.slice Bc m dc).ownBlock≠some gq)∧(∀ b o,Bc=some ⟨b,o,none⟩→m≠0→cc≠0→(Value.slice Ac n cc).ownBlock≠some b)∧(∀ b o,Ac=some ⟨b,o,none⟩→n≠0→dc≠0→(Value.slice Bc m dc).ownBlock≠some b)∧w.heap.size+1+1≠gq∧w.heap.size≤gq)
 case first =>
  replace a2:=bD a2
  replace a5:=rD a5
  replace a3:=rD a3
  replace a0:=kD a0
  replace a4:=kD a4
  replace a1:=kD a1
  refine wp_region_held_drew (S:=(fun W'=>Blk W' (w.heap.size) 35 #[.int .i64 c,.slice A n k,.slice B m j])) (by kernel_rfl) a0.out (fun _=>?_)
  obtain ⟨f1,e2⟩:∃ w',w'=(w1.drew):=⟨_,rfl⟩
  rw [← e2] at a2 a5 a3 a0 a4 a1
  rw [← e2]
  clear e2
  refine' twH 0 a0.out ?_
  refine' tkH 1 a0.out ?g7 ?_
  case g7=>(rintro W' hS0;have hc0:=Blk.nth hS0 0;clear hS0;go_simp;try with_reducible rfl)
  refine' twH 2 a0.out ?_
  refine' tkH 3 a0.out ?g8 ?_
  case g8=>(rintro W' hS0;have hc0:=Blk.nth hS0 1;clear hS0;go_simp;try with_reducible rfl)
  try simp only [pq]
  refine' twH 5 a0.out ?_
  refine' tkH 6 a0.out ?g9 ?_
  case g9=>(rintro W' hS0;have hc0:=Blk.nth hS0 2;clear hS0;go_simp;try with_reducible rfl)
  try simp only [pq]
  refine wpAnyH_ready (rs:=[4,9]) (by kernel_rfl) (by simp) ?_
  refine rdH rfl (fun K hK=>?_) ?_
  · -- 4: call
   have hn4_:n≤400:=by have h:=HL1.out;have h2:=(a5.out).len;omega
   go_simp
   go_at_call 42
   refine (ecopied_any A n k ws _ a5.out hn4_).mono ?_
   rintro e f2 ⟨Ac,cc,rfl,hox1,b2⟩
   dsimp only
   have hox1:=OwnsX.base hox1 (show w.heap.size+1+1+1≤_ from Nat.succ_le_of_lt (Blk.lt (a1.out)))
   replace b2:=hid b2
   have a6:=hid (hox1)
   clear hox1
   replace a0:=kH a0 b2
   refine hK.out _ _ a0.out (fun _=>?_);clear hK K
   try simp only [pq]
   refine wpAnyH_ready (rs:=[7,9]) (by kernel_rfl) (by simp) ?_
   refine rdH rfl (fun K hK=>?_) ?_
   · -- 7: call
    replace a3:=rH a3 b2
    replace a1:=kH a1 b2
    have hm4_:m≤400:=by have h:=HL2.out;have h2:=(a3.out).len;omega
    go_simp
    go_at_call 42
    refine (ecopied_any B m j ts _ a3.out hm4_).mono ?_
    rintro e f3 ⟨Bc,dc,rfl,hox2,b6⟩
    dsimp only
    have HD12:=hid (OwnsX.apart (a6.out) hox2);have HD21:=hid (OwnsX.apart' (a6.out) hox2)
    have hox2:=OwnsX.base hox2 (show w.heap.size+1+1+1≤_ from Nat.succ_le_of_lt (Blk.lt (a1.out)))
    replace b6:=hid b6
    have b9:=hid (hox2)
    clear hox2
    replace a0:=kH a0 b6
    refine hK.out _ _ a0.out (fun _=>?_);clear hK K
    try simp only [pq]
    refine' twH 8 a0.out ?_
    try simp only [pq]
    refine oneH 9 rfl fun K hK=>?_
    replace a6:=hid (OwnsX.below (a6.out) b6.out)
    replace a2:=bH (bH a2 b2) b6
    replace a5:=rH (rH a5 b2) b6
    replace a3:=rH a3 b6
    replace a4:=kH (kH a4 b2) b6
    replace a1:=kH a1 b6
    go_simp
    have hne1_:=OwnsX.ne (a6.out) (Nat.le_refl _)
    have hne2_:=OwnsX.ne (b9.out) (Nat.le_refl _)
    have c4:=hid (a2.out.size)
    have d3:=hid (Nat.ne_of_lt (Blk.lt a0.out))
    have d4:=hid (Nat.ne_of_lt (Blk.lt a4.out))
    have c6:=hid (Nat.ne_of_lt (Blk.lt a1.out))
    obtain ⟨o_,ho_⟩:∃ o,o=(.cells #[.int .i64 0,.slice none 0 0,.slice none 0 0] 35:Obj):=⟨_,rfl⟩
    replace a2:=bA a2 o_
    replace a5:=rA a5 o_
    replace a3:=rA a3 o_
    replace a0:=kA a0 o_
    replace a4:=kA a4 o_
    replace a1:=kA a1 o_
    replace a6:=hid (OwnsX.alloc (a6.out) (o_))
    replace b9:=hid (OwnsX.alloc (b9.out) (o_))
    subst ho_
    have b3:=hid (Blk.new (f3) 35 #[.int .i64 0,.slice none 0 0,.slice none 0 0])
    obtain ⟨a7,e3⟩:∃ g,g=(f3).heap.size:=⟨_,rfl⟩
    obtain ⟨c2,e4⟩:∃ w',w'=(f3).alloc (.cells #[.int .i64 0,.slice none 0 0,.slice none 0 0] 35):=⟨_,rfl⟩
    rw [← e4] at a2 a5 a3 a0 a4 a1 a6 b9 b3
    rw [← e3] at c4 d3 d4 c6 b3 hne1_ hne2_
    rw [← e3,← e4]
    clear e3 e4
    have HB1:=hid hne1_;clear hne1_
    have HB2:=hid hne2_;clear hne2_
    refine hK.out _ _ a0.out (fun _=>?_);clear hK K
    try simp only [pq]
    refine oneH 10 rfl fun K hK=>?_
    have m5:(c2).cell? ⟨a7,0,none⟩=some (.int .i64 0):=Blk.cell (b3.out) 0
    have m6:(c2).frozen? ⟨a7,0,none⟩=false:=Blk.frozen (b3.out) 0
    have m7:(c2).cell? ⟨a7,1,none⟩=some (.slice none 0 0):=Blk.cell (b3.out) 1
    have m8:(c2).frozen? ⟨a7,1,none⟩=false:=Blk.frozen (b3.out) 1
    have m9:(c2).cell? ⟨a7,2,none⟩=some (.slice none 0 0):=Blk.cell (b3.out) 2
    have n0:(c2).frozen? ⟨a7,2,none⟩=false:=Blk.frozen (b3.out) 2
    have hlt_:=Blk.lt (b3.out)
    go_simp
    have h3:=hid (Below.setCell (Below.setCell (Below.setCell (a2.out) (p:=⟨a7,0,none⟩) (c4.out) (.int .i64 c)) (p:=⟨a7,1,none⟩) (c4.out) (.slice Ac n cc)) (p:=⟨a7,2,none⟩) (c4.out) (.slice Bc m dc))
    have h4:=hid (Blk.far (Blk.far (Blk.far (a0.out) (p:=⟨a7,0,none⟩) (d3.out) (.int .i64 c)) (p:=⟨a7,1,none⟩) (d3.out) (.slice Ac n cc)) (p:=⟨a7,2,none⟩) (d3.out) (.slice Bc m dc))
    have h5:=hid (Blk.far (Blk.far (Blk.far (a4.out) (p:=⟨a7,0,none⟩) (d4.out) (.int .i64 c)) (p:=⟨a7,1,none⟩) (d4.out) (.slice Ac n cc)) (p:=⟨a7,2,none⟩) (d4.out) (.slice Bc m dc))
    have h6:=hid (Blk.far (Blk.far (Blk.far (a1.out) (p:=⟨a7,0,none⟩) (c6.out) (.int .i64 c)) (p:=⟨a7,1,none⟩) (c6.out) (.slice Ac n cc)) (p:=⟨a7,2,none⟩) (c6.out) (.slice Bc m dc))
    have h7:=hid (OwnsX.far (OwnsX.far (OwnsX.far (a6.out) (a:=⟨a7,0,none⟩) (HB1.out) (.int .i64 c)) (a:=⟨a7,1,none⟩) (HB1.out) (.slice Ac n cc)) (a:=⟨a7,2,none⟩) (HB1.out) (.slice Bc m dc))
    have h8:=hid (OwnsX.far (OwnsX.far (OwnsX.far (b9.out) (a:=⟨a7,0,none⟩) (HB2.out) (.int .i64 c)) (a:=⟨a7,1,none⟩) (HB2.out) (.slice Ac n cc)) (a:=⟨a7,2,none⟩) (HB2.out) (.slice Bc m dc))
    have h9:=hid (Blk.set_ (Blk.set_ (Blk.set_ (b3.out) 0 (.int .i64 c)) 1 (.slice Ac n cc)) 2 (.slice Bc m dc))
    obtain ⟨p1,e5⟩:∃ w',w'=((((c2).setCell ⟨a7,0,none⟩ (.int .i64 c)).setCell ⟨a7,1,none⟩ (.slice Ac n cc)).setCell ⟨a7,2,none⟩ (.slice Bc m dc)):=⟨_,rfl⟩
    rw [← e5] at h3 h4 h5 h6 h7 h8 h9
    rw [← e5]
    clear e5 m5 m6 m7 m8 m9 n0 hlt_
    refine hK.out _ _ h4.out (fun _=>?_);clear hK K
    try simp only [pq]
    refine wpAnyH_done (by kernel_rfl) ?_ _
    go_wp2
    go_meet
    exact ⟨_,Ac,cc,Bc,dc,rfl,h7.out,h8.out,h9.out,h6.out,h5.out,h3.out,HB1.out,HB2.out,HD12.out,HD21.out,c6.out,c4.out⟩
   refine rdH rfl (fun K hK=>?_) ?_
   · -- 9: alloc
    replace a2:=bH a2 b2
    replace a5:=rH a5 b2
    replace a3:=rH a3 b2
    replace a4:=kH a4 b2
    replace a1:=kH a1 b2
    go_simp
    have hne1_:=OwnsX.ne (a6.out) (Nat.le_refl _)
    have c7:=hid (a2.out.size)
    have d5:=hid (Nat.ne_of_lt (Blk.lt a0.out))
    have d6:=hid (Nat.ne_of_lt (Blk.lt a4.out))
    have c8:=hid (Nat.ne_of_lt (Blk.lt a1.out))
    obtain ⟨o_,ho_⟩:∃ o,o=(.cells #[.int .i64 0,.slice none 0 0,.slice none 0 0] 35:Obj):=⟨_,rfl⟩
    replace a2:=bA a2 o_
    replace a5:=rA a5 o_
    replace a3:=rA a3 o_
    replace a0:=kA a0 o_
    replace a4:=kA a4 o_
    replace a1:=kA a1 o_
    replace a6:=hid (OwnsX.alloc (a6.out) (o_))
    subst ho_
    have b1:=hid (Blk.new (f2) 35 #[.int .i64 0,.slice none 0 0,.slice none 0 0])
    obtain ⟨a8,e6⟩:∃ g,g=(f2).heap.size:=⟨_,rfl⟩
    obtain ⟨p2,e7⟩:∃ w',w'=(f2).alloc (.cells #[.int .i64 0,.slice none 0 0,.slice none 0 0] 35):=⟨_,rfl⟩
    rw [← e7] at a2 a5 a3 a0 a4 a1 a6 b1
    rw [← e6] at c7 d5 d6 c8 b1 hne1_
    rw [← e6,← e7]
    clear e6 e7
    have HB1:=hid hne1_;clear hne1_
    refine hK.out _ _ a0.out (fun _=>?_);clear hK K
    try simp only [pq]
    refine oneH 7 rfl fun K hK=>?_
    have hm4_:m≤400:=by have h:=HL2.out;have h2:=(a3.out).len;omega
    go_simp
    go_at_call 42
    refine (ecopied_any B m j ts _ a3.out hm4_).mono ?_
    rintro e c3 ⟨Bc,dc,rfl,hox2,b5⟩
    dsimp only
    have HB2:=hid (fun (h0:dc≠0)=>OwnsX.gt hox2 (Blk.lt (b1.out)) h0)
    have HD12:=hid (OwnsX.apart (a6.out) hox2);have HD21:=hid (OwnsX.apart' (a6.out) hox2)
    have hox2:=OwnsX.base hox2 (show w.heap.size+1+1+1≤_ from Nat.succ_le_of_lt (Blk.lt (a1.out)))
    replace b5:=hid b5
    have i1:=hid (hox2)
    clear hox2
    replace a0:=kH a0 b5
    refine hK.out _ _ a0.out (fun _=>?_);clear hK K
    try simp only [pq]
    refine' twH 8 a0.out ?_
    try simp only [pq]
    refine oneH 10 rfl fun K hK=>?_
    replace b1:=kH b1 b5
    replace a2:=bH a2 b5
    replace a5:=rH a5 b5
    replace a3:=rH a3 b5
    replace a4:=kH a4 b5
    replace a1:=kH a1 b5
    replace a6:=hid (OwnsX.below (a6.out) b5.out)
    have n1:(c3).cell? ⟨a8,0,none⟩=some (.int .i64 0):=Blk.cell (b1.out) 0
    have n2:(c3).frozen? ⟨a8,0,none⟩=false:=Blk.frozen (b1.out) 0
    have n3:(c3).cell? ⟨a8,1,none⟩=some (.slice none 0 0):=Blk.cell (b1.out) 1
    have n4:(c3).frozen? ⟨a8,1,none⟩=false:=Blk.frozen (b1.out) 1
    have n5:(c3).cell? ⟨a8,2,none⟩=some (.slice none 0 0):=Blk.cell (b1.out) 2
    have n6:(c3).frozen? ⟨a8,2,none⟩=false:=Blk.frozen (b1.out) 2
    have hlt_:=Blk.lt (b1.out)
    go_simp
    have i2:=hid (Below.setCell (Below.setCell (Below.setCell (a2.out) (p:=⟨a8,0,none⟩) (c7.out) (.int .i64 c)) (p:=⟨a8,1,none⟩) (c7.out) (.slice Ac n cc)) (p:=⟨a8,2,none⟩) (c7.out) (.slice Bc m dc))
    have i3:=hid (Blk.far (Blk.far (Blk.far (a0.out) (p:=⟨a8,0,none⟩) (d5.out) (.int .i64 c)) (p:=⟨a8,1,none⟩) (d5.out) (.slice Ac n cc)) (p:=⟨a8,2,none⟩) (d5.out) (.slice Bc m dc))
    have i4:=hid (Blk.far (Blk.far (Blk.far (a4.out) (p:=⟨a8,0,none⟩) (d6.out) (.int .i64 c)) (p:=⟨a8,1,none⟩) (d6.out) (.slice Ac n cc)) (p:=⟨a8,2,none⟩) (d6.out) (.slice Bc m dc))
    have i5:=hid (Blk.far (Blk.far (Blk.far (a1.out) (p:=⟨a8,0,none⟩) (c8.out) (.int .i64 c)) (p:=⟨a8,1,none⟩) (c8.out) (.slice Ac n cc)) (p:=⟨a8,2,none⟩) (c8.out) (.slice Bc m dc))
    have i6:=hid (OwnsX.far (OwnsX.far (OwnsX.far (a6.out) (a:=⟨a8,0,none⟩) (HB1.out) (.int .i64 c)) (a:=⟨a8,1,none⟩) (HB1.out) (.slice Ac n cc)) (a:=⟨a8,2,none⟩) (HB1.out) (.slice Bc m dc))
    have i7:=hid (Blk.set_ (Blk.set_ (Blk.set_ (b1.out) 0 (.int .i64 c)) 1 (.slice Ac n cc)) 2 (.slice Bc m dc))
    have i8:=hid (OwnsX.far (OwnsX.far (OwnsX.far (i1.out) (a:=⟨a8,0,none⟩) (HB2.out) (.int .i64 c)) (a:=⟨a8,1,none⟩) (HB2.out) (.slice Ac n cc)) (a:=⟨a8,2,none⟩) (HB2.out) (.slice Bc m dc))
    obtain ⟨p3,e8⟩:∃ w',w'=((((c3).setCell ⟨a8,0,none⟩ (.int .i64 c)).setCell ⟨a8,1,none⟩ (.slice Ac n cc)).setCell ⟨a8,2,none⟩ (.slice Bc m dc)):=⟨_,rfl⟩
    rw [← e8] at i2 i3 i4 i5 i6 i7 i8
    rw [← e8]
    clear e8 n1 n2 n3 n4 n5 n6 hlt_
    refine hK.out _ _ i3.out (fun _=>?_);clear hK K
    try simp only [pq]
    refine wpAnyH_done (by kernel_rfl) ?_ _
    go_wp2
    go_meet
    exact ⟨_,Ac,cc,Bc,dc,rfl,i6.out,i8.out,i7.out,i5.out,i4.out,i2.out,HB1.out,HB2.out,HD12.out,HD21.out,c8.out,c7.out⟩
   exact AllReadyH.nil
  refine rdH rfl (fun K hK=>?_) ?_
  · -- 9: alloc
   go_simp
   have c9:=hid (a2.out.size)
   have d7:=hid (Nat.ne_of_lt (Blk.lt a0.out))
   have d8:=hid (Nat.ne_of_lt (Blk.lt a4.out))
   have d0:=hid (Nat.ne_of_lt (Blk.lt a1.out))
   obtain ⟨o_,ho_⟩:∃ o,o=(.cells #[.int .i64 0,.slice none 0 0,.slice none 0 0] 35:Obj):=⟨_,rfl⟩
   replace a2:=bA a2 o_
   replace a5:=rA a5 o_
   replace a3:=rA a3 o_
   replace a0:=kA a0 o_
   replace a4:=kA a4 o_
   replace a1:=kA a1 o_
   subst ho_
   have b0:=hid (Blk.new (f1) 35 #[.int .i64 0,.slice none 0 0,.slice none 0 0])
   obtain ⟨a9,e9⟩:∃ g,g=(f1).heap.size:=⟨_,rfl⟩
   obtain ⟨p4,f0⟩:∃ w',w'=(f1).alloc (.cells #[.int .i64 0,.slice none 0 0,.slice none 0 0] 35):=⟨_,rfl⟩
   rw [← f0] at a2 a5 a3 a0 a4 a1 b0
   rw [← e9] at c9 d7 d8 d0 b0
   rw [← e9,← f0]
   clear e9 f0
   refine hK.out _ _ a0.out (fun _=>?_);clear hK K
   try simp only [pq]
   refine oneH 4 rfl fun K hK=>?_
   have hn4_:n≤400:=by have h:=HL1.out;have h2:=(a5.out).len;omega
   go_simp
   go_at_call 42
   refine (ecopied_any A n k ws _ a5.out hn4_).mono ?_
   rintro e p5 ⟨Ac,cc,rfl,hox1,b7⟩
   dsimp only
   have HB1:=hid (fun (h0:cc≠0)=>OwnsX.gt hox1 (Blk.lt (b0.out)) h0)
   have hox1:=OwnsX.base hox1 (show w.heap.size+1+1+1≤_ from Nat.succ_le_of_lt (Blk.lt (a1.out)))
   replace b7:=hid b7
   have c0:=hid (hox1)
   clear hox1
   replace a0:=kH a0 b7
   refine hK.out _ _ a0.out (fun _=>?_);clear hK K
   try simp only [pq]
   refine oneH 7 rfl fun K hK=>?_
   replace a3:=rH a3 b7
   replace b0:=kH b0 b7
   replace a1:=kH a1 b7
   have hm4_:m≤400:=by have h:=HL2.out;have h2:=(a3.out).len;omega
   go_simp
   go_at_call 42
   refine (ecopied_any B m j ts _ a3.out hm4_).mono ?_
   rintro e b8 ⟨Bc,dc,rfl,hox2,b4⟩
   dsimp only
   have HB2:=hid (fun (h0:dc≠0)=>OwnsX.gt hox2 (Blk.lt (b0.out)) h0)
   have HD12:=hid (OwnsX.apart (c0.out) hox2);have HD21:=hid (OwnsX.apart' (c0.out) hox2)
   have hox2:=OwnsX.base hox2 (show w.heap.size+1+1+1≤_ from Nat.succ_le_of_lt (Blk.lt (a1.out)))
   replace b4:=hid b4
   have g1:=hid (hox2)
   clear hox2
   replace a0:=kH a0 b4
   refine hK.out _ _ a0.out (fun _=>?_);clear hK K
   try simp only [pq]
   refine' twH 8 a0.out ?_
   try simp only [pq]
   refine oneH 10 rfl fun K hK=>?_
   replace b0:=kH b0 b4
   replace a2:=bH (bH a2 b7) b4
   replace a5:=rH (rH a5 b7) b4
   replace a3:=rH a3 b4
   replace a4:=kH (kH a4 b7) b4
   replace a1:=kH a1 b4
   replace c0:=hid (OwnsX.below (c0.out) b4.out)
   have i9:(b8).cell? ⟨a9,0,none⟩=some (.int .i64 0):=Blk.cell (b0.out) 0
   have j0:(b8).frozen? ⟨a9,0,none⟩=false:=Blk.frozen (b0.out) 0
   have j1:(b8).cell? ⟨a9,1,none⟩=some (.slice none 0 0):=Blk.cell (b0.out) 1
   have j2:(b8).frozen? ⟨a9,1,none⟩=false:=Blk.frozen (b0.out) 1
   have j3:(b8).cell? ⟨a9,2,none⟩=some (.slice none 0 0):=Blk.cell (b0.out) 2
   have j4:(b8).frozen? ⟨a9,2,none⟩=false:=Blk.frozen (b0.out) 2
   have hlt_:=Blk.lt (b0.out)
   go_simp
   have f4:=hid (Below.setCell (Below.setCell (Below.setCell (a2.out) (p:=⟨a9,0,none⟩) (c9.out) (.int .i64 c)) (p:=⟨a9,1,none⟩) (c9.out) (.slice Ac n cc)) (p:=⟨a9,2,none⟩) (c9.out) (.slice Bc m dc))
   have f5:=hid (Blk.far (Blk.far (Blk.far (a0.out) (p:=⟨a9,0,none⟩) (d7.out) (.int .i64 c)) (p:=⟨a9,1,none⟩) (d7.out) (.slice Ac n cc)) (p:=⟨a9,2,none⟩) (d7.out) (.slice Bc m dc))
   have f6:=hid (Blk.far (Blk.far (Blk.far (a4.out) (p:=⟨a9,0,none⟩) (d8.out) (.int .i64 c)) (p:=⟨a9,1,none⟩) (d8.out) (.slice Ac n cc)) (p:=⟨a9,2,none⟩) (d8.out) (.slice Bc m dc))
   have f7:=hid (Blk.far (Blk.far (Blk.far (a1.out) (p:=⟨a9,0,none⟩) (d0.out) (.int .i64 c)) (p:=⟨a9,1,none⟩) (d0.out) (.slice Ac n cc)) (p:=⟨a9,2,none⟩) (d0.out) (.slice Bc m dc))
   have f8:=hid (Blk.set_ (Blk.set_ (Blk.set_ (b0.out) 0 (.int .i64 c)) 1 (.slice Ac n cc)) 2 (.slice Bc m dc))
   have f9:=hid (OwnsX.far (OwnsX.far (OwnsX.far (c0.out) (a:=⟨a9,0,none⟩) (HB1.out) (.int .i64 c)) (a:=⟨a9,1,none⟩) (HB1.out) (.slice Ac n cc)) (a:=⟨a9,2,none⟩) (HB1.out) (.slice Bc m dc))
   have g0:=hid (OwnsX.far (OwnsX.far (OwnsX.far (g1.out) (a:=⟨a9,0,none⟩) (HB2.out) (.int .i64 c)) (a:=⟨a9,1,none⟩) (HB2.out) (.slice Ac n cc)) (a:=⟨a9,2,none⟩) (HB2.out) (.slice Bc m dc))
   obtain ⟨p0,d9⟩:∃ w',w'=((((b8).setCell ⟨a9,0,none⟩ (.int .i64 c)).setCell ⟨a9,1,none⟩ (.slice Ac n cc)).setCell ⟨a9,2,none⟩ (.slice Bc m dc)):=⟨_,rfl⟩
   rw [← d9] at f4 f5 f6 f7 f8 f9 g0
   rw [← d9]
   clear d9 i9 j0 j1 j2 j3 j4 hlt_
   refine hK.out _ _ f5.out (fun _=>?_);clear hK K
   try simp only [pq]
   refine wpAnyH_done (by kernel_rfl) ?_ _
   go_wp2
   go_meet
   exact ⟨_,Ac,cc,Bc,dc,rfl,f9.out,g0.out,f8.out,f7.out,f6.out,f4.out,HB1.out,HB2.out,HD12.out,HD21.out,d0.out,c9.out⟩
  exact AllReadyH.nil
 case rest =>
  obtain ⟨gq,Ac,cc,Bc,dc,rfl,k1,k2,k3,k4,k5,k6,k7,k8,k9,j5,j6,j7⟩:=hcut
  clear a2 a5 a3 a0 a4 a1
  have g2:=hid (k1)
  have g6:=hid (k2)
  have e1:=hid (k3)
  have d1:=hid (k4)
  have d2:=hid (k5)
  have e0:=hid (k6)
  have HB1:=hid k7;have HB2:=hid k8;have HD12:=hid k9;have HD21:=hid j5;have NEZ:=hid j6;have LBO:=hid j7;clear k1 k2 k3 k4 k5 k6 k7 k8 k9 j5 j6 j7
  obtain ⟨o0,o1,o2,o3⟩:=at4 d2
  obtain ⟨o4,o5,o6⟩:=at3 d1
  obtain ⟨o7,o8,o9⟩:=at3 e1
  have NB:=hid (Blk.new wc 50 #[.int .i64 f,.int .i64 t,.int .i64 mm,.int .i64 ib])
  have OX1:=hid (OwnsX.alloc (g2.out) (.cells #[.int .i64 f,.int .i64 t,.int .i64 mm,.int .i64 ib] 50))
  have OX2:=hid (OwnsX.alloc (g6.out) (.cells #[.int .i64 f,.int .i64 t,.int .i64 mm,.int .i64 ib] 50))
  have BOA:=hid (Blk.alloc (e1.out) (.cells #[.int .i64 f,.int .i64 t,.int .i64 mm,.int .i64 ib] 50))
  have BZA:=hid (Blk.alloc (d1.out) (.cells #[.int .i64 f,.int .i64 t,.int .i64 mm,.int .i64 ib] 50))
  have XBA:=hid (Blk.alloc (d2.out) (.cells #[.int .i64 f,.int .i64 t,.int .i64 mm,.int .i64 ib] 50))
  have BLA:=hid (Below.alloc (e0.out) ((e0.out).size) (.cells #[.int .i64 f,.int .i64 t,.int .i64 mm,.int .i64 ib] 50))
  have hsz_:=Nat.succ_le_of_lt (Blk.lt BZA.out);have hbo_:=Blk.lt BOA.out
  have z4_:(wc.alloc (.cells #[.int .i64 f,.int .i64 t,.int .i64 mm,.int .i64 ib] 50)).cell? ⟨gq,0,none⟩=some (.int .i64 c):=Blk.cell BOA.out 0
  have hn4_:n≤400:=HN4.out;have hm4_:m≤400:=HM4.out
  go_wp2_with (at_builtin;refine wpList_append_X _ rfl (.tmp 28) (.tmp 30) 33 rfl (w.heap.size+1+1+1) 50 i0 _ 4 32 Tryz.underlying33 HI.out HZ0.out HZ1.out HZ2.out rfl (by omega) Bc m dc _ rfl OX2.out ⟨wc.heap.size,0,none⟩ 1 1 (bcells [⟨f,t,mm,ib⟩]) rfl rfl (cells_add (cs:=bcells [⟨f,t,mm,ib⟩]) (show Blk _ _ _ (bcells [⟨f,t,mm,ib⟩]).toArray from NB.out)) (bcells_one _) (by omega) (by unfold maxLen;omega) (by omega) hsz_ ?_;intro g5 c5 w5 hown5 hb5 hg5 hkp5;have HO5:=hid hown5;have HB5:=hid hb5;have bo5:=(hkp5 _ hbo_ HB2.out).trans BOA.out;have BO5:=hid (show Blk w5 gq 35 #[.int .i64 c,.slice Ac n cc,.slice Bc m dc] from bo5);have RO5:=hid (rdB_far (rdB_of OX1.out) hkp5 HD21.out hb5.size);clear hown5 hb5 hkp5 bo5;have q0_:w5.cell? ⟨gq,0,none⟩=some (.int .i64 c):=Blk.cell BO5.out 0;have q1_:w5.cell? ⟨gq,1,none⟩=some (.slice Ac n cc):=Blk.cell BO5.out 1;have q2_:w5.cell? ⟨gq,2,none⟩=some (.slice Bc m dc):=Blk.cell BO5.out 2;have q3_:w5.frozen? ⟨gq,2,none⟩=false:=Blk.frozen BO5.out 2)
  have hbz_:w.heap.size+1+1≠gq:=NEZ.out;have hlb_:w.heap.size≤gq:=LBO.out
  have rdn_:=(OwnB.rd (show OwnB w5 (w.heap.size+1+1+1) (some ⟨g5,0,none⟩) (m+1) c5 (ts++[⟨f,t,mm,ib⟩]) from by have h:=HO5.out;rw [← bcells_append] at h;exact h)).1
  have RN:=hid (rdB_setN rdn_ ⟨gq,2,none⟩ (.slice (some ⟨g5,0,none⟩) (m+1) c5) BO5.out (by intro j x;rcases j with _|_|j<;>simp));have RO:=hid (rdB_setN RO5.out ⟨gq,2,none⟩ (.slice (some ⟨g5,0,none⟩) (m+1) c5) BO5.out (by intro j x;rcases j with _|_|j<;>simp));clear rdn_
  have BO6:=hid (Blk.set_ BO5.out 2 (.slice (some ⟨g5,0,none⟩) (m+1) c5));have BZ6:=hid (Blk.far (Blk.below BZA.out HB5.out (by omega)) (p:=⟨gq,2,none⟩) hbz_ (.slice (some ⟨g5,0,none⟩) (m+1) c5));have BL6:=hid (Below.setCell (Below.trans BLA.out (Below.mono HB5.out (by omega))) (p:=⟨gq,2,none⟩) hlb_ (.slice (some ⟨g5,0,none⟩) (m+1) c5))
  clear q0_ q1_ q2_ q3_ z4_ hsz_ hbo_ d1 d2
  obtain ⟨w6,hw6⟩:∃ w',w'=w5.setCell ⟨gq,2,none⟩ (.slice (some ⟨g5,0,none⟩) (m+1) c5):=⟨_,rfl⟩
  rw [← hw6] at RN RO BO6 BZ6 BL6 ⊢
  clear hw6
  have hc:=CheckOutline_any c Ac (some ⟨g5,0,none⟩) n cc (m+1) c5 ws (ts++[⟨f,t,mm,ib⟩]) w6 RO.out RN.out (by unfold maxLen;omega) (by unfold maxLen;omega)
  rw [E2.out] at hc
  have HC:=hid hc;clear hc
  refine HC.out.mono ?_
  rintro e w9 ⟨rfl,hb⟩
  clear HC
  have RN9:=hid (RdB.below RN.out hb);have RO9:=hid (RdB.below RO.out hb)
  have BO9:=hid (show Blk w9 gq 35 #[.int .i64 c,.slice Ac n cc,.slice (some ⟨g5,0,none⟩) (m+1) c5] from Blk.keep BO6.out hb);have BZ9:=hid (show Blk w9 (w.heap.size+1+1) 35 #[.int .i64 0,.slice none 0 0,.slice none 0 0] from Blk.keep BZ6.out hb);have BL9:=hid (Below.trans BL6.out (Below.mono hb BL6.out.size));clear RN RO BO6 BZ6 BL6 hb
  have q0_:w9.cell? ⟨gq,0,none⟩=some (.int .i64 c):=Blk.cell BO9.out 0
  have q1_:w9.cell? ⟨gq,1,none⟩=some (.slice Ac n cc):=Blk.cell BO9.out 1
  have q2_:w9.cell? ⟨gq,2,none⟩=some (.slice (some ⟨g5,0,none⟩) (m+1) c5):=Blk.cell BO9.out 2
  have y0_:w9.cell? ⟨w.heap.size+1+1,0,none⟩=some (.int .i64 0):=Blk.cell BZ9.out 0
  have f0_:w9.frozen? ⟨w.heap.size+1+1,0,none⟩=false:=Blk.frozen BZ9.out 0
  have y1_:w9.cell? ⟨w.heap.size+1+1,1,none⟩=some (.slice none 0 0):=Blk.cell BZ9.out 1
  have f1_:w9.frozen? ⟨w.heap.size+1+1,1,none⟩=false:=Blk.frozen BZ9.out 1
  have y2_:w9.cell? ⟨w.heap.size+1+1,2,none⟩=some (.slice none 0 0):=Blk.cell BZ9.out 2
  have f2_:w9.frozen? ⟨w.heap.size+1+1,2,none⟩=false:=Blk.frozen BZ9.out 2
  have hlz_:=Blk.lt BZ9.out;have hlo_:=Blk.lt BO9.out
  by_cases hq:q=0
  · subst hq
    go_wp2
    have bel_:=BL9.out
    refine bodyPost_ret (v:=.tuple #[.agg #[.int .i64 c,.slice Ac n cc,.slice (some ⟨g5,0,none⟩) (m+1) c5],.int .i64 0]) (by simp [results,Tryz.results16,go_sem,y0_,y1_,y2_,f0_,f1_,f2_]) rfl ?_
    exact ⟨Ac,n,cc,(some ⟨g5,0,none⟩),(m+1),c5,rfl,rdB_setN (rdB_setN (rdB_setN (RO9.out) ⟨w.heap.size+1+1,0,none⟩ (.int .i64 c) (BZ9.out) (by intro j x;rcases j with _|_|j<;>simp)) ⟨w.heap.size+1+1,1,none⟩ (.slice Ac n cc) (Blk.set_ (BZ9.out) 0 (.int .i64 c)) (by intro j x;rcases j with _|_|j<;>simp)) ⟨w.heap.size+1+1,2,none⟩ (.slice (some ⟨g5,0,none⟩) (m+1) c5) (Blk.set_ (Blk.set_ (BZ9.out) 0 (.int .i64 c)) 1 (.slice Ac n cc)) (by intro j x;rcases j with _|_|j<;>simp),rdB_setN (rdB_setN (rdB_setN (RN9.out) ⟨w.heap.size+1+1,0,none⟩ (.int .i64 c) (BZ9.out) (by intro j x;rcases j with _|_|j<;>simp)) ⟨w.heap.size+1+1,1,none⟩ (.slice Ac n cc) (Blk.set_ (BZ9.out) 0 (.int .i64 c)) (by intro j x;rcases j with _|_|j<;>simp)) ⟨w.heap.size+1+1,2,none⟩ (.slice (some ⟨g5,0,none⟩) (m+1) c5) (Blk.set_ (Blk.set_ (BZ9.out) 0 (.int .i64 c)) 1 (.slice Ac n cc)) (by intro j x;rcases j with _|_|j<;>simp),by unfold maxLen;omega,by unfold maxLen;omega,(by have hsz_:=Below.size bel_;repeat' (first|with_reducible exact bel_|with_reducible exact Below.refl _ _|with_reducible refine Below.alloc ?_ ?_ _|with_reducible refine Below.setCell ?_ ?_ _|with_reducible refine Below.drew ?_|with_reducible refine below_setRow ?_ ?_ _|omega | (simp;done) | (simp;omega)))⟩
  · have hne:(q != 0)=true:=by simpa using hq
    have HQ:=hid hq;clear hq
    go_wp2
    have bel_:=BL9.out
    refine bodyPost_ret (v:=.tuple #[.agg #[.int .i64 0,.slice none 0 0,.slice none 0 0],.int .i64 q]) (by simp [results,Tryz.results16,go_sem,y0_,y1_,y2_,f0_,f1_,f2_]) rfl ?_
    exact ⟨none,0,0,none,0,0,by rw [if_neg HQ.out],by rw [if_neg HQ.out];exact RdB.nil_ _,by rw [if_neg HQ.out];exact RdB.nil_ _,by unfold maxLen;omega,by unfold maxLen;omega,(by have hsz_:=Below.size bel_;repeat' (first|with_reducible exact bel_|with_reducible exact Below.refl _ _|with_reducible refine Below.alloc ?_ ?_ _|with_reducible refine Below.setCell ?_ ?_ _|with_reducible refine Below.drew ?_|with_reducible refine below_setRow ?_ ?_ _|omega | (simp;done) | (simp;omega)))⟩
set_option maxRecDepth 100000 in
theorem With_ok0 (c:Int) (A B:Option Addr) (n k m j:Nat) (ws ts:List Bnd) (w:World) (h1:RdB w A n k ws) (h2:RdB w B m j ts) (hn:n≤maxLen) (hm:m≤maxLen) (f t mm ib:Int) (E1:Hid (chkO ⟨c,ws,ts⟩=0)) (q:Int) (E2:Hid (chkO ⟨c,ws++[⟨f,t,mm,ib⟩],ts⟩=q)) :
 Calls Tryz.prog 16 #[.agg #[.int .i64 c,.slice A n k,.slice B m j],.bool false,.agg #[.int .i64 f,.int .i64 t,.int .i64 mm,.int .i64 ib]] w (RetO q (withO false ⟨c,ws,ts⟩ ⟨f,t,mm,ib⟩) w):=by
 obtain ⟨i0,hi0,hz0,hz1,hz2⟩:=info_parts infoB
 have HI:=hid hi0;have HZ0:=hid hz0;have HZ1:=hid hz1;have HZ2:=hid hz2;clear hi0 hz0 hz1 hz2
 obtain ⟨-,-,g3,g4⟩:=chkO_ok E1.out
 have HL1:=hid (chk_ok g3).2.2.1;have HL2:=hid (chk_ok g4).2.2.1;clear g3 g4
 have HN4:=hid (rdB_len h1 HL1.out);have HM4:=hid (rdB_len h2 HL2.out)
 go_enter Tryz.func16,Tryz.ntmps16
 obtain ⟨a0,a8,a1,a2⟩:=ent3 w #[.int .i64 c,.slice A n k,.slice B m j] 35 #[.int .i64 f,.int .i64 t,.int .i64 mm,.int .i64 ib] 50 #[.int .i64 0,.slice none 0 0,.slice none 0 0] 35
 have a9:=rI h1 a2
 have a3:=rI h2 a2
 clear h1 h2
 obtain ⟨n7,n8,n9⟩:=at3 a0
 obtain ⟨l9,m0,m1,m2⟩:=at4 a8
 obtain ⟨m3,m4,m5⟩:=at3 a1
 have hc:=CheckOutline_any c A B n k m j ws ts _ a9.out a3.out hn hm
 rw [E1.out] at hc
 try dsimp only at hc
 have HC:=hid hc;clear hc
 go_wp2_with fail
 refine HC.out.mono ?_
 rintro e m6 ⟨rfl,hb⟩
 clear HC
 clear n7 n8 n9 l9 m0 m1 m2 m3 m4 m5
 have d0:=hid hb
 clear hb
 replace a0:=kH a0 d0
 obtain ⟨m7,m8,m9⟩:=at3 a0
 replace a8:=kH a8 d0
 obtain ⟨n0,n1,n2,n3⟩:=at4 a8
 replace a1:=kH a1 d0
 obtain ⟨n4,n5,n6⟩:=at3 a1
 go_wp2_with fail
 clear m7 m8 m9 n0 n1 n2 n3 n4 n5 n6
 replace a2:=bH a2 d0
 replace a9:=rH a9 d0
 replace a3:=rH a3 d0
 obtain ⟨w1,hW⟩:∃ w',w'=m6:=⟨_,rfl⟩
 rw [← hW] at a2 a9 a3 a0 a8 a1
 rw [← hW]
 clear hW
 go_cut [9] from 17 to 25 (fun s9 wx=>∃ (gq:Nat) (Ac:Option Addr) (cc:Nat) (Bc:Option Addr) (dc:Nat),s9=.pointer (some ⟨gq,0,none⟩)∧OwnsX wx (w.heap.size+1+1+1) 50 4 (.slice Ac n cc) n (bcells ws)∧OwnsX wx (w.heap.size+1+1+1) 50 4 (.slice Bc m dc) m (bcells ts)∧Blk wx gq 35 #[.int .i64 c,.slice Ac n cc,.slice Bc m dc]∧Blk wx (w.heap.size+1+1) 35 #[.int .i64 0,.slice none 0 0,.slice none 0 0]∧Blk wx (w.heap.size+1) 50 #[.int .i64 f,.int .i64 t,.int .i64 mm,.int .i64 ib]∧Below w.heap.size w wx∧(cc≠0→(Value.slice Ac n cc).ownBlock≠some gq)∧(dc≠0→(Value.slice Bc m dc).ownBlock≠some gq)∧(∀ b o,Bc=some ⟨b,o,none⟩→m≠0→cc≠0→(Value.slice Ac n cc).ownBlock≠some b)∧(∀ b o,Ac=some ⟨b,o,none⟩→n≠0→dc≠0→(Value.slice Bc m dc).ownBlock≠some b)∧w.heap.size+1+1≠gq∧w.heap.size≤gq)
 case first =>
  replace a2:=bD a2
  replace a9:=rD a9
  replace a3:=rD a3
  replace a0:=kD a0
  replace a8:=kD a8
  replace a1:=kD a1
  refine wp_region_held_drew (S:=(fun W'=>Blk W' (w.heap.size) 35 #[.int .i64 c,.slice A n k,.slice B m j])) (by kernel_rfl) a0.out (fun _=>?_)
  obtain ⟨f1,d9⟩:∃ w',w'=(w1.drew):=⟨_,rfl⟩
  rw [← d9] at a2 a9 a3 a0 a8 a1
  rw [← d9]
  clear d9
  refine' twH 0 a0.out ?_
  refine' tkH 1 a0.out ?i2 ?_
  case i2=>(rintro W' hS0;have hc0:=Blk.nth hS0 0;clear hS0;go_simp;try with_reducible rfl)
  refine' twH 2 a0.out ?_
  refine' tkH 3 a0.out ?i3 ?_
  case i3=>(rintro W' hS0;have hc0:=Blk.nth hS0 1;clear hS0;go_simp;try with_reducible rfl)
  try simp only [pq]
  refine' twH 5 a0.out ?_
  refine' tkH 6 a0.out ?i4 ?_
  case i4=>(rintro W' hS0;have hc0:=Blk.nth hS0 2;clear hS0;go_simp;try with_reducible rfl)
  try simp only [pq]
  refine wpAnyH_ready (rs:=[4,9]) (by kernel_rfl) (by simp) ?_
  refine rdH rfl (fun K hK=>?_) ?_
  · -- 4: call
   have hn4_:n≤400:=by have h:=HL1.out;have h2:=(a9.out).len;omega
   go_simp
   go_at_call 42
   refine (ecopied_any A n k ws _ a9.out hn4_).mono ?_
   rintro e f2 ⟨Ac,cc,rfl,hox1,b2⟩
   dsimp only
   have hox1:=OwnsX.base hox1 (show w.heap.size+1+1+1≤_ from Nat.succ_le_of_lt (Blk.lt (a1.out)))
   replace b2:=hid b2
   have a7:=hid (hox1)
   clear hox1
   replace a0:=kH a0 b2
   refine hK.out _ _ a0.out (fun _=>?_);clear hK K
   try simp only [pq]
   refine wpAnyH_ready (rs:=[7,9]) (by kernel_rfl) (by simp) ?_
   refine rdH rfl (fun K hK=>?_) ?_
   · -- 7: call
    replace a3:=rH a3 b2
    replace a1:=kH a1 b2
    have hm4_:m≤400:=by have h:=HL2.out;have h2:=(a3.out).len;omega
    go_simp
    go_at_call 42
    refine (ecopied_any B m j ts _ a3.out hm4_).mono ?_
    rintro e f3 ⟨Bc,dc,rfl,hox2,b6⟩
    dsimp only
    have HD12:=hid (OwnsX.apart (a7.out) hox2);have HD21:=hid (OwnsX.apart' (a7.out) hox2)
    have hox2:=OwnsX.base hox2 (show w.heap.size+1+1+1≤_ from Nat.succ_le_of_lt (Blk.lt (a1.out)))
    replace b6:=hid b6
    have b8:=hid (hox2)
    clear hox2
    replace a0:=kH a0 b6
    refine hK.out _ _ a0.out (fun _=>?_);clear hK K
    try simp only [pq]
    refine' twH 8 a0.out ?_
    try simp only [pq]
    refine oneH 9 rfl fun K hK=>?_
    replace a7:=hid (OwnsX.below (a7.out) b6.out)
    replace a2:=bH (bH a2 b2) b6
    replace a9:=rH (rH a9 b2) b6
    replace a3:=rH a3 b6
    replace a8:=kH (kH a8 b2) b6
    replace a1:=kH a1 b6
    go_simp
    have hne1_:=OwnsX.ne (a7.out) (Nat.le_refl _)
    have hne2_:=OwnsX.ne (b8.out) (Nat.le_refl _)
    have c3:=hid (a2.out.size)
    have d1:=hid (Nat.ne_of_lt (Blk.lt a0.out))
    have d2:=hid (Nat.ne_of_lt (Blk.lt a8.out))
    have c4:=hid (Nat.ne_of_lt (Blk.lt a1.out))
    obtain ⟨o_,ho_⟩:∃ o,o=(.cells #[.int .i64 0,.slice none 0 0,.slice none 0 0] 35:Obj):=⟨_,rfl⟩
    replace a2:=bA a2 o_
    replace a9:=rA a9 o_
    replace a3:=rA a3 o_
    replace a0:=kA a0 o_
    replace a8:=kA a8 o_
    replace a1:=kA a1 o_
    replace a7:=hid (OwnsX.alloc (a7.out) (o_))
    replace b8:=hid (OwnsX.alloc (b8.out) (o_))
    subst ho_
    have b3:=hid (Blk.new (f3) 35 #[.int .i64 0,.slice none 0 0,.slice none 0 0])
    obtain ⟨a4,e0⟩:∃ g,g=(f3).heap.size:=⟨_,rfl⟩
    obtain ⟨c0,e1⟩:∃ w',w'=(f3).alloc (.cells #[.int .i64 0,.slice none 0 0,.slice none 0 0] 35):=⟨_,rfl⟩
    rw [← e1] at a2 a9 a3 a0 a8 a1 a7 b8 b3
    rw [← e0] at c3 d1 d2 c4 b3 hne1_ hne2_
    rw [← e0,← e1]
    clear e0 e1
    have HB1:=hid hne1_;clear hne1_
    have HB2:=hid hne2_;clear hne2_
    refine hK.out _ _ a0.out (fun _=>?_);clear hK K
    try simp only [pq]
    refine oneH 10 rfl fun K hK=>?_
    have i9:(c0).cell? ⟨a4,0,none⟩=some (.int .i64 0):=Blk.cell (b3.out) 0
    have j0:(c0).frozen? ⟨a4,0,none⟩=false:=Blk.frozen (b3.out) 0
    have j1:(c0).cell? ⟨a4,1,none⟩=some (.slice none 0 0):=Blk.cell (b3.out) 1
    have j2:(c0).frozen? ⟨a4,1,none⟩=false:=Blk.frozen (b3.out) 1
    have j3:(c0).cell? ⟨a4,2,none⟩=some (.slice none 0 0):=Blk.cell (b3.out) 2
    have j4:(c0).frozen? ⟨a4,2,none⟩=false:=Blk.frozen (b3.out) 2
    have hlt_:=Blk.lt (b3.out)
    go_simp
    have f4:=hid (Below.setCell (Below.setCell (Below.setCell (a2.out) (p:=⟨a4,0,none⟩) (c3.out) (.int .i64 c)) (p:=⟨a4,1,none⟩) (c3.out) (.slice Ac n cc)) (p:=⟨a4,2,none⟩) (c3.out) (.slice Bc m dc))
    have f5:=hid (Blk.far (Blk.far (Blk.far (a0.out) (p:=⟨a4,0,none⟩) (d1.out) (.int .i64 c)) (p:=⟨a4,1,none⟩) (d1.out) (.slice Ac n cc)) (p:=⟨a4,2,none⟩) (d1.out) (.slice Bc m dc))
    have f6:=hid (Blk.far (Blk.far (Blk.far (a8.out) (p:=⟨a4,0,none⟩) (d2.out) (.int .i64 c)) (p:=⟨a4,1,none⟩) (d2.out) (.slice Ac n cc)) (p:=⟨a4,2,none⟩) (d2.out) (.slice Bc m dc))
    have f7:=hid (Blk.far (Blk.far (Blk.far (a1.out) (p:=⟨a4,0,none⟩) (c4.out) (.int .i64 c)) (p:=⟨a4,1,none⟩) (c4.out) (.slice Ac n cc)) (p:=⟨a4,2,none⟩) (c4.out) (.slice Bc m dc))
    have f8:=hid (OwnsX.far (OwnsX.far (OwnsX.far (a7.out) (a:=⟨a4,0,none⟩) (HB1.out) (.int .i64 c)) (a:=⟨a4,1,none⟩) (HB1.out) (.slice Ac n cc)) (a:=⟨a4,2,none⟩) (HB1.out) (.slice Bc m dc))
    have f9:=hid (OwnsX.far (OwnsX.far (OwnsX.far (b8.out) (a:=⟨a4,0,none⟩) (HB2.out) (.int .i64 c)) (a:=⟨a4,1,none⟩) (HB2.out) (.slice Ac n cc)) (a:=⟨a4,2,none⟩) (HB2.out) (.slice Bc m dc))
    have g0:=hid (Blk.set_ (Blk.set_ (Blk.set_ (b3.out) 0 (.int .i64 c)) 1 (.slice Ac n cc)) 2 (.slice Bc m dc))
    obtain ⟨p0,e2⟩:∃ w',w'=((((c0).setCell ⟨a4,0,none⟩ (.int .i64 c)).setCell ⟨a4,1,none⟩ (.slice Ac n cc)).setCell ⟨a4,2,none⟩ (.slice Bc m dc)):=⟨_,rfl⟩
    rw [← e2] at f4 f5 f6 f7 f8 f9 g0
    rw [← e2]
    clear e2 i9 j0 j1 j2 j3 j4 hlt_
    refine hK.out _ _ f5.out (fun _=>?_);clear hK K
    try simp only [pq]
    refine wpAnyH_done (by kernel_rfl) ?_ _
    go_wp2
    go_meet
    exact ⟨_,Ac,cc,Bc,dc,rfl,f8.out,f9.out,g0.out,f7.out,f6.out,f4.out,HB1.out,HB2.out,HD12.out,HD21.out,c4.out,c3.out⟩
   refine rdH rfl (fun K hK=>?_) ?_
   · -- 9: alloc
    replace a2:=bH a2 b2
    replace a9:=rH a9 b2
    replace a3:=rH a3 b2
    replace a8:=kH a8 b2
    replace a1:=kH a1 b2
    go_simp
    have hne1_:=OwnsX.ne (a7.out) (Nat.le_refl _)
    have c6:=hid (a2.out.size)
    have d3:=hid (Nat.ne_of_lt (Blk.lt a0.out))
    have d4:=hid (Nat.ne_of_lt (Blk.lt a8.out))
    have c7:=hid (Nat.ne_of_lt (Blk.lt a1.out))
    obtain ⟨o_,ho_⟩:∃ o,o=(.cells #[.int .i64 0,.slice none 0 0,.slice none 0 0] 35:Obj):=⟨_,rfl⟩
    replace a2:=bA a2 o_
    replace a9:=rA a9 o_
    replace a3:=rA a3 o_
    replace a0:=kA a0 o_
    replace a8:=kA a8 o_
    replace a1:=kA a1 o_
    replace a7:=hid (OwnsX.alloc (a7.out) (o_))
    subst ho_
    have b1:=hid (Blk.new (f2) 35 #[.int .i64 0,.slice none 0 0,.slice none 0 0])
    obtain ⟨a5,e3⟩:∃ g,g=(f2).heap.size:=⟨_,rfl⟩
    obtain ⟨p1,e4⟩:∃ w',w'=(f2).alloc (.cells #[.int .i64 0,.slice none 0 0,.slice none 0 0] 35):=⟨_,rfl⟩
    rw [← e4] at a2 a9 a3 a0 a8 a1 a7 b1
    rw [← e3] at c6 d3 d4 c7 b1 hne1_
    rw [← e3,← e4]
    clear e3 e4
    have HB1:=hid hne1_;clear hne1_
    refine hK.out _ _ a0.out (fun _=>?_);clear hK K
    try simp only [pq]
    refine oneH 7 rfl fun K hK=>?_
    have hm4_:m≤400:=by have h:=HL2.out;have h2:=(a3.out).len;omega
    go_simp
    go_at_call 42
    refine (ecopied_any B m j ts _ a3.out hm4_).mono ?_
    rintro e c1 ⟨Bc,dc,rfl,hox2,b4⟩
    dsimp only
    have HB2:=hid (fun (h0:dc≠0)=>OwnsX.gt hox2 (Blk.lt (b1.out)) h0)
    have HD12:=hid (OwnsX.apart (a7.out) hox2);have HD21:=hid (OwnsX.apart' (a7.out) hox2)
    have hox2:=OwnsX.base hox2 (show w.heap.size+1+1+1≤_ from Nat.succ_le_of_lt (Blk.lt (a1.out)))
    replace b4:=hid b4
    have i5:=hid (hox2)
    clear hox2
    replace a0:=kH a0 b4
    refine hK.out _ _ a0.out (fun _=>?_);clear hK K
    try simp only [pq]
    refine' twH 8 a0.out ?_
    try simp only [pq]
    refine oneH 10 rfl fun K hK=>?_
    replace b1:=kH b1 b4
    replace a2:=bH a2 b4
    replace a9:=rH a9 b4
    replace a3:=rH a3 b4
    replace a8:=kH a8 b4
    replace a1:=kH a1 b4
    replace a7:=hid (OwnsX.below (a7.out) b4.out)
    have j5:(c1).cell? ⟨a5,0,none⟩=some (.int .i64 0):=Blk.cell (b1.out) 0
    have j6:(c1).frozen? ⟨a5,0,none⟩=false:=Blk.frozen (b1.out) 0
    have j7:(c1).cell? ⟨a5,1,none⟩=some (.slice none 0 0):=Blk.cell (b1.out) 1
    have j8:(c1).frozen? ⟨a5,1,none⟩=false:=Blk.frozen (b1.out) 1
    have j9:(c1).cell? ⟨a5,2,none⟩=some (.slice none 0 0):=Blk.cell (b1.out) 2
    have k0:(c1).frozen? ⟨a5,2,none⟩=false:=Blk.frozen (b1.out) 2
    have hlt_:=Blk.lt (b1.out)
    go_simp
    have g1:=hid (Below.setCell (Below.setCell (Below.setCell (a2.out) (p:=⟨a5,0,none⟩) (c6.out) (.int .i64 c)) (p:=⟨a5,1,none⟩) (c6.out) (.slice Ac n cc)) (p:=⟨a5,2,none⟩) (c6.out) (.slice Bc m dc))
    have g2:=hid (Blk.far (Blk.far (Blk.far (a0.out) (p:=⟨a5,0,none⟩) (d3.out) (.int .i64 c)) (p:=⟨a5,1,none⟩) (d3.out) (.slice Ac n cc)) (p:=⟨a5,2,none⟩) (d3.out) (.slice Bc m dc))
    have g6:=hid (Blk.far (Blk.far (Blk.far (a8.out) (p:=⟨a5,0,none⟩) (d4.out) (.int .i64 c)) (p:=⟨a5,1,none⟩) (d4.out) (.slice Ac n cc)) (p:=⟨a5,2,none⟩) (d4.out) (.slice Bc m dc))
    have g7:=hid (Blk.far (Blk.far (Blk.far (a1.out) (p:=⟨a5,0,none⟩) (c7.out) (.int .i64 c)) (p:=⟨a5,1,none⟩) (c7.out) (.slice Ac n cc)) (p:=⟨a5,2,none⟩) (c7.out) (.slice Bc m dc))
    have g8:=hid (OwnsX.far (OwnsX.far (OwnsX.far (a7.out) (a:=⟨a5,0,none⟩) (HB1.out) (.int .i64 c)) (a:=⟨a5,1,none⟩) (HB1.out) (.slice Ac n cc)) (a:=⟨a5,2,none⟩) (HB1.out) (.slice Bc m dc))
    have g9:=hid (Blk.set_ (Blk.set_ (Blk.set_ (b1.out) 0 (.int .i64 c)) 1 (.slice Ac n cc)) 2 (.slice Bc m dc))
    have h3:=hid (OwnsX.far (OwnsX.far (OwnsX.far (i5.out) (a:=⟨a5,0,none⟩) (HB2.out) (.int .i64 c)) (a:=⟨a5,1,none⟩) (HB2.out) (.slice Ac n cc)) (a:=⟨a5,2,none⟩) (HB2.out) (.slice Bc m dc))
    obtain ⟨p2,e5⟩:∃ w',w'=((((c1).setCell ⟨a5,0,none⟩ (.int .i64 c)).setCell ⟨a5,1,none⟩ (.slice Ac n cc)).setCell ⟨a5,2,none⟩ (.slice Bc m dc)):=⟨_,rfl⟩
    rw [← e5] at g1 g2 g6 g7 g8 g9 h3
    rw [← e5]
    clear e5 j5 j6 j7 j8 j9 k0 hlt_
    refine hK.out _ _ g2.out (fun _=>?_);clear hK K
    try simp only [pq]
    refine wpAnyH_done (by kernel_rfl) ?_ _
    go_wp2
    go_meet
    exact ⟨_,Ac,cc,Bc,dc,rfl,g8.out,h3.out,g9.out,g7.out,g6.out,g1.out,HB1.out,HB2.out,HD12.out,HD21.out,c7.out,c6.out⟩
   exact AllReadyH.nil
  refine rdH rfl (fun K hK=>?_) ?_
  · -- 9: alloc
   go_simp
   have c8:=hid (a2.out.size)
   have d5:=hid (Nat.ne_of_lt (Blk.lt a0.out))
   have d6:=hid (Nat.ne_of_lt (Blk.lt a8.out))
   have c9:=hid (Nat.ne_of_lt (Blk.lt a1.out))
   obtain ⟨o_,ho_⟩:∃ o,o=(.cells #[.int .i64 0,.slice none 0 0,.slice none 0 0] 35:Obj):=⟨_,rfl⟩
   replace a2:=bA a2 o_
   replace a9:=rA a9 o_
   replace a3:=rA a3 o_
   replace a0:=kA a0 o_
   replace a8:=kA a8 o_
   replace a1:=kA a1 o_
   subst ho_
   have b0:=hid (Blk.new (f1) 35 #[.int .i64 0,.slice none 0 0,.slice none 0 0])
   obtain ⟨a6,e6⟩:∃ g,g=(f1).heap.size:=⟨_,rfl⟩
   obtain ⟨p3,e7⟩:∃ w',w'=(f1).alloc (.cells #[.int .i64 0,.slice none 0 0,.slice none 0 0] 35):=⟨_,rfl⟩
   rw [← e7] at a2 a9 a3 a0 a8 a1 b0
   rw [← e6] at c8 d5 d6 c9 b0
   rw [← e6,← e7]
   clear e6 e7
   refine hK.out _ _ a0.out (fun _=>?_);clear hK K
   try simp only [pq]
   refine oneH 4 rfl fun K hK=>?_
   have hn4_:n≤400:=by have h:=HL1.out;have h2:=(a9.out).len;omega
   go_simp
   go_at_call 42
   refine (ecopied_any A n k ws _ a9.out hn4_).mono ?_
   rintro e p4 ⟨Ac,cc,rfl,hox1,b7⟩
   dsimp only
   have HB1:=hid (fun (h0:cc≠0)=>OwnsX.gt hox1 (Blk.lt (b0.out)) h0)
   have hox1:=OwnsX.base hox1 (show w.heap.size+1+1+1≤_ from Nat.succ_le_of_lt (Blk.lt (a1.out)))
   replace b7:=hid b7
   have b9:=hid (hox1)
   clear hox1
   replace a0:=kH a0 b7
   refine hK.out _ _ a0.out (fun _=>?_);clear hK K
   try simp only [pq]
   refine oneH 7 rfl fun K hK=>?_
   replace a3:=rH a3 b7
   replace b0:=kH b0 b7
   replace a1:=kH a1 b7
   have hm4_:m≤400:=by have h:=HL2.out;have h2:=(a3.out).len;omega
   go_simp
   go_at_call 42
   refine (ecopied_any B m j ts _ a3.out hm4_).mono ?_
   rintro e c2 ⟨Bc,dc,rfl,hox2,b5⟩
   dsimp only
   have HB2:=hid (fun (h0:dc≠0)=>OwnsX.gt hox2 (Blk.lt (b0.out)) h0)
   have HD12:=hid (OwnsX.apart (b9.out) hox2);have HD21:=hid (OwnsX.apart' (b9.out) hox2)
   have hox2:=OwnsX.base hox2 (show w.heap.size+1+1+1≤_ from Nat.succ_le_of_lt (Blk.lt (a1.out)))
   replace b5:=hid b5
   have i6:=hid (hox2)
   clear hox2
   replace a0:=kH a0 b5
   refine hK.out _ _ a0.out (fun _=>?_);clear hK K
   try simp only [pq]
   refine' twH 8 a0.out ?_
   try simp only [pq]
   refine oneH 10 rfl fun K hK=>?_
   replace b0:=kH b0 b5
   replace a2:=bH (bH a2 b7) b5
   replace a9:=rH (rH a9 b7) b5
   replace a3:=rH a3 b5
   replace a8:=kH (kH a8 b7) b5
   replace a1:=kH a1 b5
   replace b9:=hid (OwnsX.below (b9.out) b5.out)
   have l0:(c2).cell? ⟨a6,0,none⟩=some (.int .i64 0):=Blk.cell (b0.out) 0
   have l1:(c2).frozen? ⟨a6,0,none⟩=false:=Blk.frozen (b0.out) 0
   have l2:(c2).cell? ⟨a6,1,none⟩=some (.slice none 0 0):=Blk.cell (b0.out) 1
   have l3:(c2).frozen? ⟨a6,1,none⟩=false:=Blk.frozen (b0.out) 1
   have l4:(c2).cell? ⟨a6,2,none⟩=some (.slice none 0 0):=Blk.cell (b0.out) 2
   have l5:(c2).frozen? ⟨a6,2,none⟩=false:=Blk.frozen (b0.out) 2
   have hlt_:=Blk.lt (b0.out)
   go_simp
   have h4:=hid (Below.setCell (Below.setCell (Below.setCell (a2.out) (p:=⟨a6,0,none⟩) (c8.out) (.int .i64 c)) (p:=⟨a6,1,none⟩) (c8.out) (.slice Ac n cc)) (p:=⟨a6,2,none⟩) (c8.out) (.slice Bc m dc))
   have h5:=hid (Blk.far (Blk.far (Blk.far (a0.out) (p:=⟨a6,0,none⟩) (d5.out) (.int .i64 c)) (p:=⟨a6,1,none⟩) (d5.out) (.slice Ac n cc)) (p:=⟨a6,2,none⟩) (d5.out) (.slice Bc m dc))
   have h6:=hid (Blk.far (Blk.far (Blk.far (a8.out) (p:=⟨a6,0,none⟩) (d6.out) (.int .i64 c)) (p:=⟨a6,1,none⟩) (d6.out) (.slice Ac n cc)) (p:=⟨a6,2,none⟩) (d6.out) (.slice Bc m dc))
   have h7:=hid (Blk.far (Blk.far (Blk.far (a1.out) (p:=⟨a6,0,none⟩) (c9.out) (.int .i64 c)) (p:=⟨a6,1,none⟩) (c9.out) (.slice Ac n cc)) (p:=⟨a6,2,none⟩) (c9.out) (.slice Bc m dc))
   have h8:=hid (Blk.set_ (Blk.set_ (Blk.set_ (b0.out) 0 (.int .i64 c)) 1 (.slice Ac n cc)) 2 (.slice Bc m dc))
   have h9:=hid (OwnsX.far (OwnsX.far (OwnsX.far (b9.out) (a:=⟨a6,0,none⟩) (HB1.out) (.int .i64 c)) (a:=⟨a6,1,none⟩) (HB1.out) (.slice Ac n cc)) (a:=⟨a6,2,none⟩) (HB1.out) (.slice Bc m dc))
   have i1:=hid (OwnsX.far (OwnsX.far (OwnsX.far (i6.out) (a:=⟨a6,0,none⟩) (HB2.out) (.int .i64 c)) (a:=⟨a6,1,none⟩) (HB2.out) (.slice Ac n cc)) (a:=⟨a6,2,none⟩) (HB2.out) (.slice Bc m dc))
   obtain ⟨p5,e8⟩:∃ w',w'=((((c2).setCell ⟨a6,0,none⟩ (.int .i64 c)).setCell ⟨a6,1,none⟩ (.slice Ac n cc)).setCell ⟨a6,2,none⟩ (.slice Bc m dc)):=⟨_,rfl⟩
   rw [← e8] at h4 h5 h6 h7 h8 h9 i1
   rw [← e8]
   clear e8 l0 l1 l2 l3 l4 l5 hlt_
   refine hK.out _ _ h5.out (fun _=>?_);clear hK K
   try simp only [pq]
   refine wpAnyH_done (by kernel_rfl) ?_ _
   go_wp2
   go_meet
   exact ⟨_,Ac,cc,Bc,dc,rfl,h9.out,i1.out,h8.out,h7.out,h6.out,h4.out,HB1.out,HB2.out,HD12.out,HD21.out,c9.out,c8.out⟩
  exact AllReadyH.nil
 case rest =>
  obtain ⟨gq,Ac,cc,Bc,dc,rfl,k1,k2,k3,k4,k5,k6,k7,k8,k9,l6,l7,l8⟩:=hcut
  clear a2 a9 a3 a0 a8 a1
  have i7:=hid (k1)
  have i8:=hid (k2)
  have f0:=hid (k3)
  have d7:=hid (k4)
  have d8:=hid (k5)
  have e9:=hid (k6)
  have HB1:=hid k7;have HB2:=hid k8;have HD12:=hid k9;have HD21:=hid l6;have NEZ:=hid l7;have LBO:=hid l8;clear k1 k2 k3 k4 k5 k6 k7 k8 k9 l6 l7 l8
  obtain ⟨o0,o1,o2,o3⟩:=at4 d8
  obtain ⟨o4,o5,o6⟩:=at3 d7
  obtain ⟨o7,o8,o9⟩:=at3 f0
  have NB:=hid (Blk.new wc 50 #[.int .i64 f,.int .i64 t,.int .i64 mm,.int .i64 ib])
  have OX1:=hid (OwnsX.alloc (i7.out) (.cells #[.int .i64 f,.int .i64 t,.int .i64 mm,.int .i64 ib] 50))
  have OX2:=hid (OwnsX.alloc (i8.out) (.cells #[.int .i64 f,.int .i64 t,.int .i64 mm,.int .i64 ib] 50))
  have BOA:=hid (Blk.alloc (f0.out) (.cells #[.int .i64 f,.int .i64 t,.int .i64 mm,.int .i64 ib] 50))
  have BZA:=hid (Blk.alloc (d7.out) (.cells #[.int .i64 f,.int .i64 t,.int .i64 mm,.int .i64 ib] 50))
  have XBA:=hid (Blk.alloc (d8.out) (.cells #[.int .i64 f,.int .i64 t,.int .i64 mm,.int .i64 ib] 50))
  have BLA:=hid (Below.alloc (e9.out) ((e9.out).size) (.cells #[.int .i64 f,.int .i64 t,.int .i64 mm,.int .i64 ib] 50))
  have hsz_:=Nat.succ_le_of_lt (Blk.lt BZA.out);have hbo_:=Blk.lt BOA.out
  have z4_:(wc.alloc (.cells #[.int .i64 f,.int .i64 t,.int .i64 mm,.int .i64 ib] 50)).cell? ⟨gq,0,none⟩=some (.int .i64 c):=Blk.cell BOA.out 0
  have hn4_:n≤400:=HN4.out;have hm4_:m≤400:=HM4.out
  go_wp2_with (at_builtin;refine wpList_append_X _ rfl (.tmp 34) (.tmp 36) 33 rfl (w.heap.size+1+1+1) 50 i0 _ 4 32 Tryz.underlying33 HI.out HZ0.out HZ1.out HZ2.out rfl (by omega) Ac n cc _ rfl OX1.out ⟨wc.heap.size,0,none⟩ 1 1 (bcells [⟨f,t,mm,ib⟩]) rfl rfl (cells_add (cs:=bcells [⟨f,t,mm,ib⟩]) (show Blk _ _ _ (bcells [⟨f,t,mm,ib⟩]).toArray from NB.out)) (bcells_one _) (by omega) (by unfold maxLen;omega) (by omega) hsz_ ?_;intro g5 c5 w5 hown5 hb5 hg5 hkp5;have HO5:=hid hown5;have HB5:=hid hb5;have bo5:=(hkp5 _ hbo_ HB1.out).trans BOA.out;have BO5:=hid (show Blk w5 gq 35 #[.int .i64 c,.slice Ac n cc,.slice Bc m dc] from bo5);have RO5:=hid (rdB_far (rdB_of OX2.out) hkp5 HD12.out hb5.size);clear hown5 hb5 hkp5 bo5;have q0_:w5.cell? ⟨gq,0,none⟩=some (.int .i64 c):=Blk.cell BO5.out 0;have q1_:w5.cell? ⟨gq,1,none⟩=some (.slice Ac n cc):=Blk.cell BO5.out 1;have q2_:w5.cell? ⟨gq,2,none⟩=some (.slice Bc m dc):=Blk.cell BO5.out 2;have q3_:w5.frozen? ⟨gq,1,none⟩=false:=Blk.frozen BO5.out 1)
  have hbz_:w.heap.size+1+1≠gq:=NEZ.out;have hlb_:w.heap.size≤gq:=LBO.out
  have rdn_:=(OwnB.rd (show OwnB w5 (w.heap.size+1+1+1) (some ⟨g5,0,none⟩) (n+1) c5 (ws++[⟨f,t,mm,ib⟩]) from by have h:=HO5.out;rw [← bcells_append] at h;exact h)).1
  have RN:=hid (rdB_setN rdn_ ⟨gq,1,none⟩ (.slice (some ⟨g5,0,none⟩) (n+1) c5) BO5.out (by intro j x;rcases j with _|_|j<;>simp));have RO:=hid (rdB_setN RO5.out ⟨gq,1,none⟩ (.slice (some ⟨g5,0,none⟩) (n+1) c5) BO5.out (by intro j x;rcases j with _|_|j<;>simp));clear rdn_
  have BO6:=hid (Blk.set_ BO5.out 1 (.slice (some ⟨g5,0,none⟩) (n+1) c5));have BZ6:=hid (Blk.far (Blk.below BZA.out HB5.out (by omega)) (p:=⟨gq,1,none⟩) hbz_ (.slice (some ⟨g5,0,none⟩) (n+1) c5));have BL6:=hid (Below.setCell (Below.trans BLA.out (Below.mono HB5.out (by omega))) (p:=⟨gq,1,none⟩) hlb_ (.slice (some ⟨g5,0,none⟩) (n+1) c5))
  clear q0_ q1_ q2_ q3_ z4_ hsz_ hbo_ d7 d8
  obtain ⟨w6,hw6⟩:∃ w',w'=w5.setCell ⟨gq,1,none⟩ (.slice (some ⟨g5,0,none⟩) (n+1) c5):=⟨_,rfl⟩
  rw [← hw6] at RN RO BO6 BZ6 BL6 ⊢
  clear hw6
  have hc:=CheckOutline_any c (some ⟨g5,0,none⟩) Bc (n+1) c5 m dc (ws++[⟨f,t,mm,ib⟩]) ts w6 RN.out RO.out (by unfold maxLen;omega) (by unfold maxLen;omega)
  rw [E2.out] at hc
  have HC:=hid hc;clear hc
  refine HC.out.mono ?_
  rintro e w9 ⟨rfl,hb⟩
  clear HC
  have RN9:=hid (RdB.below RN.out hb);have RO9:=hid (RdB.below RO.out hb)
  have BO9:=hid (show Blk w9 gq 35 #[.int .i64 c,.slice (some ⟨g5,0,none⟩) (n+1) c5,.slice Bc m dc] from Blk.keep BO6.out hb);have BZ9:=hid (show Blk w9 (w.heap.size+1+1) 35 #[.int .i64 0,.slice none 0 0,.slice none 0 0] from Blk.keep BZ6.out hb);have BL9:=hid (Below.trans BL6.out (Below.mono hb BL6.out.size));clear RN RO BO6 BZ6 BL6 hb
  have q0_:w9.cell? ⟨gq,0,none⟩=some (.int .i64 c):=Blk.cell BO9.out 0
  have q1_:w9.cell? ⟨gq,1,none⟩=some (.slice (some ⟨g5,0,none⟩) (n+1) c5):=Blk.cell BO9.out 1
  have q2_:w9.cell? ⟨gq,2,none⟩=some (.slice Bc m dc):=Blk.cell BO9.out 2
  have y0_:w9.cell? ⟨w.heap.size+1+1,0,none⟩=some (.int .i64 0):=Blk.cell BZ9.out 0
  have f0_:w9.frozen? ⟨w.heap.size+1+1,0,none⟩=false:=Blk.frozen BZ9.out 0
  have y1_:w9.cell? ⟨w.heap.size+1+1,1,none⟩=some (.slice none 0 0):=Blk.cell BZ9.out 1
  have f1_:w9.frozen? ⟨w.heap.size+1+1,1,none⟩=false:=Blk.frozen BZ9.out 1
  have y2_:w9.cell? ⟨w.heap.size+1+1,2,none⟩=some (.slice none 0 0):=Blk.cell BZ9.out 2
  have f2_:w9.frozen? ⟨w.heap.size+1+1,2,none⟩=false:=Blk.frozen BZ9.out 2
  have hlz_:=Blk.lt BZ9.out;have hlo_:=Blk.lt BO9.out
  by_cases hq:q=0
  · subst hq
    go_wp2
    have bel_:=BL9.out
    refine bodyPost_ret (v:=.tuple #[.agg #[.int .i64 c,.slice (some ⟨g5,0,none⟩) (n+1) c5,.slice Bc m dc],.int .i64 0]) (by simp [results,Tryz.results16,go_sem,y0_,y1_,y2_,f0_,f1_,f2_]) rfl ?_
    exact ⟨(some ⟨g5,0,none⟩),(n+1),c5,Bc,m,dc,rfl,rdB_setN (rdB_setN (rdB_setN (RN9.out) ⟨w.heap.size+1+1,0,none⟩ (.int .i64 c) (BZ9.out) (by intro j x;rcases j with _|_|j<;>simp)) ⟨w.heap.size+1+1,1,none⟩ (.slice (some ⟨g5,0,none⟩) (n+1) c5) (Blk.set_ (BZ9.out) 0 (.int .i64 c)) (by intro j x;rcases j with _|_|j<;>simp)) ⟨w.heap.size+1+1,2,none⟩ (.slice Bc m dc) (Blk.set_ (Blk.set_ (BZ9.out) 0 (.int .i64 c)) 1 (.slice (some ⟨g5,0,none⟩) (n+1) c5)) (by intro j x;rcases j with _|_|j<;>simp),rdB_setN (rdB_setN (rdB_setN (RO9.out) ⟨w.heap.size+1+1,0,none⟩ (.int .i64 c) (BZ9.out) (by intro j x;rcases j with _|_|j<;>simp)) ⟨w.heap.size+1+1,1,none⟩ (.slice (some ⟨g5,0,none⟩) (n+1) c5) (Blk.set_ (BZ9.out) 0 (.int .i64 c)) (by intro j x;rcases j with _|_|j<;>simp)) ⟨w.heap.size+1+1,2,none⟩ (.slice Bc m dc) (Blk.set_ (Blk.set_ (BZ9.out) 0 (.int .i64 c)) 1 (.slice (some ⟨g5,0,none⟩) (n+1) c5)) (by intro j x;rcases j with _|_|j<;>simp),by unfold maxLen;omega,by unfold maxLen;omega,(by have hsz_:=Below.size bel_;repeat' (first|with_reducible exact bel_|with_reducible exact Below.refl _ _|with_reducible refine Below.alloc ?_ ?_ _|with_reducible refine Below.setCell ?_ ?_ _|with_reducible refine Below.drew ?_|with_reducible refine below_setRow ?_ ?_ _|omega | (simp;done) | (simp;omega)))⟩
  · have hne:(q != 0)=true:=by simpa using hq
    have HQ:=hid hq;clear hq
    go_wp2
    have bel_:=BL9.out
    refine bodyPost_ret (v:=.tuple #[.agg #[.int .i64 0,.slice none 0 0,.slice none 0 0],.int .i64 q]) (by simp [results,Tryz.results16,go_sem,y0_,y1_,y2_,f0_,f1_,f2_]) rfl ?_
    exact ⟨none,0,0,none,0,0,by rw [if_neg HQ.out],by rw [if_neg HQ.out];exact RdB.nil_ _,by rw [if_neg HQ.out];exact RdB.nil_ _,by unfold maxLen;omega,by unfold maxLen;omega,(by have hsz_:=Below.size bel_;repeat' (first|with_reducible exact bel_|with_reducible exact Below.refl _ _|with_reducible refine Below.alloc ?_ ?_ _|with_reducible refine Below.setCell ?_ ?_ _|with_reducible refine Below.drew ?_|with_reducible refine below_setRow ?_ ?_ _|omega | (simp;done) | (simp;omega)))⟩
set_option maxRecDepth 100000 in
theorem With_err (c:Int) (A B:Option Addr) (n k m j:Nat) (ws ts:List Bnd) (w:World) (h1:RdB w A n k ws) (h2:RdB w B m j ts) (hn:n≤maxLen) (hm:m≤maxLen) (u:Bool) (f t mm ib:Int) (q:Int) (HQ:Hid (q≠0)) (hne:(q != 0)=true) (E1:Hid (chkO ⟨c,ws,ts⟩=q)) :
 Calls Tryz.prog 16 #[.agg #[.int .i64 c,.slice A n k,.slice B m j],.bool u,.agg #[.int .i64 f,.int .i64 t,.int .i64 mm,.int .i64 ib]] w (RetO q (withO u ⟨c,ws,ts⟩ ⟨f,t,mm,ib⟩) w):=by
  go_enter Tryz.func16,Tryz.ntmps16
  obtain ⟨a3,a4,a0,a1⟩:=ent3 w #[.int .i64 c,.slice A n k,.slice B m j] 35 #[.int .i64 f,.int .i64 t,.int .i64 mm,.int .i64 ib] 50 #[.int .i64 0,.slice none 0 0,.slice none 0 0] 35
  have a9:=rI h1 a1
  have b0:=rI h2 a1
  clear h1 h2
  obtain ⟨c8,c9,d0⟩:=at3 a3
  obtain ⟨b1,b2,b3,b4⟩:=at4 a4
  obtain ⟨b5,b6,b7⟩:=at3 a0
  have hc:=CheckOutline_any c A B n k m j ws ts _ a9.out b0.out hn hm
  rw [E1.out] at hc
  try dsimp only at hc
  have HC:=hid hc;clear hc
  go_wp2_with fail
  refine HC.out.mono ?_
  rintro e a5 ⟨rfl,hb⟩
  clear HC
  clear c8 c9 d0 b1 b2 b3 b4 b5 b6 b7
  have a2:=hid hb
  clear hb
  replace a3:=kH a3 a2
  obtain ⟨b8,b9,c0⟩:=at3 a3
  replace a4:=kH a4 a2
  obtain ⟨c1,c2,c3,c4⟩:=at4 a4
  replace a0:=kH a0 a2
  obtain ⟨c5,c6,c7⟩:=at3 a0
  have a6:(a5).frozen? ⟨w.heap.size+1+1,0,none⟩=false:=Blk.frozen a0.out 0
  have a7:(a5).frozen? ⟨w.heap.size+1+1,1,none⟩=false:=Blk.frozen a0.out 1
  have a8:(a5).frozen? ⟨w.heap.size+1+1,2,none⟩=false:=Blk.frozen a0.out 2
  have hlb_:=Blk.lt a0.out
  replace a1:=bH a1 a2
  have HK:=hid (a1.out)
  go_wp2
  have bel_:=HK.out
  refine bodyPost_ret (v:=.tuple #[.agg #[.int .i64 0,.slice none 0 0,.slice none 0 0],.int .i64 q]) (by simp [results,Tryz.results16,go_sem,b8,b9,c0,c1,c2,c3,c4,c5,c6,c7,a6,a7,a8]) rfl ?_
  exact ⟨none,0,0,none,0,0,by rw [if_neg HQ.out],by rw [if_neg HQ.out];exact RdB.nil_ _,by rw [if_neg HQ.out];exact RdB.nil_ _,by unfold maxLen;omega,by unfold maxLen;omega,(by have hsz_:=Below.size bel_;repeat' (first|with_reducible exact bel_|with_reducible exact Below.refl _ _|with_reducible refine Below.alloc ?_ ?_ _|with_reducible refine Below.setCell ?_ ?_ _|with_reducible refine Below.drew ?_|with_reducible refine below_setRow ?_ ?_ _|omega | (simp;done) | (simp;omega)))⟩
set_option maxRecDepth 100000 in
theorem With_any (c:Int) (A B:Option Addr) (n k m j:Nat) (ws ts:List Bnd) (w:World) (h1:RdB w A n k ws) (h2:RdB w B m j ts) (hn:n≤maxLen) (hm:m≤maxLen) (u:Bool) (f t mm ib:Int) :
 Calls Tryz.prog 16 #[.agg #[.int .i64 c,.slice A n k,.slice B m j],.bool u,.agg #[.int .i64 f,.int .i64 t,.int .i64 mm,.int .i64 ib]] w (RetO (withE u ⟨c,ws,ts⟩ ⟨f,t,mm,ib⟩) (withO u ⟨c,ws,ts⟩ ⟨f,t,mm,ib⟩) w):=by
 unfold withE
 obtain ⟨q,hq⟩:∃ q,chkO ⟨c,ws,ts⟩=q:=⟨_,rfl⟩
 rw [hq]
 by_cases h0:q=0
 · subst h0
   rw [if_neg (by simp)]
   cases u
   · exact With_ok0 c A B n k m j ws ts w h1 h2 hn hm f t mm ib (hid hq) _ (hid rfl)
   · exact With_ok1 c A B n k m j ws ts w h1 h2 hn hm f t mm ib (hid hq) _ (hid rfl)
 · rw [if_pos h0]
   exact With_err c A B n k m j ws ts w h1 h2 hn hm u f t mm ib q (hid h0) (by simpa using h0) (hid hq)
end Go.Proofs.YtebkniakflhhkaaGreatDoor
