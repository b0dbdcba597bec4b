import Derived.Test.YtjjmifcjailpaaaGreatPERefQ
set_option maxHeartbeats 4000000
set_option linter.unusedSimpArgs false
set_option linter.unusedVariables false
namespace Go.Proofs.YtjjmifcjailpaaaGreat
open Go.Lib (hid)
open Go.RowKit
def frontB (x p:Prg):Bool:=(x.af == p.af-1)&&(x.at2 == p.at2)&&(x.bf == p.bf)&&(x.bt == p.bt+1)
def backB (x p:Prg):Bool:=(x.af == p.af)&&(x.at2 == p.at2+1)&&(x.bf == p.bf-1)&&(x.bt == p.bt)
def longB (l:List Prg) (p:Prg):Bool:=l.any fun x=>frontB x p || backB x p
theorem any4 (a b c d:Bool):a=false∨(a=true∧b=false)∨(a=true∧b=true∧c=false)∨(a=true∧b=true∧c=true∧d=false)∨(a=true∧b=true∧c=true∧d=true):=by
 cases a<;>cases b<;>cases c<;>cases d<;>simp
theorem yes4 {a b c d:Bool} (h:(a&&b&&c&&d)=true):a=true∧b=true∧c=true∧d=true:=by
 cases a<;>cases b<;>cases c<;>cases d<;>simp_all
theorem no4 {a b c d:Bool} (h:(a&&b&&c&&d)=false):a=false∨(a=true∧b=false)∨(a=true∧b=true∧c=false)∨(a=true∧b=true∧c=true∧d=false):=by
 cases a<;>cases b<;>cases c<;>cases d<;>simp_all
theorem no4' {a b c d:Bool} (h:a=false∨(a=true∧b=false)∨(a=true∧b=true∧c=false)∨(a=true∧b=true∧c=true∧d=false)):(a&&b&&c&&d)=false:=by
 cases a<;>cases b<;>cases c<;>cases d<;>simp_all
theorem long_at {l:List Prg} {k:Nat} {f t mm i:Int} (h:(l.map pB)[k]?=some ⟨f,t,mm,i⟩) (p:Prg):l[k]?=some ⟨f,t,mm,i⟩ ∧
 ((frontB ⟨f,t,mm,i⟩ p=true∨backB ⟨f,t,mm,i⟩ p=true→longB l p=true)∧(frontB ⟨f,t,mm,i⟩ p=false→backB ⟨f,t,mm,i⟩ p=false→longB (l.take k) p=false→longB (l.take (k+1)) p=false)):=by
 rw [List.getElem?_map] at h
 have e:l[k]?=some ⟨f,t,mm,i⟩:=by
  cases hx:l[k]? with
  | none=>rw [hx] at h;cases h
  | some x =>
   rw [hx] at h
   obtain ⟨x1,x2,x3,x4⟩:=x
   simp only [Option.map_some,pB,Option.some.injEq,Bnd.mk.injEq] at h
   obtain ⟨rfl,rfl,rfl,rfl⟩:=h
   rfl
 refine ⟨e,fun h=>?_,fun h1 h2 h3=>?_⟩
 · unfold longB
   rw [List.any_eq_true]
   exact ⟨_,List.mem_of_getElem? e,by simpa using h⟩
 · unfold longB at h3 ⊢
   rw [List.take_add_one,e,List.any_append,h3]
   simp [h1,h2]
theorem longN_pred (a b:Otl) {q:Nat} (h:0<q):(meetL a b (q:Int)=[]→longN a b q=longN a b (q-1))∧(meetL a b (q:Int)≠[]→longN a b q=q):=by
 obtain ⟨q,rfl⟩:∃ r,q=r+1:=⟨q-1,by omega⟩
 constructor
 · intro e
   show (if (meetL a b ((q+1:Nat):Int)).isEmpty then longN a b q else q+1)=_
   rw [e];rfl
 · intro e
   show (if (meetL a b ((q+1:Nat):Int)).isEmpty then longN a b q else q+1)=_
   rw [if_neg (by simpa using e)]
theorem meetL_high {a b:Otl} {s:Int} (h:a.c<s∨b.c<s):meetL a b s=[]:=by
 refine List.eq_nil_iff_forall_not_mem.2 fun p hp=>?_
 obtain ⟨h1,h2,h3,h4,h5,h6,h7⟩:=mem_pairsL.1 (mem_meetL.1 hp).1
 omega
theorem longN_up (a b:Otl) (n:Nat) (h:∀ s:Nat,n<s→meetL a b (s:Int)=[]):∀ m,longN a b (n+m)=longN a b n
 | 0=>rfl
 | m+1=>by
  rw [← longN_up a b n h m]
  exact (longN_pred a b (q:=n+m+1) (by omega)).1 (h _ (by omega))
theorem longN_16 {a b:Otl} (h:both a b=0):longN a b 16=longN a b (mostN a b):=by
 obtain ⟨oa,ob,-,-⟩:=both_ok h
 obtain ⟨a1,a2,-,-⟩:=chkO_ok oa
 obtain ⟨b1,b2,-,-⟩:=chkO_ok ob
 obtain ⟨m,hm⟩:∃ m,16=mostN a b+m:=⟨16-mostN a b,by unfold mostN;omega⟩
 rw [hm]
 exact longN_up a b _ (fun s hs=>meetL_high (by unfold mostN at hs;omega)) m
set_option maxRecDepth 100000 in
theorem rbefore_1 (p1 p2 p3 p4 q1 q2 q3 q4:Int) (w:World) (he:(p1 != q1)=true) (HE:Hid (p1≠q1)):Calls Tryz.prog 69 #[.agg #[.int .i64 p1,.int .i64 p2,.int .i64 p3,.int .i64 p4],.agg #[.int .i64 q1,.int .i64 q2,.int .i64 q3,.int .i64 q4]] w fun e w'=>e=.returned (.bool (strB ⟨p1,p2,p3,p4⟩ ⟨q1,q2,q3,q4⟩))∧Below w.heap.size w w':=by
 go_enter Tryz.func69,Tryz.ntmps69
 obtain ⟨a1,a2,a0⟩:=ent2 w #[.int .i64 p1,.int .i64 p2,.int .i64 p3,.int .i64 p4] 28 #[.int .i64 q1,.int .i64 q2,.int .i64 q3,.int .i64 q4] 28
 obtain ⟨a5,a6,a7,a8⟩:=at4 a1
 obtain ⟨a9,b0,a3,a4⟩:=at4 a2
 go_wp2
 go_ret
 exact ⟨ret_bool (by unfold strB;simp [HE.out]),a0.out⟩
set_option maxRecDepth 100000 in
theorem rbefore_2 (p1 p2 p3 p4 q1 q2 q3 q4:Int) (w:World) (he1:(p1 != q1)=false) (he:(p2 != q2)=true) (HE:Hid (p1=q1∧p2≠q2)):Calls Tryz.prog 69 #[.agg #[.int .i64 p1,.int .i64 p2,.int .i64 p3,.int .i64 p4],.agg #[.int .i64 q1,.int .i64 q2,.int .i64 q3,.int .i64 q4]] w fun e w'=>e=.returned (.bool (strB ⟨p1,p2,p3,p4⟩ ⟨q1,q2,q3,q4⟩))∧Below w.heap.size w w':=by
 go_enter Tryz.func69,Tryz.ntmps69
 obtain ⟨a1,a2,a0⟩:=ent2 w #[.int .i64 p1,.int .i64 p2,.int .i64 p3,.int .i64 p4] 28 #[.int .i64 q1,.int .i64 q2,.int .i64 q3,.int .i64 q4] 28
 obtain ⟨a5,a6,a7,a8⟩:=at4 a1
 obtain ⟨a9,b0,a3,a4⟩:=at4 a2
 go_wp2
 go_ret
 exact ⟨ret_bool (by unfold strB;simp [HE.out]),a0.out⟩
set_option maxRecDepth 100000 in
theorem rbefore_3 (p1 p2 p3 p4 q1 q2 q3 q4:Int) (w:World) (he1:(p1 != q1)=false) (he:(p2 != q2)=false) (HE:Hid (p1=q1∧p2=q2)):Calls Tryz.prog 69 #[.agg #[.int .i64 p1,.int .i64 p2,.int .i64 p3,.int .i64 p4],.agg #[.int .i64 q1,.int .i64 q2,.int .i64 q3,.int .i64 q4]] w fun e w'=>e=.returned (.bool (strB ⟨p1,p2,p3,p4⟩ ⟨q1,q2,q3,q4⟩))∧Below w.heap.size w w':=by
 go_enter Tryz.func69,Tryz.ntmps69
 obtain ⟨a1,a2,a0⟩:=ent2 w #[.int .i64 p1,.int .i64 p2,.int .i64 p3,.int .i64 p4] 28 #[.int .i64 q1,.int .i64 q2,.int .i64 q3,.int .i64 q4] 28
 obtain ⟨a5,a6,a7,a8⟩:=at4 a1
 obtain ⟨a9,b0,a3,a4⟩:=at4 a2
 go_wp2
 go_ret
 exact ⟨ret_bool (by unfold strB;simp [HE.out]),a0.out⟩
theorem rbefore_any (p1 p2 p3 p4 q1 q2 q3 q4:Int) (w:World):Calls Tryz.prog 69 #[.agg #[.int .i64 p1,.int .i64 p2,.int .i64 p3,.int .i64 p4],.agg #[.int .i64 q1,.int .i64 q2,.int .i64 q3,.int .i64 q4]] w fun e w'=>e=.returned (.bool (strB ⟨p1,p2,p3,p4⟩ ⟨q1,q2,q3,q4⟩))∧Below w.heap.size w w':=by
 by_cases h:p1=q1
 · by_cases h2:p2=q2
   · exact rbefore_3 _ _ _ _ _ _ _ _ w (by simpa using h) (by simpa using h2) (hid ⟨h,h2⟩)
   · exact rbefore_2 _ _ _ _ _ _ _ _ w (by simpa using h) (by simpa using h2) (hid ⟨h,h2⟩)
 · exact rbefore_1 _ _ _ _ _ _ _ _ w (by simpa using h) (hid h)
set_option maxRecDepth 100000 in
theorem rlonger_any (A:Option Addr) (n c:Nat) (l:List Prg) (p1 p2 p3 p4:Int) (w:World) (hr:RdB w A n c (l.map pB)) (hn:n≤maxLen)
 (wf1:IntKind.i64.wrap (p1-1)=p1-1) (wf2:IntKind.i64.wrap (p2+1)=p2+1) (wf3:IntKind.i64.wrap (p3-1)=p3-1) (wf4:IntKind.i64.wrap (p4+1)=p4+1) :
 Calls Tryz.prog 68 #[.slice A n c,.agg #[.int .i64 p1,.int .i64 p2,.int .i64 p3,.int .i64 p4]] w fun e w'=>e=.returned (.bool (longB l ⟨p1,p2,p3,p4⟩))∧Below w.heap.size w w':=by
 unfold maxLen at hn
 have HR:=hid hr;have HLL:=hid hr.len;clear hr
 go_enter Tryz.func68,Tryz.ntmps68
 obtain ⟨a2,a3⟩:=ent1 w #[.int .i64 p1,.int .i64 p2,.int .i64 p3,.int .i64 p4] 28
 obtain ⟨a8,a9,b0,b1⟩:=at4 a2
 go_wp2
 clear a8 a9 b0 b1
 go_loopw [5] (fun i wr=>∃ k:Nat,k≤n∧i=.int .i64 k∧longB (l.take k) ⟨p1,p2,p3,p4⟩=false∧Blk wr (w.heap.size) 28 #[.int .i64 p1,.int .i64 p2,.int .i64 p3,.int .i64 p4]∧Below w.heap.size w wr) (fun i _=>n-(intOf i).toNat)
 case atStart=>exact ⟨0,Nat.zero_le _,rfl,rfl,a2.out,a3.out⟩
 case round =>
  clear a3 a2
  obtain ⟨k,hk,rfl,i1,i2,i3⟩:=hrel
  obtain ⟨wo,rfl⟩:∃ wo,wo=wr:=⟨wr,rfl⟩
  have HNO:=hid i1;clear i1
  have a1:=hid (i2)
  have a0:=hid (i3)
  clear i2 i3
  by_cases hlt:k<n
  · obtain ⟨b,o,f,t,mm,i,hA,hbw,hx,c0,c1,c2,c3⟩:=(HR.out.below a0.out).get hlt
    subst hA
    obtain ⟨hx,HTK⟩:=long_at hx ⟨p1,p2,p3,p4⟩
    have HX:=hid hx;clear hx;have HTK:=hid HTK
    obtain ⟨o_,ho_⟩:∃ o,o=((.cells #[.int .i64 f,.int .i64 t,.int .i64 mm,.int .i64 i] 28):Obj):=⟨_,rfl⟩
    replace a1:=kA a1 o_
    replace a0:=bA a0 o_
    subst ho_
    have a4:=hid (Blk.new wo 28 #[.int .i64 f,.int .i64 t,.int .i64 mm,.int .i64 i])
    obtain ⟨a5,a6,a7,b2⟩:=at4 a1
    obtain ⟨b3,b4,b5,b6⟩:=at4 a4
    by_cases hF:frontB ⟨f,t,mm,i⟩ ⟨p1,p2,p3,p4⟩=true
    · have HT:=hid (HTK.out.1 (Or.inl hF))
      obtain ⟨e1,e2,e3,e4⟩:=yes4 (a:=f == p1-1) (b:=t == p2) (c:=mm == p3) (d:=i == p4+1) hF
      clear hF
      rcases any4 (f == p1) (t == p2+1) (mm == p3-1) (i == p4) with g1|⟨g1,g2⟩|⟨g1,g2,g3⟩|⟨g1,g2,g3,g4⟩|⟨g1,g2,g3,g4⟩<;>(go_wp2;go_ret;exact ⟨ret_bool (by rw [HT.out]),a0.out⟩)
    · have hF:=no4 (a:=f == p1-1) (b:=t == p2) (c:=mm == p3) (d:=i == p4+1) (Bool.eq_false_iff.2 hF)
      by_cases hB:backB ⟨f,t,mm,i⟩ ⟨p1,p2,p3,p4⟩=true
      · have HT:=hid (HTK.out.1 (Or.inr hB))
        obtain ⟨g1,g2,g3,g4⟩:=yes4 (a:=f == p1) (b:=t == p2+1) (c:=mm == p3-1) (d:=i == p4) hB
        clear hB
        rcases hF with e1|⟨e1,e2⟩|⟨e1,e2,e3⟩|⟨e1,e2,e3,e4⟩<;>(go_wp2;go_ret;exact ⟨ret_bool (by rw [HT.out]),a0.out⟩)
      · have HT:=hid (HTK.out.2 (no4' hF) (Bool.eq_false_iff.2 hB) HNO.out)
        have hB:=no4 (a:=f == p1) (b:=t == p2+1) (c:=mm == p3-1) (d:=i == p4) (Bool.eq_false_iff.2 hB)
        rcases hF with e1|⟨e1,e2⟩|⟨e1,e2,e3⟩|⟨e1,e2,e3,e4⟩<;>rcases hB with g1|⟨g1,g2⟩|⟨g1,g2,g3⟩|⟨g1,g2,g3,g4⟩<;>(
         go_wp2
         go_roundw
         case rel=>exact ⟨k+1,by omega,by go_num,HT.out,a1.out,a0.out⟩
         case measure=>simp [intOf];omega)
  · obtain rfl:k=n:=by omega
    have HN:=hid (show longB l ⟨p1,p2,p3,p4⟩=false by have:=HNO.out;rwa [List.take_of_length_le (by have:=HLL.out;rw [List.length_map] at this;omega)] at this)
    obtain ⟨b7,a5,a6,a7⟩:=at4 a1
    go_wp2
    go_ret
    exact ⟨ret_bool (by rw [HN.out]),a0.out⟩
theorem rPairs_yes (c:Int) (A B:Option Addr) (n k m j:Nat) (ws ts:List Bnd) (d:Int) (C D:Option Addr) (n2 k2 m2 j2:Nat) (ws2 ts2:List Bnd) (s:Int) (w:World) (h1:RdB w A n k ws) (h2:RdB w B m j ts) (hn:n≤maxLen) (hm:m≤maxLen) (h3:RdB w C n2 k2 ws2) (h4:RdB w D m2 j2 ts2) (hn2:n2≤maxLen) (hm2:m2≤maxLen) (hq:both ⟨c,ws,ts⟩ ⟨d,ws2,ts2⟩=0):Calls Tryz.prog 26 #[.agg #[.int .i64 c,.slice A n k,.slice B m j],.agg #[.int .i64 d,.slice C n2 k2,.slice D m2 j2],.int .i64 s] w fun e w'=>∃ A9 n9 c9,e=.returned (.tuple #[.slice A9 n9 c9,.int .i64 0])∧RdB w' A9 n9 c9 ((meetL ⟨c,ws,ts⟩ ⟨d,ws2,ts2⟩ s).map pB)∧n9≤maxLen∧Below w.heap.size w w':=by
 have h:=rPairs_any c A B n k m j ws ts d C D n2 k2 m2 j2 ws2 ts2 s w h1 h2 hn hm h3 h4 hn2 hm2
 unfold RetPL pairsV at h
 rw [if_pos hq] at h
 dsimp only at h
 exact h
set_option maxRecDepth 100000 in
theorem rLongest_err (c:Int) (A B:Option Addr) (n k m j:Nat) (ws ts:List Bnd) (d:Int) (C D:Option Addr) (n2 k2 m2 j2:Nat) (ws2 ts2:List Bnd) (w:World) (h1:RdB w A n k ws) (h2:RdB w B m j ts) (hn:n≤maxLen) (hm:m≤maxLen) (h3:RdB w C n2 k2 ws2) (h4:RdB w D m2 j2 ts2) (hn2:n2≤maxLen) (hm2:m2≤maxLen) (q:Int) (hne:(q != 0)=true) (HQ:Hid (both ⟨c,ws,ts⟩ ⟨d,ws2,ts2⟩=q)):Calls Tryz.prog 28 #[.agg #[.int .i64 c,.slice A n k,.slice B m j],.agg #[.int .i64 d,.slice C n2 k2,.slice D m2 j2]] w fun e w'=>e=.returned (.tuple #[.int .i64 0,.int .i64 q])∧Below w.heap.size w w':=by
 have H1:=hid h1;have H2:=hid h2;have H3:=hid h3;have H4:=hid h4;clear h1 h2 h3 h4
 go_enter Tryz.func28,Tryz.ntmps28
 obtain ⟨a1,a2,a0⟩:=ent2 w #[.int .i64 c,.slice A n k,.slice B m j] 24 #[.int .i64 d,.slice C n2 k2,.slice D m2 j2] 24
 obtain ⟨a4,a5,a6⟩:=at3 a1
 obtain ⟨a7,a8,a9⟩:=at3 a2
 have hc:=rboth_any c A B n k m j ws ts d C D n2 k2 m2 j2 ws2 ts2 _ (RdB.below H1.out a0.out) (RdB.below H2.out a0.out) hn hm (RdB.below H3.out a0.out) (RdB.below H4.out a0.out) hn2 hm2
 rw [HQ.out] at hc
 try dsimp only at hc
 have HC:=hid hc;clear hc
 go_wp2_with fail
 refine HC.out.mono ?_
 rintro e b0 ⟨rfl,hb⟩
 clear HC
 clear a4 a5 a6 a7 a8 a9
 have a3:=hid hb
 clear hb
 replace a1:=kH a1 a3
 obtain ⟨b1,b2,b3⟩:=at3 a1
 replace a2:=kH a2 a3
 obtain ⟨b4,b5,b6⟩:=at3 a2
 go_wp2
 go_ret2
 replace a0:=bH a0 a3
 exact ⟨rfl,a0.out⟩
set_option maxRecDepth 100000 in
theorem rLongest_ok (c:Int) (A B:Option Addr) (n k m j:Nat) (ws ts:List Bnd) (d:Int) (C D:Option Addr) (n2 k2 m2 j2:Nat) (ws2 ts2:List Bnd) (w:World) (h1:RdB w A n k ws) (h2:RdB w B m j ts) (hn:n≤maxLen) (hm:m≤maxLen) (h3:RdB w C n2 k2 ws2) (h4:RdB w D m2 j2 ts2) (hn2:n2≤maxLen) (hm2:m2≤maxLen) (HQ:Hid (both ⟨c,ws,ts⟩ ⟨d,ws2,ts2⟩=0)) (M:Nat) (HM:Hid (longN ⟨c,ws,ts⟩ ⟨d,ws2,ts2⟩ 16=M)):Calls Tryz.prog 28 #[.agg #[.int .i64 c,.slice A n k,.slice B m j],.agg #[.int .i64 d,.slice C n2 k2,.slice D m2 j2]] w fun e w'=>e=.returned (.tuple #[.int .i64 (M:Int),.int .i64 0])∧Below w.heap.size w w':=by
 have H1:=hid h1;have H2:=hid h2;have H3:=hid h3;have H4:=hid h4;clear h1 h2 h3 h4
 go_enter Tryz.func28,Tryz.ntmps28
 obtain ⟨a4,a5,a3⟩:=ent2 w #[.int .i64 c,.slice A n k,.slice B m j] 24 #[.int .i64 d,.slice C n2 k2,.slice D m2 j2] 24
 obtain ⟨c0,c1,c2⟩:=at3 a4
 obtain ⟨c3,c4,c5⟩:=at3 a5
 have hc:=rboth_any c A B n k m j ws ts d C D n2 k2 m2 j2 ws2 ts2 _ (RdB.below H1.out a3.out) (RdB.below H2.out a3.out) hn hm (RdB.below H3.out a3.out) (RdB.below H4.out a3.out) hn2 hm2
 rw [HQ.out] at hc
 try dsimp only at hc
 have HC:=hid hc;clear hc
 go_wp2_with fail
 refine HC.out.mono ?_
 rintro e d4 ⟨rfl,hb⟩
 clear HC
 clear c0 c1 c2 c3 c4 c5
 have a7:=hid hb
 clear hb
 replace a4:=kH a4 a7
 obtain ⟨b4,b5,b6⟩:=at3 a4
 replace a5:=kH a5 a7
 obtain ⟨b7,b8,b9⟩:=at3 a5
 go_wp2
 clear b4 b5 b6 b7 b8 b9
 replace a3:=bH a3 a7
 go_loopw [7] (fun i wr=>∃ q:Nat,q≤16∧i=.int .i64 q∧longN ⟨c,ws,ts⟩ ⟨d,ws2,ts2⟩ q=M∧Blk wr (w.heap.size) 24 #[.int .i64 c,.slice A n k,.slice B m j]∧Blk wr (w.heap.size+1) 24 #[.int .i64 d,.slice C n2 k2,.slice D m2 j2]∧Below w.heap.size w wr) (fun i _=>(intOf i).toNat)
 case atStart=>exact ⟨16,Nat.le_refl _,rfl,HM.out,a4.out,a5.out,a3.out⟩
 case round =>
  clear a3 a4 a5
  obtain ⟨q,hq,rfl,i1,i2,i3,i4⟩:=hrel
  obtain ⟨wo,rfl⟩:∃ wo,wo=wr:=⟨wr,rfl⟩
  have HQM:=hid i1;clear i1
  have a1:=hid (i2)
  have a2:=hid (i3)
  have a0:=hid (i4)
  clear i2 i3 i4
  by_cases hz:0<q
  · have hwq:IntKind.i64.wrap ((q:Int)-1)=((q-1:Nat):Int):=by rw [IntWalk.i64_in _ (by omega)];omega
    have HLP:=hid (longN_pred ⟨c,ws,ts⟩ ⟨d,ws2,ts2⟩ hz)
    obtain ⟨a8,a9,b0⟩:=at3 a1
    obtain ⟨b1,b2,b3⟩:=at3 a2
    have hc:=rPairs_yes c A B n k m j ws ts d C D n2 k2 m2 j2 ws2 ts2 (q:Int) _ (RdB.below H1.out a0.out) (RdB.below H2.out a0.out) hn hm (RdB.below H3.out a0.out) (RdB.below H4.out a0.out) hn2 hm2 HQ.out
    have HC:=hid hc;clear hc
    go_wp2_with fail
    refine HC.out.mono ?_
    rintro e c6 ⟨A9,n9,c9,rfl,hrd,hm9,hb⟩
    clear HC
    clear a8 a9 b0 b1 b2 b3
    have a6:=hid hb
    clear hb
    replace a1:=kH a1 a6
    obtain ⟨c7,c8,d0⟩:=at3 a1
    replace a2:=kH a2 a6
    obtain ⟨d1,d2,d3⟩:=at3 a2
    have HRD:=hid hrd;have HRL:=hid hrd.len;clear hrd
    replace a0:=bH a0 a6
    by_cases hE:n9=0
    · subst hE
      have HZ:=hid (HLP.out.1 (List.eq_nil_of_length_eq_zero (by have:=HRL.out;rw [List.length_map] at this;omega)));clear HLP
      go_wp2
      go_roundw
      case rel=>exact ⟨q-1,by omega,rfl,by rw [← HZ.out];exact HQM.out,a1.out,a2.out,a0.out⟩
      case measure=>simp [intOf];omega
    · have HZ:=hid (HLP.out.2 (fun h=>hE (by have:=HRL.out;rw [h] at this;simpa using this.symm)));clear HLP
      have hM:=HZ.out.symm.trans HQM.out
      subst hM
      go_wp2
      go_ret2
      exact ⟨rfl,a0.out⟩
  · obtain rfl:q=0:=by omega
    have hM:=HQM.out
    unfold longN at hM
    subst hM
    obtain ⟨a8,a9,b0⟩:=at3 a1
    obtain ⟨b1,b2,b3⟩:=at3 a2
    go_wp2
    go_ret2
    exact ⟨rfl,a0.out⟩
theorem rLongest_any (c:Int) (A B:Option Addr) (n k m j:Nat) (ws ts:List Bnd) (d:Int) (C D:Option Addr) (n2 k2 m2 j2:Nat) (ws2 ts2:List Bnd) (w:World) (h1:RdB w A n k ws) (h2:RdB w B m j ts) (hn:n≤maxLen) (hm:m≤maxLen) (h3:RdB w C n2 k2 ws2) (h4:RdB w D m2 j2 ts2) (hn2:n2≤maxLen) (hm2:m2≤maxLen):Calls Tryz.prog 28 #[.agg #[.int .i64 c,.slice A n k,.slice B m j],.agg #[.int .i64 d,.slice C n2 k2,.slice D m2 j2]] w fun e w'=>e=.returned (.tuple #[.int .i64 (longV ⟨c,ws,ts⟩ ⟨d,ws2,ts2⟩).1,.int .i64 (longV ⟨c,ws,ts⟩ ⟨d,ws2,ts2⟩).2])∧Below w.heap.size w w':=by
 unfold longV
 by_cases hq:both ⟨c,ws,ts⟩ ⟨d,ws2,ts2⟩=0
 · rw [if_pos hq]
   exact rLongest_ok c A B n k m j ws ts d C D n2 k2 m2 j2 ws2 ts2 w h1 h2 hn hm h3 h4 hn2 hm2 (hid hq) _ (hid (longN_16 hq))
 · rw [if_neg hq]
   exact rLongest_err c A B n k m j ws ts d C D n2 k2 m2 j2 ws2 ts2 w h1 h2 hn hm h3 h4 hn2 hm2 _ (by simpa using hq) (hid rfl)
end Go.Proofs.YtjjmifcjailpaaaGreat
