import Derived.Test.YtjjmifcjailpaaaGreatUEPlaces
import Derived.Test.YtjjmifcjailpaaaGreatUEPlace
import Derived.Test.YtjjmifcjailpaaaGreatUERefC
set_option maxHeartbeats 4000000
set_option linter.unusedSimpArgs false
set_option linter.unusedVariables false
namespace Go.Proofs.YtjjmifcjailpaaaGreat
open Go.Lib (hid)
open Go.RowKit
theorem rnear_any (A:Option Addr) (m d:Nat) (x:List Int) (P:Int) (w:World) (hr:RdI w A m d x) (hm:m≤maxLen) :
 Calls Tryz.prog 45 #[.slice A m d,.int .i64 P] w fun e w'=>e=.returned (.bool (x.all near1&&decide ((x.length:Int)=P)))∧w=w':=by
 unfold maxLen at hm
 have hl:=hr.len
 have HR:=hid hr;have HL:=hid hl;clear hr hl
 go_enter Tryz.func45,Tryz.ntmps45
 go_wp2
 go_loopw [5] (fun i wr=>∃ k:Nat,k≤m∧i=.int .i64 k∧(∀ v∈x.take k,near1 v=true)∧w=wr) (fun i _=>m-(intOf i).toNat)
 case atStart=>exact ⟨0,Nat.zero_le _,rfl,by simp,rfl⟩
 case round =>
  obtain ⟨k,hk,rfl,hno,rfl⟩:=hrel
  have HNO:=hid hno;clear hno
  by_cases hlt:k<m
  · obtain ⟨b,o,u,rfl,hbw,hx,c0⟩:=HR.out.get hlt
    have HX:=hid hx;clear hx
    have HM:=hid (List.mem_of_getElem? HX.out)
    by_cases hu:u < -100000000
    · have HF:=hid (show (x.all near1&&decide ((x.length:Int)=P))=false by
       rw [List.all_eq_false.2 ⟨u,HM.out,by simp [near1];omega⟩];rfl)
      go_wp2
      go_ret
      exact ⟨ret_bool (by rw [HF.out]),by first|rfl|trivial⟩
    · by_cases hv:(100000000:Int)<u
      · have HF:=hid (show (x.all near1&&decide ((x.length:Int)=P))=false by
         rw [List.all_eq_false.2 ⟨u,HM.out,by simp [near1];omega⟩];rfl)
        go_wp2
        go_ret
        exact ⟨ret_bool (by rw [HF.out]),by first|rfl|trivial⟩
      · have HF:=hid (show near1 u=true by simp [near1];omega)
        go_wp2
        go_roundw
        case rel=>exact ⟨k+1,by omega,by go_num,(by
         rw [List.take_add_one,HX.out]
         intro v h
         rcases List.mem_append.1 h with h|h
         · exact HNO.out v h
         · simp at h;rw [h];exact HF.out),by first|rfl|trivial⟩
        case measure=>simp [intOf];omega
  · obtain rfl:k=m:=by omega
    have hno:∀ v∈x,near1 v=true:=by have:=HNO.out;rwa [List.take_of_length_le (by rw [HL.out];exact Nat.le_refl _)] at this
    have HN:=hid hno;clear hno
    by_cases hp:(k:Int)=P
    · have h1:((k:Int) == P)=true:=by simpa using hp
      have HP:=hid hp;clear hp
      go_wp2
      go_ret
      exact ⟨ret_bool (by rw [List.all_eq_true.2 HN.out,HL.out];simp [HP.out]),by first|rfl|trivial⟩
    · have h1:((k:Int) == P)=false:=by simpa using hp
      have HP:=hid hp;clear hp
      go_wp2
      go_ret
      exact ⟨ret_bool (by rw [List.all_eq_true.2 HN.out,HL.out];simp [HP.out]),by first|rfl|trivial⟩
theorem rkeeps_any (A B:Option Addr) (n c m d:Nat) (l:List Bnd) (x:List Int) (w:World) (hr:RdB w A n c l) (hn:n≤maxLen) (hq:RdI w B m d x) (hm:m≤maxLen)
 (hall:∀ b∈l,(0≤b.f∧b.f<m)∧0≤b.t∧b.t<m) (hxv:∀ i,i<m→-100000000≤at_ x i∧at_ x i≤100000000) :
 Calls Tryz.prog 46 #[.slice A n c,.slice B m d] w fun e w'=>e=.returned (.bool (l.all (keepB x)))∧Below w.heap.size w w':=by
 unfold maxLen at hn hm
 have hl:=hr.len
 have HR:=hid hr;have HQ:=hid hq;have HL:=hid hl;have HALL:=hid hall;have HXV:=hid hxv;clear hr hq hl hall hxv
 go_enter Tryz.func46,Tryz.ntmps46
 go_wp2
 go_loopw [5] (fun i wr=>∃ k:Nat,k≤n∧i=.int .i64 k∧(∀ j,j<k→∀ b,l[j]?=some b→keepB x b=true)∧Below w.heap.size w wr) (fun i _=>n-(intOf i).toNat)
 case atStart=>exact ⟨0,Nat.zero_le _,rfl,(fun j hj=>absurd hj (Nat.not_lt_zero _)),Below.refl _ _⟩
 case round =>
  obtain ⟨k,hk,rfl,hj,hb⟩:=hrel
  have HJ:=hid hj;clear hj
  by_cases hlt:k<n
  · obtain ⟨b,o,f,t,mm,i,hA,hbw,hx,c0,c1,c2,c3⟩:=(HR.out.below hb).get hlt
    obtain ⟨hf,ht⟩:=HALL.out _ (List.mem_of_getElem? hx)
    dsimp only at hf ht
    have HX:=hid hx;clear hx
    subst hA
    obtain ⟨f,rfl⟩:=Int.eq_ofNat_of_zero_le hf.1
    obtain ⟨t,rfl⟩:=Int.eq_ofNat_of_zero_le ht.1
    obtain ⟨b1,o1,v1,hB',hbw1,hx1,d1⟩:=(HQ.out.below hb).get (k:=f) (by omega)
    obtain ⟨b2,o2,v2,hB'',hbw2,hx2,d2⟩:=(HQ.out.below hb).get (k:=t) (by omega)
    subst hB'
    injection hB'' with hB''
    injection hB'' with e1 e2
    subst e1 e2
    have hv1:=HXV.out f (by omega)
    have hv2:=HXV.out t (by omega)
    have q1:at_ x f=v1:=by simp [at_,hx1]
    have q2:at_ x t=v2:=by simp [at_,hx2]
    rw [q1] at hv1
    rw [q2] at hv2
    have Q1:=hid q1;have Q2:=hid q2;clear q1 q2 hx1 hx2 c3
    by_cases hkp:v2-v1≤mm
    · have HKP:=hid hkp
      have hgt:decide (mm<v2-v1)=false:=by simpa using hkp
      clear hkp
      go_wp2_with fail
      go_quiet (fail)
      go_wp2
      go_roundw
      case rel=>exact ⟨k+1,by omega,by go_num,(by
       intro j hj b hb
       by_cases hjk:j<k
       · exact HJ.out j hjk b hb
       · obtain rfl:j=k:=by omega
         rw [HX.out] at hb
         cases hb
         simp only [keepB,look_at,Q1.out,Q2.out]
         exact decide_eq_true HKP.out),hb.trans ⟨rfl,rfl,rfl,Nat.le_refl _,fun _ _=>rfl⟩⟩
      case measure=>simp [intOf];omega
    · have HKP:=hid hkp
      have hgt:decide (mm<v2-v1)=true:=by simpa using hkp
      clear hkp
      have HF:=hid (show l.all (keepB x)=false by
       rw [List.all_eq_false]
       refine ⟨_,List.mem_of_getElem? HX.out,?_⟩
       simp only [keepB,look_at,Q1.out,Q2.out]
       have:=HKP.out
       simp;omega)
      go_wp2_with fail
      go_quiet (fail)
      go_wp2
      go_ret
      exact ⟨ret_bool (by rw [HF.out]),hb.trans ⟨rfl,rfl,rfl,Nat.le_refl _,fun _ _=>rfl⟩⟩
  · obtain rfl:k=n:=by omega
    have HN:=hid (show l.all (keepB x)=true by
     rw [List.all_eq_true]
     intro b hb
     obtain ⟨j,hj,rfl⟩:=List.getElem_of_mem hb
     exact HJ.out j (by rw [← HL.out];exact hj) _ (List.getElem?_eq_getElem hj))
    go_wp2
    go_ret
    exact ⟨ret_bool (by rw [HN.out]),hb⟩
def plTieA (p:Prg) (xa xb:List Int) (m:Int):Bool:=decide (look xa (p.af+m)-look xa p.af=look xb p.bt-look xb (p.bt-m))
def plTieB (p:Prg) (ya yb:List Int) (m:Int):Bool:=decide (look ya (p.af+m)-look ya p.af=look yb (p.bt-1-m)-look yb (p.bt-1))
def plTies (p:Prg) (xa xb ya yb:List Int) (k n:Nat):Bool:=(List.range n).all fun m=>plTieA p xa xb m&&(!decide (m<k) || plTieB p ya yb m)
theorem plTies_succ (p:Prg) (xa xb ya yb:List Int) (k n:Nat):plTies p xa xb ya yb k (n+1)=(plTies p xa xb ya yb k n&&(plTieA p xa xb n&&(!decide (n<k) || plTieB p ya yb n))):=by
 unfold plTies
 rw [List.range_succ,List.all_append]
 simp
theorem plTies_no {p:Prg} {xa xb ya yb:List Int} {k n m:Nat} (hm:m<n) (h:(plTieA p xa xb m&&(!decide (m<k) || plTieB p ya yb m))=false):plTies p xa xb ya yb k n=false:=by
 unfold plTies
 rw [List.all_eq_false]
 exact ⟨m,List.mem_range.2 hm,by simpa using h⟩
theorem plTies_eq {p:Prg} {xa xb ya yb:List Int} {k:Nat} (hk:p.bt-p.bf=k):plTies p xa xb ya yb k (k+1)=ties p xa xb ya yb k:=by
 rw [Bool.eq_iff_iff]
 unfold plTies ties
 simp only [List.all_eq_true,List.mem_range,Bool.and_eq_true,Bool.or_eq_true,Bool.not_eq_true',decide_eq_false_iff_not]
 constructor
 · intro h j hj
   refine ⟨?_,?_⟩
   · have:=(h (k-j) (by omega)).1
     simp only [plTieA,tieW,decide_eq_true_eq] at this ⊢
     rw [show p.af+((k-j:Nat):Int)=p.af+p.bt-(p.bf+j) by omega,show p.bt-((k-j:Nat):Int)=p.bf+j by omega] at this
     exact this
   · have:=(h (k-1-j) (by omega)).2.resolve_left (by omega)
     simp only [plTieB,tieT,decide_eq_true_eq] at this ⊢
     rw [show p.af+((k-1-j:Nat):Int)=p.af+p.bt-1-(p.bf+j) by omega,show p.bt-1-((k-1-j:Nat):Int)=p.bf+j by omega] at this
     exact this
 · intro h m hm
   refine ⟨?_,?_⟩
   · by_cases h0:m=0
     · subst h0;simp [plTieA]
     · have:=(h (k-m) (by omega)).1
       simp only [plTieA,tieW,decide_eq_true_eq] at this ⊢
       rw [show p.af+p.bt-(p.bf+((k-m:Nat):Int))=p.af+m by omega,show p.bf+((k-m:Nat):Int)=p.bt-m by omega] at this
       exact this
   · by_cases hmk:m<k
     · refine .inr ?_
       have:=(h (k-1-m) (by omega)).2
       simp only [plTieB,tieT,decide_eq_true_eq] at this ⊢
       rw [show p.af+p.bt-1-(p.bf+((k-1-m:Nat):Int))=p.af+m by omega,show p.bf+((k-1-m:Nat):Int)=p.bt-1-m by omega] at this
       exact this
     · exact .inl hmk
def plR (a b:Otl) (p:Prg) (xa xb ya yb:List Int) (k:Nat):Bool :=
 (plNear xa (a.c+1)&&plNear xb (b.c+1)&&plNear ya a.c&&plNear yb b.c)&&(a.ws.all (keepB xa)&&b.ws.all (keepB xb)&&a.ts.all (keepB ya)&&b.ts.all (keepB yb))&&plTies p xa xb ya yb k (k+1)
theorem plR_eq {a b:Otl} {p:Prg} {xa xb ya yb:List Int} {k:Nat} (h:chkP a b p=0) (hk:p.bt-p.bf=k):plB a b p xa xb ya yb=plR a b p xa xb ya yb k:=by
 obtain ⟨oa,ob,-,-,-⟩:=chkP_ok h
 obtain ⟨-,-,a1,a2⟩:=chkO_ok oa
 obtain ⟨-,-,b1,b2⟩:=chkO_ok ob
 unfold plB plR
 rw [kept_ref a1,kept_ref a2,kept_ref b1,kept_ref b2,plTies_eq hk,show (p.bt-p.bf).toNat=k by omega]
 generalize plNear xa (a.c+1)=n1;generalize plNear xb (b.c+1)=n2;generalize plNear ya a.c=n3;generalize plNear yb b.c=n4
 generalize a.ws.all (keepB xa)=m1;generalize b.ws.all (keepB xb)=m2;generalize a.ts.all (keepB ya)=m3;generalize b.ts.all (keepB yb)=m4
 cases n1<;>cases n2<;>cases n3<;>cases n4<;>cases m1<;>cases m2<;>cases m3<;>cases m4<;>rfl
theorem rnear_is (A:Option Addr) (m d:Nat) (x:List Int) (P:Int) (w:World) (hr:RdI w A m d x) (hm:m≤maxLen) (b:Bool) (hb:plNear x P=b) :
 Calls Tryz.prog 45 #[.slice A m d,.int .i64 P] w fun e w'=>e=.returned (.bool b)∧Below w.heap.size w w':=by
 subst hb
 refine (rnear_any A m d x P w hr hm).mono ?_
 rintro e w' ⟨rfl,rfl⟩
 exact ⟨rfl,Below.refl _ _⟩
theorem rkeeps_is (A B:Option Addr) (n c m d:Nat) (l:List Bnd) (x:List Int) (P:Int) (w:World) (hr:RdB w A n c l) (hn:n≤maxLen) (hq:RdI w B m d x) (hm:m≤maxLen) (hc:chk P l=0) (hx:plNear x P=true) (b:Bool) (hb:l.all (keepB x)=b) :
 Calls Tryz.prog 46 #[.slice A n c,.slice B m d] w fun e w'=>e=.returned (.bool b)∧Below w.heap.size w w':=by
 subst hb
 obtain ⟨g1,g2⟩:=plNear_at hx
 obtain ⟨-,-,-,hall⟩:=chk_ok hc
 have hlx:=hq.len
 refine rkeeps_any A B n c m d l x w hr hn hq hm (fun b hb=>?_) (fun i hi=>g2 i (by omega))
 have:=hall b hb
 simp only [okBnd,decide_eq_true_eq] at this
 omega
set_option maxRecDepth 100000 in
theorem rCheckPlace_e (c:Int) (A B:Option Addr) (n k m j:Nat) (ws ts:List Bnd) (d:Int) (C D:Option Addr) (n2 k2 m2 j2:Nat) (ws2 ts2:List Bnd) (p1 p2 p3 p4:Int) (w:World) (h1:RdB w A n k ws) (h2:RdB w B m j ts) (hn:n≤maxLen) (hm:m≤maxLen) (h3:RdB w C n2 k2 ws2) (h4:RdB w D m2 j2 ts2) (hn2:n2≤maxLen) (hm2:m2≤maxLen) (X1:Option Addr) (x1 k1:Nat) (xa:List Int) (X2:Option Addr) (x2 k2x:Nat) (xb:List Int) (X3:Option Addr) (x3 k3:Nat) (ya:List Int) (X4:Option Addr) (x4 k4:Nat) (yb:List Int) (hx0:RdI w X1 x1 k1 xa) (hl0:x1≤maxLen) (hx1:RdI w X2 x2 k2x xb) (hl1:x2≤maxLen) (hx2:RdI w X3 x3 k3 ya) (hl2:x3≤maxLen) (hx3:RdI w X4 x4 k4 yb) (hl3:x4≤maxLen) (q:Int) (hq:(q != 0)=true) (E1:Hid (asked ⟨c,ws,ts⟩ ⟨d,ws2,ts2⟩ ⟨p1,p2,p3,p4⟩=q)):Calls Tryz.prog 14 #[.agg #[.int .i64 c,.slice A n k,.slice B m j],.agg #[.int .i64 d,.slice C n2 k2,.slice D m2 j2],.agg #[.int .i64 p1,.int .i64 p2,.int .i64 p3,.int .i64 p4],.agg #[.slice X1 x1 k1,.slice X2 x2 k2x,.slice X3 x3 k3,.slice X4 x4 k4]] w fun e w'=>e=.returned (.tuple #[.bool false,.int .i64 q])∧Below w.heap.size w w':=by
 go_enter Tryz.func14,Tryz.ntmps14
 obtain ⟨a2,a3,a4,a5,a0⟩:=ent4 w #[.int .i64 c,.slice A n k,.slice B m j] 24 #[.int .i64 d,.slice C n2 k2,.slice D m2 j2] 24 #[.int .i64 p1,.int .i64 p2,.int .i64 p3,.int .i64 p4] 28 #[.slice X1 x1 k1,.slice X2 x2 k2x,.slice X3 x3 k3,.slice X4 x4 k4] 36
 have a6:=rI h1 a0
 have a7:=rI h2 a0
 have a8:=rI h3 a0
 have a9:=rI h4 a0
 have c4:=iI hx0 a0
 have c5:=iI hx1 a0
 have c6:=iI hx2 a0
 have c7:=iI hx3 a0
 clear h1 h2 h3 h4 hx0 hx1 hx2 hx3
 obtain ⟨b0,b1,b2⟩:=at3 a2
 obtain ⟨b3,b4,b5⟩:=at3 a3
 obtain ⟨b6,b7,b8,b9⟩:=at4 a4
 obtain ⟨c0,c1,c2,c3⟩:=at4 a5
 have hc:=rAsked_any c A B n k m j ws ts d C D n2 k2 m2 j2 ws2 ts2 p1 p2 p3 p4 _ a6.out a7.out hn hm a8.out a9.out hn2 hm2
 rw [E1.out] at hc
 try dsimp only at hc
 have HC:=hid hc;clear hc
 go_wp2_with fail
 refine HC.out.mono ?_
 rintro e c8 ⟨rfl,hb⟩
 clear HC
 clear b0 b1 b2 b3 b4 b5 b6 b7 b8 b9 c0 c1 c2 c3
 have a1:=hid hb
 clear hb
 replace a2:=kH a2 a1
 obtain ⟨c9,d0,d1⟩:=at3 a2
 replace a3:=kH a3 a1
 obtain ⟨d2,d3,d4⟩:=at3 a3
 replace a4:=kH a4 a1
 obtain ⟨d5,d6,d7,d8⟩:=at4 a4
 replace a5:=kH a5 a1
 obtain ⟨d9,e0,e1,e2⟩:=at4 a5
 go_wp2
 go_ret2
 replace a0:=bH a0 a1
 exact ⟨rfl,a0.out⟩
set_option maxRecDepth 100000 in
theorem rCheckPlace_o (c:Int) (A B:Option Addr) (n k m j:Nat) (ws ts:List Bnd) (d:Int) (C D:Option Addr) (n2 k2 m2 j2:Nat) (ws2 ts2:List Bnd) (p1 p2 p3 p4:Nat) (w:World) (h1:RdB w A n k ws) (h2:RdB w B m j ts) (hn:n≤maxLen) (hm:m≤maxLen) (h3:RdB w C n2 k2 ws2) (h4:RdB w D m2 j2 ts2) (hn2:n2≤maxLen) (hm2:m2≤maxLen) (X1:Option Addr) (x1 k1:Nat) (xa:List Int) (X2:Option Addr) (x2 k2x:Nat) (xb:List Int) (X3:Option Addr) (x3 k3:Nat) (ya:List Int) (X4:Option Addr) (x4 k4:Nat) (yb:List Int) (hx0:RdI w X1 x1 k1 xa) (hl0:x1≤maxLen) (hx1:RdI w X2 x2 k2x xb) (hl1:x2≤maxLen) (hx2:RdI w X3 x3 k3 ya) (hl2:x3≤maxLen) (hx3:RdI w X4 x4 k4 yb) (hl3:x4≤maxLen) (E1:Hid (asked ⟨c,ws,ts⟩ ⟨d,ws2,ts2⟩ ⟨p1,p2,p3,p4⟩=0)) (hc1:3≤c) (hc2:c≤16) (hd1_:3≤d) (hd2_:d≤16) (EC0:Hid (chk (c+1) ws=0)) (EC1:Hid (chk (d+1) ws2=0)) (EC2:Hid (chk c ts=0)) (EC3:Hid (chk d ts2=0)) (n0_ n1_ n2_ n3_ m0_ m1_ m2_ m3_:Bool) (EN0:Hid (plNear xa (c+1)=n0_)) (EN1:Hid (plNear xb (d+1)=n1_)) (EN2:Hid (plNear ya c=n2_)) (EN3:Hid (plNear yb d=n3_)) (EK0:Hid (ws.all (keepB xa)=m0_)) (EK1:Hid (ws2.all (keepB xb)=m1_)) (EK2:Hid (ts.all (keepB ya)=m2_)) (EK3:Hid (ts2.all (keepB yb)=m3_)) (q0:Nat) (HP0:Hid (p2=p1+q0∧p4=p3+q0∧(p2:Int)≤c∧(p4:Int)≤d)) :
 Calls Tryz.prog 14 #[.agg #[.int .i64 c,.slice A n k,.slice B m j],.agg #[.int .i64 d,.slice C n2 k2,.slice D m2 j2],.agg #[.int .i64 p1,.int .i64 p2,.int .i64 p3,.int .i64 p4],.agg #[.slice X1 x1 k1,.slice X2 x2 k2x,.slice X3 x3 k3,.slice X4 x4 k4]] w fun e w'=>e=.returned (.tuple #[.bool ((n0_&&n1_&&n2_&&n3_)&&(m0_&&m1_&&m2_&&m3_)&&plTies ⟨p1,p2,p3,p4⟩ xa xb ya yb q0 (q0+1)),.int .i64 0])∧Below w.heap.size w w':=by
  go_enter Tryz.func14,Tryz.ntmps14
  obtain ⟨a4,a5,a2,a3,a0⟩:=ent4 w #[.int .i64 c,.slice A n k,.slice B m j] 24 #[.int .i64 d,.slice C n2 k2,.slice D m2 j2] 24 #[.int .i64 p1,.int .i64 p2,.int .i64 p3,.int .i64 p4] 28 #[.slice X1 x1 k1,.slice X2 x2 k2x,.slice X3 x3 k3,.slice X4 x4 k4] 36
  have b6:=rI h1 a0
  have b7:=rI h2 a0
  have b8:=rI h3 a0
  have b9:=rI h4 a0
  have a6:=iI hx0 a0
  have a9:=iI hx1 a0
  have b0:=iI hx2 a0
  have b1:=iI hx3 a0
  clear h1 h2 h3 h4 hx0 hx1 hx2 hx3
  obtain ⟨o7,o8,o9⟩:=at3 a4
  obtain ⟨p0,p6,p7⟩:=at3 a5
  obtain ⟨p8,p9,q1,q2⟩:=at4 a2
  obtain ⟨q3,q4,q5,q6⟩:=at4 a3
  have hc:=rAsked_any c A B n k m j ws ts d C D n2 k2 m2 j2 ws2 ts2 p1 p2 p3 p4 _ b6.out b7.out hn hm b8.out b9.out hn2 hm2
  rw [E1.out] at hc
  try dsimp only at hc
  have HC:=hid hc;clear hc
  go_wp2_with fail
  refine HC.out.mono ?_
  rintro e y8 ⟨rfl,hb⟩
  clear HC
  clear o7 o8 o9 p0 p6 p7 p8 p9 q1 q2 q3 q4 q5 q6
  have c0:=hid hb
  clear hb
  replace a4:=kH a4 c0
  obtain ⟨q7,q8,q9⟩:=at3 a4
  replace a5:=kH a5 c0
  obtain ⟨r0,r1,r2⟩:=at3 a5
  replace a2:=kH a2 c0
  obtain ⟨r3,r4,r5,r6⟩:=at4 a2
  replace a3:=kH a3 c0
  obtain ⟨r7,r8,r9,s0⟩:=at4 a3
  replace a6:=iH a6 c0
  have hc:=rnear_is X1 x1 k1 xa (c+1) _ a6.out hl0 _ EN0.out
  have HC:=hid hc;clear hc
  go_wp2_with fail
  refine HC.out.mono ?_
  rintro e y9 ⟨rfl,hb⟩
  clear HC
  clear q7 q8 q9 r0 r1 r2 r3 r4 r5 r6 r7 r8 r9 s0
  have c1:=hid hb
  clear hb
  replace a4:=kH a4 c1
  obtain ⟨s1,s2,s3⟩:=at3 a4
  replace a5:=kH a5 c1
  obtain ⟨s4,s5,s6⟩:=at3 a5
  replace a2:=kH a2 c1
  obtain ⟨s7,s8,s9,t0⟩:=at4 a2
  replace a3:=kH a3 c1
  obtain ⟨t1,t2,t3,t4⟩:=at4 a3
  replace a0:=bH (bH a0 c0) c1
  replace b6:=rH (rH b6 c0) c1
  replace b7:=rH (rH b7 c0) c1
  replace b8:=rH (rH b8 c0) c1
  replace b9:=rH (rH b9 c0) c1
  replace a6:=iH a6 c1
  replace a9:=iH (iH a9 c0) c1
  replace b0:=iH (iH b0 c0) c1
  replace b1:=iH (iH b1 c0) c1
  cases n0_
  · go_wp2
    go_ret2
    exact ⟨rfl,a0.out⟩
  have hc:=rnear_is X2 x2 k2x xb (d+1) _ a9.out hl1 _ EN1.out
  have HC:=hid hc;clear hc
  go_wp2_with fail
  refine HC.out.mono ?_
  rintro e z0 ⟨rfl,hb⟩
  clear HC
  clear s1 s2 s3 s4 s5 s6 s7 s8 s9 t0 t1 t2 t3 t4
  have c2:=hid hb
  clear hb
  replace a4:=kH a4 c2
  obtain ⟨t5,t6,t7⟩:=at3 a4
  replace a5:=kH a5 c2
  obtain ⟨t8,t9,u0⟩:=at3 a5
  replace a2:=kH a2 c2
  obtain ⟨u1,u2,u3,u4⟩:=at4 a2
  replace a3:=kH a3 c2
  obtain ⟨u5,u6,u7,u8⟩:=at4 a3
  replace a0:=bH a0 c2
  replace b6:=rH b6 c2
  replace b7:=rH b7 c2
  replace b8:=rH b8 c2
  replace b9:=rH b9 c2
  replace a6:=iH a6 c2
  replace a9:=iH a9 c2
  replace b0:=iH b0 c2
  replace b1:=iH b1 c2
  cases n1_
  · go_wp2
    go_ret2
    exact ⟨rfl,a0.out⟩
  have hc:=rnear_is X3 x3 k3 ya c _ b0.out hl2 _ EN2.out
  have HC:=hid hc;clear hc
  go_wp2_with fail
  refine HC.out.mono ?_
  rintro e z1 ⟨rfl,hb⟩
  clear HC
  clear t5 t6 t7 t8 t9 u0 u1 u2 u3 u4 u5 u6 u7 u8
  have c3:=hid hb
  clear hb
  replace a4:=kH a4 c3
  obtain ⟨u9,v0,v4⟩:=at3 a4
  replace a5:=kH a5 c3
  obtain ⟨v5,v6,v7⟩:=at3 a5
  replace a2:=kH a2 c3
  obtain ⟨v8,v9,w0,w1⟩:=at4 a2
  replace a3:=kH a3 c3
  obtain ⟨w2,w3,w4,w5⟩:=at4 a3
  replace a0:=bH a0 c3
  replace b6:=rH b6 c3
  replace b7:=rH b7 c3
  replace b8:=rH b8 c3
  replace b9:=rH b9 c3
  replace a6:=iH a6 c3
  replace a9:=iH a9 c3
  replace b0:=iH b0 c3
  replace b1:=iH b1 c3
  cases n2_
  · go_wp2
    go_ret2
    exact ⟨rfl,a0.out⟩
  have hc:=rnear_is X4 x4 k4 yb d _ b1.out hl3 _ EN3.out
  have HC:=hid hc;clear hc
  go_wp2_with fail
  refine HC.out.mono ?_
  rintro e z2 ⟨rfl,hb⟩
  clear HC
  clear u9 v0 v4 v5 v6 v7 v8 v9 w0 w1 w2 w3 w4 w5
  have c4:=hid hb
  clear hb
  replace a4:=kH a4 c4
  obtain ⟨w6,w7,w8⟩:=at3 a4
  replace a5:=kH a5 c4
  obtain ⟨w9,x0,x5⟩:=at3 a5
  replace a2:=kH a2 c4
  obtain ⟨g5,g6,g7,g8⟩:=at4 a2
  replace a3:=kH a3 c4
  obtain ⟨g9,h0,h5,h6⟩:=at4 a3
  replace a0:=bH a0 c4
  replace b6:=rH b6 c4
  replace b7:=rH b7 c4
  replace b8:=rH b8 c4
  replace b9:=rH b9 c4
  replace a6:=iH a6 c4
  replace a9:=iH a9 c4
  replace b0:=iH b0 c4
  replace b1:=iH b1 c4
  cases n3_
  · go_wp2
    go_ret2
    exact ⟨rfl,a0.out⟩
  have hc:=rkeeps_is A X1 n k x1 k1 ws xa (c+1) _ b6.out hn a6.out hl0 EC0.out EN0.out _ EK0.out
  have HC:=hid hc;clear hc
  go_wp2_with fail
  refine HC.out.mono ?_
  rintro e y4 ⟨rfl,hb⟩
  clear HC
  clear w6 w7 w8 w9 x0 x5 g5 g6 g7 g8 g9 h0 h5 h6
  have b2:=hid hb
  clear hb
  replace a4:=kH a4 b2
  obtain ⟨h7,h8,h9⟩:=at3 a4
  replace a5:=kH a5 b2
  obtain ⟨i7,i8,i9⟩:=at3 a5
  replace a2:=kH a2 b2
  obtain ⟨j0,j1,j3,j4⟩:=at4 a2
  replace a3:=kH a3 b2
  obtain ⟨j5,j6,j7,j8⟩:=at4 a3
  replace a0:=bH a0 b2
  replace b6:=rH b6 b2
  replace b7:=rH b7 b2
  replace b8:=rH b8 b2
  replace b9:=rH b9 b2
  replace a6:=iH a6 b2
  replace a9:=iH a9 b2
  replace b0:=iH b0 b2
  replace b1:=iH b1 b2
  cases m0_
  · go_wp2
    go_ret2
    exact ⟨rfl,a0.out⟩
  have hc:=rkeeps_is C X2 n2 k2 x2 k2x ws2 xb (d+1) _ b8.out hn2 a9.out hl1 EC1.out EN1.out _ EK1.out
  have HC:=hid hc;clear hc
  go_wp2_with fail
  refine HC.out.mono ?_
  rintro e y5 ⟨rfl,hb⟩
  clear HC
  clear h7 h8 h9 i7 i8 i9 j0 j1 j3 j4 j5 j6 j7 j8
  have b3:=hid hb
  clear hb
  replace a4:=kH a4 b3
  obtain ⟨j9,k0,k5⟩:=at3 a4
  replace a5:=kH a5 b3
  obtain ⟨k6,k7,k8⟩:=at3 a5
  replace a2:=kH a2 b3
  obtain ⟨k9,l0,l1,l2⟩:=at4 a2
  replace a3:=kH a3 b3
  obtain ⟨l3,l4,l5,l6⟩:=at4 a3
  replace a0:=bH a0 b3
  replace b6:=rH b6 b3
  replace b7:=rH b7 b3
  replace b8:=rH b8 b3
  replace b9:=rH b9 b3
  replace a6:=iH a6 b3
  replace a9:=iH a9 b3
  replace b0:=iH b0 b3
  replace b1:=iH b1 b3
  cases m1_
  · go_wp2
    go_ret2
    exact ⟨rfl,a0.out⟩
  have hc:=rkeeps_is B X3 m j x3 k3 ts ya c _ b7.out hm b0.out hl2 EC2.out EN2.out _ EK2.out
  have HC:=hid hc;clear hc
  go_wp2_with fail
  refine HC.out.mono ?_
  rintro e y6 ⟨rfl,hb⟩
  clear HC
  clear j9 k0 k5 k6 k7 k8 k9 l0 l1 l2 l3 l4 l5 l6
  have b4:=hid hb
  clear hb
  replace a4:=kH a4 b4
  obtain ⟨l7,l8,l9⟩:=at3 a4
  replace a5:=kH a5 b4
  obtain ⟨m0,m1,m3⟩:=at3 a5
  replace a2:=kH a2 b4
  obtain ⟨m4,m5,m6,m7⟩:=at4 a2
  replace a3:=kH a3 b4
  obtain ⟨m8,m9,n0,n1⟩:=at4 a3
  replace a0:=bH a0 b4
  replace b6:=rH b6 b4
  replace b7:=rH b7 b4
  replace b8:=rH b8 b4
  replace b9:=rH b9 b4
  replace a6:=iH a6 b4
  replace a9:=iH a9 b4
  replace b0:=iH b0 b4
  replace b1:=iH b1 b4
  cases m2_
  · go_wp2
    go_ret2
    exact ⟨rfl,a0.out⟩
  have hc:=rkeeps_is D X4 m2 j2 x4 k4 ts2 yb d _ b9.out hm2 b1.out hl3 EC3.out EN3.out _ EK3.out
  have HC:=hid hc;clear hc
  go_wp2_with fail
  refine HC.out.mono ?_
  rintro e y7 ⟨rfl,hb⟩
  clear HC
  clear l7 l8 l9 m0 m1 m3 m4 m5 m6 m7 m8 m9 n0 n1
  have b5:=hid hb
  clear hb
  replace a4:=kH a4 b5
  obtain ⟨n3,n4,n5⟩:=at3 a4
  replace a5:=kH a5 b5
  obtain ⟨n6,n7,n8⟩:=at3 a5
  replace a2:=kH a2 b5
  obtain ⟨n9,o0,o1,o2⟩:=at4 a2
  replace a3:=kH a3 b5
  obtain ⟨o3,o4,o5,o6⟩:=at4 a3
  replace a0:=bH a0 b5
  replace b6:=rH b6 b5
  replace b7:=rH b7 b5
  replace b8:=rH b8 b5
  replace b9:=rH b9 b5
  replace a6:=iH a6 b5
  replace a9:=iH a9 b5
  replace b0:=iH b0 b5
  replace b1:=iH b1 b5
  cases m3_
  · go_wp2
    go_ret2
    exact ⟨rfl,a0.out⟩
  obtain ⟨a0_,kb0⟩:=plNear_at EN0.out;have z0_:=(a6.out).len
  obtain ⟨a1_,kb1⟩:=plNear_at EN1.out;have z1_:=(a9.out).len
  obtain ⟨a2_,kb2⟩:=plNear_at EN2.out;have z2_:=(b0.out).len
  obtain ⟨a3_,kb3⟩:=plNear_at EN3.out;have z3_:=(b1.out).len
  have KK:=hid (show (x1:Int)=(c+1)∧(x2:Int)=(d+1)∧(x3:Int)=c∧(x4:Int)=d∧p2=p1+q0∧p4=p3+q0∧(p2:Int)≤c∧(p4:Int)≤d by have g_:=HP0.out;omega)
  replace kb0:=hid (show ∀ i,i<x1→-100000000≤at_ xa i∧at_ xa i≤100000000 from fun i hi=>kb0 i (by omega))
  replace kb1:=hid (show ∀ i,i<x2→-100000000≤at_ xb i∧at_ xb i≤100000000 from fun i hi=>kb1 i (by omega))
  replace kb2:=hid (show ∀ i,i<x3→-100000000≤at_ ya i∧at_ ya i≤100000000 from fun i hi=>kb2 i (by omega))
  replace kb3:=hid (show ∀ i,i<x4→-100000000≤at_ yb i∧at_ yb i≤100000000 from fun i hi=>kb3 i (by omega))
  clear a0_ z0_ a1_ z1_ a2_ z2_ a3_ z3_
  have hwk:IntKind.i64.wrap ((p2:Int)-(p1:Int))=(q0:Int):=by have g_:=KK.out;rw [IntWalk.i64_in _ (by omega)];omega
  go_wp2
  clear n3 n4 n5 n6 n7 n8 n9 o0 o1 o2 o3 o4 o5 o6
  clear b6
  clear b7
  clear b8
  clear b9
  go_loopw [12] (fun i wr=>∃ q:Nat,q≤q0+1∧i=.int .i64 (q:Int)∧plTies ⟨p1,p2,p3,p4⟩ xa xb ya yb q0 q=true∧Blk wr (w.heap.size+1+1) 28 #[.int .i64 p1,.int .i64 p2,.int .i64 p3,.int .i64 p4]∧Blk wr (w.heap.size+1+1+1) 36 #[.slice X1 x1 k1,.slice X2 x2 k2x,.slice X3 x3 k3,.slice X4 x4 k4]∧RdI wr X1 x1 k1 xa∧RdI wr X2 x2 k2x xb∧RdI wr X3 x3 k3 ya∧RdI wr X4 x4 k4 yb∧Below w.heap.size w wr) (fun i _=>q0+1-(intOf i).toNat)
  case atStart=>exact ⟨0,Nat.zero_le _,rfl,rfl,a2.out,a3.out,a6.out,a9.out,b0.out,b1.out,a0.out⟩
  case round =>
   clear hwk a0 a6 a9 b0 b1 a4 a5 a2 a3
   obtain ⟨q,hq,rfl,hti,i0,i1,i2,i3,i4,i5,i6⟩:=hrel
   have a7:=hid (i0)
   have a8:=hid (i1)
   have c6:=hid (i2)
   have c7:=hid (i3)
   have c8:=hid (i4)
   have c9:=hid (i5)
   have a1:=hid (i6)
   clear i0 i1 i2 i3 i4 i5 i6
   have HTI:=hid hti;clear hti
   by_cases hlt:q≤q0
   · have HLT:=hid hlt
     have hqs:(q:Int)≤16:=by have g_:=KK.out;omega
     obtain ⟨v1,hv1⟩:∃ v,v=p1+q:=⟨_,rfl⟩
     obtain ⟨v2,hv2⟩:∃ v,v=p4-q:=⟨_,rfl⟩
     have hq1:IntKind.i64.wrap ((p1:Int)+(q:Int))=(v1:Int):=by have g_:=KK.out;rw [IntWalk.i64_in _ (by omega)];omega
     have hq2:IntKind.i64.wrap ((p4:Int)-(q:Int))=(v2:Int):=by have g_:=KK.out;rw [IntWalk.i64_in _ (by omega)];omega
     have hin_:v1<x1:=by have g_:=KK.out;omega
     have hb_a:((v1:Nat):Int)<(x1:Int):=by omega
     obtain ⟨ba,oa,za,hAa,hwa,hxa_,da⟩:=(c6.out).get hin_
     have ra:=kb0.out _ hin_;have ea:at_ xa v1=za:=by simp [at_,hxa_]
     rw [ea] at ra
     have Ea:=hid ea;clear ea hxa_ hin_
     have hin_:p1<x1:=by have g_:=KK.out;omega
     have hb_b:((p1:Nat):Int)<(x1:Int):=by omega
     obtain ⟨bb,ob,zb,hAb,hwb,hxb_,db⟩:=(c6.out).get hin_
     have rb:=kb0.out _ hin_;have eb:at_ xa p1=zb:=by simp [at_,hxb_]
     rw [eb] at rb
     have Eb:=hid eb;clear eb hxb_ hin_
     have hin_:p4<x2:=by have g_:=KK.out;omega
     have hb_c:((p4:Nat):Int)<(x2:Int):=by omega
     obtain ⟨bc,oc,zc,hAc,hwc,hxc_,dc⟩:=(c7.out).get hin_
     have rc:=kb1.out _ hin_;have ec:at_ xb p4=zc:=by simp [at_,hxc_]
     rw [ec] at rc
     have Ec:=hid ec;clear ec hxc_ hin_
     have hin_:v2<x2:=by have g_:=KK.out;omega
     have hb_d:((v2:Nat):Int)<(x2:Int):=by omega
     obtain ⟨bd,od,zd,hAd,hwd,hxd_,dd⟩:=(c7.out).get hin_
     have rd:=kb1.out _ hin_;have ed:at_ xb v2=zd:=by simp [at_,hxd_]
     rw [ed] at rd
     have Ed:=hid ed;clear ed hxd_ hin_
     rw [hAa] at hAb;injection hAb with hAb;injection hAb with s1_ s2_;subst s1_ s2_
     rw [hAc] at hAd;injection hAd with hAd;injection hAd with s1_ s2_;subst s1_ s2_
     have hw1:IntKind.i64.wrap (za-zb)=za-zb:=IntWalk.i64_in _ (by omega)
     have hw2:IntKind.i64.wrap (zc-zd)=zc-zd:=IntWalk.i64_in _ (by omega)
     have htw:plTieA ⟨p1,p2,p3,p4⟩ xa xb (q:Int)=decide (za-zb=zc-zd):=by unfold plTieA;dsimp only;rw [show ((p1:Int)+(q:Int))=((v1:Nat):Int) by have g_:=KK.out;omega,show ((p4:Int)-(q:Int))=((v2:Nat):Int) by have g_:=KK.out;omega,look_at,look_at,look_at,look_at,Ea.out,Eb.out,Ec.out,Ed.out]
     have HTW:=hid htw;clear htw
     by_cases h1:za-zb=zc-zd
     · have hb1:(za-zb != zc-zd)=false:=by simpa using h1
       have hd1:decide (za-zb=zc-zd)=true:=decide_eq_true h1
       clear h1
       by_cases h3:q<q0
       · have H3:=hid h3
         obtain ⟨p5,hp5⟩:∃ v,v=p4-1:=⟨_,rfl⟩
         obtain ⟨v3,hv3⟩:∃ v,v=p5-q:=⟨_,rfl⟩
         have hq3:IntKind.i64.wrap ((p4:Int)-1)=(p5:Int):=by have g_:=KK.out;rw [IntWalk.i64_in _ (by omega)];omega
         have hq4:IntKind.i64.wrap ((p5:Int)-(q:Int))=(v3:Int):=by have g_:=KK.out;rw [IntWalk.i64_in _ (by omega)];omega
         have hin_:v1<x3:=by have g_:=KK.out;omega
         have hb_e:((v1:Nat):Int)<(x3:Int):=by omega
         obtain ⟨be,oe,ze,hAe,hwe,hxe_,de⟩:=(c8.out).get hin_
         have re:=kb2.out _ hin_;have ee:at_ ya v1=ze:=by simp [at_,hxe_]
         rw [ee] at re
         have Ee:=hid ee;clear ee hxe_ hin_
         have hin_:p1<x3:=by have g_:=KK.out;omega
         have hb_f:((p1:Nat):Int)<(x3:Int):=by omega
         obtain ⟨bf,of,zf,hAf,hwf,hxf_,df⟩:=(c8.out).get hin_
         have rf:=kb2.out _ hin_;have ef:at_ ya p1=zf:=by simp [at_,hxf_]
         rw [ef] at rf
         have Ef:=hid ef;clear ef hxf_ hin_
         have hin_:v3<x4:=by have g_:=KK.out;omega
         have hb_g:((v3:Nat):Int)<(x4:Int):=by omega
         obtain ⟨bg,og,zg,hAg,hwg,hxg_,dg⟩:=(c9.out).get hin_
         have rg:=kb3.out _ hin_;have eg:at_ yb v3=zg:=by simp [at_,hxg_]
         rw [eg] at rg
         have Eg:=hid eg;clear eg hxg_ hin_
         have hin_:p5<x4:=by have g_:=KK.out;omega
         have hb_h:((p5:Nat):Int)<(x4:Int):=by omega
         obtain ⟨bh,oh,zh,hAh,hwh,hxh_,dh⟩:=(c9.out).get hin_
         have rh:=kb3.out _ hin_;have eh:at_ yb p5=zh:=by simp [at_,hxh_]
         rw [eh] at rh
         have Eh:=hid eh;clear eh hxh_ hin_
         rw [hAe] at hAf;injection hAf with hAf;injection hAf with s1_ s2_;subst s1_ s2_
         rw [hAg] at hAh;injection hAh with hAh;injection hAh with s1_ s2_;subst s1_ s2_
         have hw3:IntKind.i64.wrap (ze-zf)=ze-zf:=IntWalk.i64_in _ (by omega)
         have hw4:IntKind.i64.wrap (zg-zh)=zg-zh:=IntWalk.i64_in _ (by omega)
         have htt:plTieB ⟨p1,p2,p3,p4⟩ ya yb (q:Int)=decide (ze-zf=zg-zh):=by unfold plTieB;dsimp only;rw [show ((p1:Int)+(q:Int))=((v1:Nat):Int) by have g_:=KK.out;omega,show ((p4:Int)-1-(q:Int))=((v3:Nat):Int) by have g_:=KK.out;omega,show ((p4:Int)-1)=((p5:Nat):Int) by have g_:=KK.out;omega,look_at,look_at,look_at,look_at,Ee.out,Ef.out,Eg.out,Eh.out]
         have HTT:=hid htt;clear htt
         by_cases h2:ze-zf=zg-zh
         · have hb2:(ze-zf != zg-zh)=false:=by simpa using h2
           have hd2:decide (ze-zf=zg-zh)=true:=decide_eq_true h2
           have HD:=hid (And.intro hd1 hd2);clear h2 hd1 hd2
           clear hv1 hv2 hp5 hv3
           subst hAa
           subst hAc
           subst hAe
           subst hAg
           obtain ⟨d2,d3,d4,d5⟩:=at4 a7
           obtain ⟨d6,d7,d8,d9⟩:=at4 a8
           have lby_:=Blk.lt a8.out;have lbp_:=Blk.lt a7.out
           go_wp2_with fail
           go_quiet (fail)
           obtain ⟨nq1,rfl⟩:∃ n,n=nq:=⟨_,rfl⟩
           go_wp2_with fail
           go_quiet (fail)
           obtain ⟨nq2,rfl⟩:∃ n,n=nq:=⟨_,rfl⟩
           clear d2 d3 d4 d5 d6 d7 d8 d9
           have hb:Below wr.heap.size wr (wr.drewN (nq1+nq2)):=⟨rfl,rfl,rfl,Nat.le_refl _,fun _ _=>rfl⟩
           have c5:=hid hb
           clear hb
           go_wp2
           replace a7:=kH a7 c5
           replace a8:=kH a8 c5
           replace c6:=iH c6 c5
           replace c7:=iH c7 c5
           replace c8:=iH c8 c5
           replace c9:=iH c9 c5
           replace a1:=bH a1 c5
           go_roundw
           case rel=>exact ⟨q+1,by have:=HLT.out;omega,by go_num,by rw [plTies_succ,HTI.out,HTW.out,HTT.out,HD.out.1,HD.out.2];simp,a7.out,a8.out,c6.out,c7.out,c8.out,c9.out,a1.out⟩
           case measure=>have:=HLT.out;simp [intOf];omega
         · have hb2:(ze-zf != zg-zh)=true:=by simpa using h2
           have hd2:decide (ze-zf=zg-zh)=false:=decide_eq_false h2
           have HD:=hid (And.intro hd1 hd2);clear h2 hd1 hd2
           clear hv1 hv2 hp5 hv3
           subst hAa
           subst hAc
           subst hAe
           subst hAg
           obtain ⟨d2,d3,d4,d5⟩:=at4 a7
           obtain ⟨d6,d7,d8,d9⟩:=at4 a8
           have lby_:=Blk.lt a8.out;have lbp_:=Blk.lt a7.out
           go_wp2_with fail
           go_quiet (fail)
           obtain ⟨nq1,rfl⟩:∃ n,n=nq:=⟨_,rfl⟩
           go_wp2_with fail
           go_quiet (fail)
           obtain ⟨nq2,rfl⟩:∃ n,n=nq:=⟨_,rfl⟩
           clear d2 d3 d4 d5 d6 d7 d8 d9
           have hb:Below wr.heap.size wr (wr.drewN (nq1+nq2)):=⟨rfl,rfl,rfl,Nat.le_refl _,fun _ _=>rfl⟩
           have c5:=hid hb
           clear hb
           go_wp2
           go_ret2
           replace a1:=bH a1 c5
           exact ⟨by rw [plTies_no (m:=q) (by have:=HLT.out;omega) (by rw [HTW.out,HTT.out,HD.out.1,HD.out.2];first|done | (simp;done) | (simp;exact H3.out))];rfl,by first|exact a1.out|exact a1.out.trans ⟨rfl,rfl,rfl,Nat.le_refl _,fun _ _=>rfl⟩ | (rw [World.drewN_drewN];exact a1.out)⟩
       · have hnl:¬ (q:Int)<(q0:Int):=by omega
         have HD:=hid (And.intro hd1 h3);clear hd1
         clear hv1 hv2
         subst hAa
         subst hAc
         obtain ⟨e1,e2,e3,e4⟩:=at4 a7
         obtain ⟨e5,e6,e7,e8⟩:=at4 a8
         go_wp2_with fail
         go_quiet (fail)
         clear e1 e2 e3 e4 e5 e6 e7 e8
         obtain ⟨nq1,rfl⟩:∃ n,n=nq:=⟨_,rfl⟩
         have hb:Below wr.heap.size wr (wr.drewN nq1):=⟨rfl,rfl,rfl,Nat.le_refl _,fun _ _=>rfl⟩
         have d0:=hid hb
         clear hb
         replace a7:=kH a7 d0
         obtain ⟨e9,f0,f1,f2⟩:=at4 a7
         replace a8:=kH a8 d0
         obtain ⟨f3,f4,f5,f6⟩:=at4 a8
         go_wp2_with fail
         go_quiet (fail)
         clear e9 f0 f1 f2 f3 f4 f5 f6
         obtain ⟨nq2,rfl⟩:∃ n,n=nq:=⟨_,rfl⟩
         have hb:Below (wr.drewN nq1).heap.size (wr.drewN nq1) (wr.drewN (nq1+nq2)):=⟨rfl,rfl,rfl,Nat.le_refl _,fun _ _=>rfl⟩
         have d1:=hid hb
         clear hb
         go_wp2
         replace a7:=kH a7 d1
         replace a8:=kH a8 d1
         replace c6:=iH (iH c6 d0) d1
         replace c7:=iH (iH c7 d0) d1
         replace c8:=iH (iH c8 d0) d1
         replace c9:=iH (iH c9 d0) d1
         replace a1:=bH (bH a1 d0) d1
         go_roundw
         case rel=>exact ⟨q+1,by have:=HLT.out;omega,by go_num,by rw [plTies_succ,HTI.out,HTW.out,HD.out.1,decide_eq_false HD.out.2];simp,a7.out,a8.out,c6.out,c7.out,c8.out,c9.out,a1.out⟩
         case measure=>have:=HLT.out;simp [intOf];omega
     · have hb1:(za-zb != zc-zd)=true:=by simpa using h1
       have hd1:decide (za-zb=zc-zd)=false:=decide_eq_false h1
       clear h1
       clear hv1 hv2
       subst hAa
       subst hAc
       obtain ⟨f7,f8,f9,g0⟩:=at4 a7
       obtain ⟨g1,g2,g3,g4⟩:=at4 a8
       go_wp2_with fail
       go_quiet (fail)
       clear f7 f8 f9 g0 g1 g2 g3 g4
       obtain ⟨nq1,rfl⟩:∃ n,n=nq:=⟨_,rfl⟩
       have hb:Below wr.heap.size wr (wr.drewN nq1):=⟨rfl,rfl,rfl,Nat.le_refl _,fun _ _=>rfl⟩
       have e0:=hid hb
       clear hb
       go_wp2
       go_ret2
       replace a1:=bH a1 e0
       exact ⟨by rw [plTies_no (m:=q) (by have:=HLT.out;omega) (by rw [HTW.out,hd1];first|done | (simp;done) | (simp;exact H3.out))];rfl,by first|exact a1.out|exact a1.out.trans ⟨rfl,rfl,rfl,Nat.le_refl _,fun _ _=>rfl⟩ | (rw [World.drewN_drewN];exact a1.out)⟩
   · have hqe:q=q0+1:=by omega
     have hnl:¬ (q:Int)≤(q0:Int):=by omega
     have HQE:=hid hqe;clear hqe
     obtain ⟨x6,x7,x8,x9⟩:=at4 a7
     obtain ⟨y0,y1,y2,y3⟩:=at4 a8
     go_wp2
     go_ret2
     exact ⟨by have h:=HTI.out;rw [HQE.out] at h;rw [h];rfl,a1.out⟩
end Go.Proofs.YtjjmifcjailpaaaGreat
