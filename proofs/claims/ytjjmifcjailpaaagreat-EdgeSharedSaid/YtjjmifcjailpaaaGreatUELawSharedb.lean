import Derived.Deep.DeepCutAuto
import Derived.Test.YtjjmifcjailpaaaGreatUClosed
import Derived.Test.YtjjmifcjailpaaaGreatURGreatb
import Derived.Test.YtjjmifcjailpaaaGreatUESols
import Derived.Test.YtjjmifcjailpaaaGreatUEShared
import Derived.Test.YtjjmifcjailpaaaGreatUEPlace
import Derived.Shelf.SlSortCmp.NoneTotal
import Derived.Test.YtjjmifcjailpaaaGreatUELongest
import Derived.Test.YtjjmifcjailpaaaGreatRows
import Derived.Test.YtjjmifcjailpaaaGreatUEAlive
import Derived.Test.YtjjmifcjailpaaaGreatUEEithM
import Derived.Test.YtjjmifcjailpaaaGreatUEStd
import Derived.Test.YtjjmifcjailpaaaGreatUESmall
import Derived.Test.YtjjmifcjailpaaaGreatUEOpen
import Derived.Test.YtjjmifcjailpaaaGreatUERefSb
set_option maxHeartbeats 4000000
set_option linter.unusedSimpArgs false
set_option linter.unusedVariables false
namespace Go.Proofs.YtjjmifcjailpaaaGreat
open Go.Lib (hid)
open Go.RowKit
theorem startL_self {a:Nat} (ha:a<60):look (startL a) (a:Int)=0:=by rw [look_at,at_startL ha _ ha,if_pos rfl]
theorem dist_path {p:Int} {l:List Bnd} {a b:Nat} (hk:chk p l=0) (hs:(settle l p.toNat zeros).isSome=true) (ha:a<60) (hb:b<60) (hD:dist l p.toNat a b≠Inf) :
 ∃ r:List Nat,IsWalk l r a b (dist l p.toNat a b)∧r.length≤60:=by
 obtain ⟨hp1,hp2,-,-⟩:=chk_ok hk
 have hok:=okB_of hk
 obtain ⟨e,hst,hfix⟩:=dist_rounds (a:=a) hk hs ha
 have hd:dist l p.toNat a b=at_ (rounds l (p.toNat-1) (startL a)) b:=by unfold dist;rw [e]
 obtain ⟨hk1,hk2,hk3⟩:=lowK_spec (l:=l) (x0:=startL a) (b:=b) (most:=dist l p.toNat a b) (p.toNat-1) 0 (by rw [Nat.zero_add,hd];exact Int.le_refl _) (fun j hj=>absurd hj (Nat.not_lt_zero j))
 obtain ⟨K,hK⟩:∃ K,lowK l (startL a) b (dist l p.toNat a b) (p.toNat-1) 0=K:=⟨_,rfl⟩
 rw [hK] at hk1 hk2 hk3
 have hlenK:(backL l (startL a) K b).length=K:=backL_length _ _ _ _
 have hge:dist l p.toNat a b≤at_ (rounds l K (startL a)) b:=by
  rw [hd]
  have:=rounds_le l (startL a) b K (p.toNat-1-K)
  rw [show K+(p.toNat-1-K)=p.toNat-1 from by omega] at this
  exact this
 have heq:at_ (rounds l K (startL a)) b=dist l p.toNat a b:=by omega
 obtain ⟨a',a0,a1,aI,hw⟩:=backL_spec (startL_length a) hok K b (by omega) (by omega) (by rw [look_at,heq];exact hD) (fun j hj=>by rw [look_at,look_at,heq];exact hk3 j (by omega))
 have haa:a'=a:=by
  rw [look_eq,at_startL ha _ (by omega)] at aI
  by_cases e:a=a'.toNat
  · omega
  · rw [if_neg e] at aI;exact absurd rfl aI
 subst haa
 rw [startL_self ha,Int.sub_zero,look_at,heq] at hw
 exact ⟨_,hw,by rw [hlenK];omega⟩
theorem walk_sol {l:List Bnd} {f:Nat→Int} (hf:Sol l f):∀ {r:List Nat} {a b s:Int},IsWalk l r a b s→f b.toNat-f a.toNat≤s
 | [],a,b,s,h=>by
  obtain ⟨rfl,rfl⟩:=h
  omega
 | i::r,a,b,s,h=>by
  obtain ⟨c,hc,rfl,hw⟩:=h
  have h1:=walk_sol hf hw
  have h2:=hf c (List.mem_of_getElem? hc)
  omega
section
variable {P:Int} {l:List Bnd} {a b:Nat} (hk:chk P l=0) (hs:slv P l=true) (ha:a<P.toNat) (hb:b<P.toNat)
include hk hs ha hb
theorem dist_sol {f:Nat→Int} (hf:Sol l f) (hD:dist l P.toNat a b≠Inf):f b-f a≤dist l P.toNat a b:=by
 obtain ⟨hp1,hp2,hlen,-⟩:=chk_ok hk
 obtain ⟨r,hr,-⟩:=dist_path hk hs (show a<60 by omega) (show b<60 by omega) hD
 have:=walk_sol hf hr
 simpa using this
end
section
variable {a b:Otl} {p:Prg} (h:asked a b p=0)
include h
end
section
variable {a b:Otl} {p:Prg}
theorem placed_between (h:asked a b p=0) {xa xb ya yb:List Int} (hp:plB a b p xa xb ya yb=true) :
 lowV a b p≤look xa p.at2-look xa p.af∧look xa p.at2-look xa p.af≤highV a b p:=by
 obtain ⟨h1,h2,h3,h4⟩:=placed_fit h hp
 obtain ⟨g1,-,-⟩:=asked_ok h
 obtain ⟨oa,ob,sa,sb,hk⟩:=chkP_ok g1
 obtain ⟨a1,a2,a3,a4⟩:=chkO_ok oa
 obtain ⟨b1,b2,b3,b4⟩:=chkO_ok ob
 have hS:slv (wayP a b p) (wayL a b p)=true:=(wayS_iff h).2 ⟨_,_,h1⟩
 obtain ⟨g,hg,hv⟩:=fit_way h h1
 have e1:=hv p.at2.toNat (by omega)
 have e2:=hv p.af.toNat (by omega)
 have b1':=h4 p.at2.toNat
 have b2':=h4 p.af.toNat
 have hP:wayP a b p=a.c+b.c+1-(p.at2-p.af):=rfl
 rw [look_eq,look_eq]
 constructor
 · unfold lowV isF fin
   by_cases hD:dist (wayL a b p) (wayP a b p).toNat p.at2.toNat p.af.toNat=Inf
   · rw [if_neg (by simpa using hD)];omega
   · have:=dist_sol (wayL_chk h) hS (a:=p.at2.toNat) (b:=p.af.toNat) (by omega) (by omega) hg hD
     rw [if_pos (by simpa using hD),if_neg hD]
     omega
 · unfold highV isF fin
   by_cases hD:dist (wayL a b p) (wayP a b p).toNat p.af.toNat p.at2.toNat=Inf
   · rw [if_neg (by simpa using hD)];omega
   · have:=dist_sol (wayL_chk h) hS (a:=p.af.toNat) (b:=p.at2.toNat) (by omega) (by omega) hg hD
     rw [if_pos (by simpa using hD),if_neg hD]
     omega
end
open Go.ChangeShapes Go.WideShapes Go.ChangeAt Go.RowKit
set_option maxRecDepth 100000
section
variable {H:Type} {enc:TypeId × Value→H} {W:World} {base:Nat} {sp:Nat→Bool} {held:Bool}
theorem open_nums_ {m:Nat} {v:Value} {x:DataW H × List MemPlace} (hf:DataW.trod enc Tryz.prog W base sp held m 34 [v]=some x) :
 ∃ A n c l,v=.slice A n c∧RdI W A n c l∧n≤maxLen∧∀ x∈l,(Lit.int .i64 x).wf=true:=by
 rcases open_ints Tryz.underlying34 Tryz.underlying3 (by kernel_rfl) hf with ⟨hcs,-⟩|⟨x,len,cap,zs,hcs,-,hl,hm,hz,-,hcell,hwz⟩
 · simp only [List.cons.injEq,and_true] at hcs
   subst hcs
   exact ⟨none,0,0,[],rfl,⟨rfl,Nat.le_refl _,fun _=>⟨rfl,rfl⟩,.inl rfl⟩,Nat.zero_le _,by simp⟩
 · simp only [List.cons.injEq,and_true] at hcs
   subst hcs
   have hle:len≤zs.length:=by rw [hz];split<;>omega
   refine ⟨some x,len,cap,zs.take len,rfl,⟨by simp;omega,hl,(fun h=>by cases h),?_⟩,by omega,fun y hy=>hwz y (List.mem_of_mem_take hy)⟩
   by_cases h0:len=0
   · subst h0;exact .inl rfl
   · obtain ⟨xb,xo,xs⟩:=x
     have z:=hcell 0 (by omega)
     have hs:xs=none:=by simpa [Addr.add] using World.cell?_spot z
     subst hs
     have hlt:xb<W.heap.size:=by simpa [Addr.add] using cell_low z
     refine .inr ⟨xb,xo,rfl,hlt,fun j u hu=>?_⟩
     obtain ⟨y,hy,rfl⟩:=List.mem_map.1 (List.mem_of_getElem? hu)
     have hj:j<len:=by
      have:=(List.getElem?_eq_some_iff.1 hu).1
      simp at this;omega
     have h1:=hcell j (by omega)
     rw [add_flat] at h1
     rw [h1]
     rw [List.getElem?_map,List.getElem?_take,if_pos hj,List.getElem?_eq_getElem (by omega)] at hu
     simp only [Option.map_some,Option.some.injEq,Value.int.injEq,true_and] at hu
     rw [List.getD_eq_getElem?_getD,List.getElem?_eq_getElem (by omega)]
     simp [hu]
theorem open_place {r:Reach} {b0:Nat} {v:Value} {d:DataW H} {p:List MemPlace} (hv:Value.okWide Tryz.prog W r b0 36 v) (h:DataW.Trod enc Tryz.prog W base sp held 36 v d p) :
 ∃ A n c x B m d y C n2 c2 z D m2 d2 u,v=.agg #[.slice A n c,.slice B m d,.slice C n2 c2,.slice D m2 d2]∧RdI W A n c x∧n≤maxLen∧RdI W B m d y∧m≤maxLen∧RdI W C n2 c2 z∧n2≤maxLen∧RdI W D m2 d2 u∧m2≤maxLen:=by
 obtain ⟨v0,v1,v2,v3,y0,y1,y2,y3,m,rfl,-,-,h0,h1,h2,h3⟩:=Go.Joins.open_agg4 Tryz.underlying36 (by kernel_rfl) (by kernel_rfl) hv h
 obtain ⟨A0,n0,c0,l0,rfl,r0,m0,-⟩:=open_nums_ h0
 obtain ⟨A1,n1,c1,l1,rfl,r1,m1,-⟩:=open_nums_ h1
 obtain ⟨A2,n2,c2,l2,rfl,r2,m2,-⟩:=open_nums_ h2
 obtain ⟨A3,n3,c3,l3,rfl,r3,m3,-⟩:=open_nums_ h3
 exact ⟨A0,n0,c0,l0,A1,n1,c1,l1,A2,n2,c2,l2,A3,n3,c3,l3,rfl,r0,m0,r1,m1,r2,m2,r3,m3⟩
end
end Go.Proofs.YtjjmifcjailpaaaGreat
namespace Go.Proofs.YtjjmifcjailpaaaGreat
open Go.Lib (hid)
open Go.ChangeShapes Go.WideShapes Go.ChangeAt Go.RowKit
set_option maxRecDepth 100000 in
theorem xh_w (c:Int) (A B:Option Addr) (n k m j:Nat) (ws ts:List Bnd) (d:Int) (C D:Option Addr) (n2 k2 m2 j2:Nat) (ws2 ts2:List Bnd) (p1 p2 p3 p4:Int) (w:World) (h1:RdB w A n k ws) (h2:RdB w B m j ts) (hn:n≤maxLen) (hm:m≤maxLen) (h3:RdB w C n2 k2 ws2) (h4:RdB w D m2 j2 ts2) (hn2:n2≤maxLen) (hm2:m2≤maxLen) (X1:Option Addr) (x1 k1:Nat) (xa:List Int) (X2:Option Addr) (x2 k2x:Nat) (xb:List Int) (X3:Option Addr) (x3 k3:Nat) (ya:List Int) (X4:Option Addr) (x4 k4:Nat) (yb:List Int) (hx0:RdI w X1 x1 k1 xa) (hl0:x1≤maxLen) (hx1:RdI w X2 x2 k2x xb) (hl1:x2≤maxLen) (hx2:RdI w X3 x3 k3 ya) (hl2:x3≤maxLen) (hx3:RdI w X4 x4 k4 yb) (hl3:x4≤maxLen) (hs:(decide (n≤40)&&decide (m≤40)&&decide (n2≤40)&&decide (m2≤40))=false):Calls Tryz.prog 5 #[.agg #[.int .i64 c,.slice A n k,.slice B m j],.agg #[.int .i64 d,.slice C n2 k2,.slice D m2 j2],.agg #[.int .i64 p1,.int .i64 p2,.int .i64 p3,.int .i64 p4],.agg #[.slice X1 x1 k1,.slice X2 x2 k2x,.slice X3 x3 k3,.slice X4 x4 k4]] w fun e w'=>e=.returned (.bool true)∧Below w.heap.size w w':=by
 go_enter Tryz.func5,Tryz.ntmps5
 obtain ⟨a1,a2,a3,a4,a0⟩:=ent4 w #[.int .i64 c,.slice A n k,.slice B m j] 24 #[.int .i64 d,.slice C n2 k2,.slice D m2 j2] 24 #[.int .i64 p1,.int .i64 p2,.int .i64 p3,.int .i64 p4] 28 #[.slice X1 x1 k1,.slice X2 x2 k2x,.slice X3 x3 k3,.slice X4 x4 k4] 36
 have b1:=rI h1 a0
 have b2:=rI h2 a0
 have b3:=rI h3 a0
 have b4:=rI h4 a0
 have a7:=iI hx0 a0
 have a8:=iI hx1 a0
 have a9:=iI hx2 a0
 have b0:=iI hx3 a0
 clear h1 h2 h3 h4 hx0 hx1 hx2 hx3
 obtain ⟨b6,b7,b8⟩:=at3 a1
 obtain ⟨b9,c0,c1⟩:=at3 a2
 obtain ⟨c2,c3,c4,c5⟩:=at4 a3
 obtain ⟨c6,c7,c8,c9⟩:=at4 a4
 clear b6 b7 b8 b9 c0 c1 c2 c3 c4 c5 c6 c7 c8 c9
 obtain ⟨o_,ho_⟩:∃ o,o=((.cells #[.int .i64 c,.slice A n k,.slice B m j,.int .i64 d,.slice C n2 k2,.slice D m2 j2] 24):Obj):=⟨_,rfl⟩
 replace a0:=bA a0 o_
 replace b1:=rA b1 o_
 replace b2:=rA b2 o_
 replace b3:=rA b3 o_
 replace b4:=rA b4 o_
 replace a7:=iA a7 o_
 replace a8:=iA a8 o_
 replace a9:=iA a9 o_
 replace b0:=iA b0 o_
 replace a1:=kA a1 o_
 replace a2:=kA a2 o_
 replace a3:=kA a3 o_
 replace a4:=kA a4 o_
 subst ho_
 have nb_:=Blk.new ((((w.alloc (.cells #[.int .i64 c,.slice A n k,.slice B m j] 24)).alloc (.cells #[.int .i64 d,.slice C n2 k2,.slice D m2 j2] 24)).alloc (.cells #[.int .i64 p1,.int .i64 p2,.int .i64 p3,.int .i64 p4] 28)).alloc (.cells #[.slice X1 x1 k1,.slice X2 x2 k2x,.slice X3 x3 k3,.slice X4 x4 k4] 36)) 24 #[.int .i64 c,.slice A n k,.slice B m j,.int .i64 d,.slice C n2 k2,.slice D m2 j2]
 simp only [World.size_alloc] at nb_
 have b5:=hid nb_;clear nb_
 have hc:=small3_is c A B n k m j d C D n2 k2 m2 j2 _ _ b5.out _ hs
 have HC:=hid hc;clear hc
 go_wp2_with fail
 refine HC.out.mono ?_
 rintro e d0 ⟨rfl,hb⟩
 clear HC
 have a5:=hid hb
 clear hb
 replace a1:=kH a1 a5
 obtain ⟨d1,d2,d3⟩:=at3 a1
 replace a2:=kH a2 a5
 obtain ⟨d4,d5,d6⟩:=at3 a2
 replace a3:=kH a3 a5
 obtain ⟨d7,d8,d9,e0⟩:=at4 a3
 replace a4:=kH a4 a5
 obtain ⟨e1,e2,e3,e4⟩:=at4 a4
 have hc:=joined_any (d0)
 have HC:=hid hc;clear hc
 go_wp2_with fail
 refine HC.out.mono ?_
 rintro e e5 ⟨rfl,hb⟩
 clear HC
 clear d1 d2 d3 d4 d5 d6 d7 d8 d9 e0 e1 e2 e3 e4
 have a6:=hid hb
 clear hb
 replace a1:=kH a1 a6
 obtain ⟨e6,e7,e8⟩:=at3 a1
 replace a2:=kH a2 a6
 obtain ⟨e9,f0,f1⟩:=at3 a2
 replace a3:=kH a3 a6
 obtain ⟨f2,f3,f4,f5⟩:=at4 a3
 replace a4:=kH a4 a6
 obtain ⟨f6,f7,f8,f9⟩:=at4 a4
 go_wp2
 go_ret
 replace a0:=bH (bH a0 a5) a6
 exact ⟨rfl,a0.out⟩
set_option maxRecDepth 100000 in
theorem xh_s (c:Int) (A B:Option Addr) (n k m j:Nat) (ws ts:List Bnd) (d:Int) (C D:Option Addr) (n2 k2 m2 j2:Nat) (ws2 ts2:List Bnd) (p1 p2 p3 p4:Int) (w:World) (h1:RdB w A n k ws) (h2:RdB w B m j ts) (hn:n≤maxLen) (hm:m≤maxLen) (h3:RdB w C n2 k2 ws2) (h4:RdB w D m2 j2 ts2) (hn2:n2≤maxLen) (hm2:m2≤maxLen) (X1:Option Addr) (x1 k1:Nat) (xa:List Int) (X2:Option Addr) (x2 k2x:Nat) (xb:List Int) (X3:Option Addr) (x3 k3:Nat) (ya:List Int) (X4:Option Addr) (x4 k4:Nat) (yb:List Int) (hx0:RdI w X1 x1 k1 xa) (hl0:x1≤maxLen) (hx1:RdI w X2 x2 k2x xb) (hl1:x2≤maxLen) (hx2:RdI w X3 x3 k3 ya) (hl2:x3≤maxLen) (hx3:RdI w X4 x4 k4 yb) (hl3:x4≤maxLen) (hs:(decide (n≤40)&&decide (m≤40)&&decide (n2≤40)&&decide (m2≤40))=true) (s1 s2 s3:Int) (hw1:IntKind.i64.wrap ((x1:Int)+(x2:Int))=s1) (hw2:IntKind.i64.wrap (s1+(x3:Int))=s2) (hw3:IntKind.i64.wrap (s2+(x4:Int))=s3) (hs4:(100:Int)<s3):Calls Tryz.prog 5 #[.agg #[.int .i64 c,.slice A n k,.slice B m j],.agg #[.int .i64 d,.slice C n2 k2,.slice D m2 j2],.agg #[.int .i64 p1,.int .i64 p2,.int .i64 p3,.int .i64 p4],.agg #[.slice X1 x1 k1,.slice X2 x2 k2x,.slice X3 x3 k3,.slice X4 x4 k4]] w fun e w'=>e=.returned (.bool true)∧Below w.heap.size w w':=by
 go_enter Tryz.func5,Tryz.ntmps5
 obtain ⟨a1,a2,a3,a4,a0⟩:=ent4 w #[.int .i64 c,.slice A n k,.slice B m j] 24 #[.int .i64 d,.slice C n2 k2,.slice D m2 j2] 24 #[.int .i64 p1,.int .i64 p2,.int .i64 p3,.int .i64 p4] 28 #[.slice X1 x1 k1,.slice X2 x2 k2x,.slice X3 x3 k3,.slice X4 x4 k4] 36
 have b1:=rI h1 a0
 have b2:=rI h2 a0
 have b3:=rI h3 a0
 have b4:=rI h4 a0
 have a7:=iI hx0 a0
 have a8:=iI hx1 a0
 have a9:=iI hx2 a0
 have b0:=iI hx3 a0
 clear h1 h2 h3 h4 hx0 hx1 hx2 hx3
 obtain ⟨b6,b7,b8⟩:=at3 a1
 obtain ⟨b9,c0,c1⟩:=at3 a2
 obtain ⟨c2,c3,c4,c5⟩:=at4 a3
 obtain ⟨c6,c7,c8,c9⟩:=at4 a4
 clear b6 b7 b8 b9 c0 c1 c2 c3 c4 c5 c6 c7 c8 c9
 obtain ⟨o_,ho_⟩:∃ o,o=((.cells #[.int .i64 c,.slice A n k,.slice B m j,.int .i64 d,.slice C n2 k2,.slice D m2 j2] 24):Obj):=⟨_,rfl⟩
 replace a0:=bA a0 o_
 replace b1:=rA b1 o_
 replace b2:=rA b2 o_
 replace b3:=rA b3 o_
 replace b4:=rA b4 o_
 replace a7:=iA a7 o_
 replace a8:=iA a8 o_
 replace a9:=iA a9 o_
 replace b0:=iA b0 o_
 replace a1:=kA a1 o_
 replace a2:=kA a2 o_
 replace a3:=kA a3 o_
 replace a4:=kA a4 o_
 subst ho_
 have nb_:=Blk.new ((((w.alloc (.cells #[.int .i64 c,.slice A n k,.slice B m j] 24)).alloc (.cells #[.int .i64 d,.slice C n2 k2,.slice D m2 j2] 24)).alloc (.cells #[.int .i64 p1,.int .i64 p2,.int .i64 p3,.int .i64 p4] 28)).alloc (.cells #[.slice X1 x1 k1,.slice X2 x2 k2x,.slice X3 x3 k3,.slice X4 x4 k4] 36)) 24 #[.int .i64 c,.slice A n k,.slice B m j,.int .i64 d,.slice C n2 k2,.slice D m2 j2]
 simp only [World.size_alloc] at nb_
 have b5:=hid nb_;clear nb_
 have hc:=small3_is c A B n k m j d C D n2 k2 m2 j2 _ _ b5.out _ hs
 have HC:=hid hc;clear hc
 go_wp2_with fail
 refine HC.out.mono ?_
 rintro e d0 ⟨rfl,hb⟩
 clear HC
 have a5:=hid hb
 clear hb
 replace a1:=kH a1 a5
 obtain ⟨d1,d2,d3⟩:=at3 a1
 replace a2:=kH a2 a5
 obtain ⟨d4,d5,d6⟩:=at3 a2
 replace a3:=kH a3 a5
 obtain ⟨d7,d8,d9,e0⟩:=at4 a3
 replace a4:=kH a4 a5
 obtain ⟨e1,e2,e3,e4⟩:=at4 a4
 have hc:=joined_any (d0)
 have HC:=hid hc;clear hc
 go_wp2_with fail
 refine HC.out.mono ?_
 rintro e e5 ⟨rfl,hb⟩
 clear HC
 clear d1 d2 d3 d4 d5 d6 d7 d8 d9 e0 e1 e2 e3 e4
 have a6:=hid hb
 clear hb
 replace a1:=kH a1 a6
 obtain ⟨e6,e7,e8⟩:=at3 a1
 replace a2:=kH a2 a6
 obtain ⟨e9,f0,f1⟩:=at3 a2
 replace a3:=kH a3 a6
 obtain ⟨f2,f3,f4,f5⟩:=at4 a3
 replace a4:=kH a4 a6
 obtain ⟨f6,f7,f8,f9⟩:=at4 a4
 go_wp2
 go_ret
 replace a0:=bH (bH a0 a5) a6
 exact ⟨rfl,a0.out⟩
set_option maxRecDepth 100000 in
theorem xh_err (c:Int) (A B:Option Addr) (n k m j:Nat) (ws ts:List Bnd) (d:Int) (C D:Option Addr) (n2 k2 m2 j2:Nat) (ws2 ts2:List Bnd) (p1 p2 p3 p4:Int) (w:World) (h1:RdB w A n k ws) (h2:RdB w B m j ts) (hn:n≤maxLen) (hm:m≤maxLen) (h3:RdB w C n2 k2 ws2) (h4:RdB w D m2 j2 ts2) (hn2:n2≤maxLen) (hm2:m2≤maxLen) (X1:Option Addr) (x1 k1:Nat) (xa:List Int) (X2:Option Addr) (x2 k2x:Nat) (xb:List Int) (X3:Option Addr) (x3 k3:Nat) (ya:List Int) (X4:Option Addr) (x4 k4:Nat) (yb:List Int) (hx0:RdI w X1 x1 k1 xa) (hl0:x1≤maxLen) (hx1:RdI w X2 x2 k2x xb) (hl1:x2≤maxLen) (hx2:RdI w X3 x3 k3 ya) (hl2:x3≤maxLen) (hx3:RdI w X4 x4 k4 yb) (hl3:x4≤maxLen) (hs:(decide (n≤40)&&decide (m≤40)&&decide (n2≤40)&&decide (m2≤40))=true) (s1 s2 s3:Int) (hw1:IntKind.i64.wrap ((x1:Int)+(x2:Int))=s1) (hw2:IntKind.i64.wrap (s1+(x3:Int))=s2) (hw3:IntKind.i64.wrap (s2+(x4:Int))=s3) (hs4:¬ (100:Int)<s3) (q:Int) (hq:(q == 0)=false) (ES:Hid (sharedV ⟨c,ws,ts⟩ ⟨d,ws2,ts2⟩ ⟨p1,p2,p3,p4⟩=(0,0,q))) (r:Int) (EL:Hid (placeV ⟨c,ws,ts⟩ ⟨d,ws2,ts2⟩ ⟨p1,p2,p3,p4⟩=(false,r,[],[],[],[]))) (EP:Hid (checkPlaceV ⟨c,ws,ts⟩ ⟨d,ws2,ts2⟩ ⟨p1,p2,p3,p4⟩ xa xb ya yb=(false,r))):Calls Tryz.prog 5 #[.agg #[.int .i64 c,.slice A n k,.slice B m j],.agg #[.int .i64 d,.slice C n2 k2,.slice D m2 j2],.agg #[.int .i64 p1,.int .i64 p2,.int .i64 p3,.int .i64 p4],.agg #[.slice X1 x1 k1,.slice X2 x2 k2x,.slice X3 x3 k3,.slice X4 x4 k4]] w fun e w'=>e=.returned (.bool true)∧Below w.heap.size w w':=by
 go_enter Tryz.func5,Tryz.ntmps5
 obtain ⟨a0,a1,a2,a3,a6⟩:=ent4 w #[.int .i64 c,.slice A n k,.slice B m j] 24 #[.int .i64 d,.slice C n2 k2,.slice D m2 j2] 24 #[.int .i64 p1,.int .i64 p2,.int .i64 p3,.int .i64 p4] 28 #[.slice X1 x1 k1,.slice X2 x2 k2x,.slice X3 x3 k3,.slice X4 x4 k4] 36
 have a7:=rI h1 a6
 have a8:=rI h2 a6
 have a9:=rI h3 a6
 have b0:=rI h4 a6
 have b9:=iI hx0 a6
 have c0:=iI hx1 a6
 have c1:=iI hx2 a6
 have c2:=iI hx3 a6
 clear h1 h2 h3 h4 hx0 hx1 hx2 hx3
 obtain ⟨m0,m1,m3⟩:=at3 a0
 obtain ⟨m4,m5,m6⟩:=at3 a1
 obtain ⟨m7,m8,m9,n0⟩:=at4 a2
 obtain ⟨n1,n3,n4,n5⟩:=at4 a3
 clear m0 m1 m3 m4 m5 m6 m7 m8 m9 n0 n1 n3 n4 n5
 obtain ⟨o_,ho_⟩:∃ o,o=((.cells #[.int .i64 c,.slice A n k,.slice B m j,.int .i64 d,.slice C n2 k2,.slice D m2 j2] 24):Obj):=⟨_,rfl⟩
 replace a6:=bA a6 o_
 replace a7:=rA a7 o_
 replace a8:=rA a8 o_
 replace a9:=rA a9 o_
 replace b0:=rA b0 o_
 replace b9:=iA b9 o_
 replace c0:=iA c0 o_
 replace c1:=iA c1 o_
 replace c2:=iA c2 o_
 replace a0:=kA a0 o_
 replace a1:=kA a1 o_
 replace a2:=kA a2 o_
 replace a3:=kA a3 o_
 subst ho_
 have nb_:=Blk.new ((((w.alloc (.cells #[.int .i64 c,.slice A n k,.slice B m j] 24)).alloc (.cells #[.int .i64 d,.slice C n2 k2,.slice D m2 j2] 24)).alloc (.cells #[.int .i64 p1,.int .i64 p2,.int .i64 p3,.int .i64 p4] 28)).alloc (.cells #[.slice X1 x1 k1,.slice X2 x2 k2x,.slice X3 x3 k3,.slice X4 x4 k4] 36)) 24 #[.int .i64 c,.slice A n k,.slice B m j,.int .i64 d,.slice C n2 k2,.slice D m2 j2]
 simp only [World.size_alloc] at nb_
 have d2:=hid nb_;clear nb_
 have hc:=small3_is c A B n k m j d C D n2 k2 m2 j2 _ _ d2.out _ hs
 have HC:=hid hc;clear hc
 go_wp2_with fail
 refine HC.out.mono ?_
 rintro e w0 ⟨rfl,hb⟩
 clear HC
 have b5:=hid hb
 clear hb
 replace a0:=kH a0 b5
 obtain ⟨n6,n7,n8⟩:=at3 a0
 replace a1:=kH a1 b5
 obtain ⟨n9,o0,o1⟩:=at3 a1
 replace a2:=kH a2 b5
 obtain ⟨o2,o3,o4,o5⟩:=at4 a2
 replace a3:=kH a3 b5
 obtain ⟨o6,o7,o8,o9⟩:=at4 a3
 replace a7:=rH a7 b5
 replace a8:=rH a8 b5
 replace a9:=rH a9 b5
 replace b0:=rH b0 b5
 have hc:=Shared_any c A B n k m j ws ts d C D n2 k2 m2 j2 ws2 ts2 p1 p2 p3 p4 _ a7.out a8.out hn hm a9.out b0.out hn2 hm2
 rw [ES.out] at hc
 try dsimp only at hc
 have HC:=hid hc;clear hc
 go_wp2_with fail
 refine HC.out.mono ?_
 rintro e w1 ⟨rfl,hb⟩
 clear HC
 clear n6 n7 n8 n9 o0 o1 o2 o3 o4 o5 o6 o7 o8 o9
 have b6:=hid hb
 clear hb
 replace a0:=kH a0 b6
 obtain ⟨p0,p5,p6⟩:=at3 a0
 replace a1:=kH a1 b6
 obtain ⟨p7,p8,p9⟩:=at3 a1
 replace a2:=kH a2 b6
 obtain ⟨q0,q1,q2,q3⟩:=at4 a2
 replace a3:=kH a3 b6
 obtain ⟨q4,q5,q6,q7⟩:=at4 a3
 clear hw1 hw2 hw3 hs4
 replace a7:=rH a7 b6
 replace a8:=rH a8 b6
 replace a9:=rH a9 b6
 replace b0:=rH b0 b6
 have hc:=rShared_any c A B n k m j ws ts d C D n2 k2 m2 j2 ws2 ts2 p1 p2 p3 p4 _ a7.out a8.out hn hm a9.out b0.out hn2 hm2 _ ES.out
 have HC:=hid hc;clear hc
 go_wp2_with fail
 refine HC.out.mono ?_
 rintro e w2 ⟨rfl,hb⟩
 clear HC
 clear p0 p5 p6 p7 p8 p9 q0 q1 q2 q3 q4 q5 q6 q7
 have b7:=hid hb
 clear hb
 replace a0:=kH a0 b7
 obtain ⟨q8,q9,r0⟩:=at3 a0
 replace a1:=kH a1 b7
 obtain ⟨r1,r2,r3⟩:=at3 a1
 replace a2:=kH a2 b7
 obtain ⟨r4,r5,r6,r7⟩:=at4 a2
 replace a3:=kH a3 b7
 obtain ⟨r8,r9,s0,s4⟩:=at4 a3
 replace a7:=rH a7 b7
 replace a8:=rH a8 b7
 replace a9:=rH a9 b7
 replace b0:=rH b0 b7
 have hc:=Place_any c A B n k m j ws ts d C D n2 k2 m2 j2 ws2 ts2 p1 p2 p3 p4 _ a7.out a8.out hn hm a9.out b0.out hn2 hm2 _ EL.out
 unfold RetPl at hc
 dsimp only at hc
 have m1_:(q != q)=false:=by simp
 have hc:=hc
 have HC:=hid hc;clear hc
 go_wp2_with fail
 refine HC.out.mono ?_
 rintro e d1 ⟨B1,b1,e1,B2,b2,e2,B3,b3,e3,B4,b4,e4,rfl,⟨hr1,hr2,hr3,hr4⟩,⟨hb1,hb2,hb3,hb4⟩,hb⟩
 clear HC
 clear q8 q9 r0 r1 r2 r3 r4 r5 r6 r7 r8 r9 s0 s4
 have b8:=hid hb
 clear hb
 have c7:=hid (hr1)
 clear hr1
 have c8:=hid (hr2)
 clear hr2
 have c9:=hid (hr3)
 clear hr3
 have d0:=hid (hr4)
 clear hr4
 obtain ⟨o_,ho_⟩:∃ o,o=((.cells #[.slice B1 b1 e1,.slice B2 b2 e2,.slice B3 b3 e3,.slice B4 b4 e4] 36):Obj):=⟨_,rfl⟩
 replace a6:=bA (bH (bH (bH (bH a6 b5) b6) b7) b8) o_
 replace a7:=rA (rH a7 b8) o_
 replace a8:=rA (rH a8 b8) o_
 replace a9:=rA (rH a9 b8) o_
 replace b0:=rA (rH b0 b8) o_
 replace b9:=iA (iH (iH (iH (iH b9 b5) b6) b7) b8) o_
 replace c0:=iA (iH (iH (iH (iH c0 b5) b6) b7) b8) o_
 replace c1:=iA (iH (iH (iH (iH c1 b5) b6) b7) b8) o_
 replace c2:=iA (iH (iH (iH (iH c2 b5) b6) b7) b8) o_
 replace a0:=kA (kH a0 b8) o_
 replace a1:=kA (kH a1 b8) o_
 replace a2:=kA (kH a2 b8) o_
 replace a3:=kA (kH a3 b8) o_
 replace c7:=iA c7 o_
 replace c8:=iA c8 o_
 replace c9:=iA c9 o_
 replace d0:=iA d0 o_
 subst ho_
 have a4:=hid (Blk.new d1 36 #[.slice B1 b1 e1,.slice B2 b2 e2,.slice B3 b3 e3,.slice B4 b4 e4])
 obtain ⟨s5,s6,s7⟩:=at3 a0
 obtain ⟨s8,s9,t0⟩:=at3 a1
 obtain ⟨t1,t2,t3,t4⟩:=at4 a2
 obtain ⟨t5,t6,t7,t8⟩:=at4 a3
 obtain ⟨t9,u0,d3,d4⟩:=at4 a4
 go_wp2_with fail
 clear s5 s6 s7 s8 s9 t0 t1 t2 t3 t4 t5 t6 t7 t8 t9 u0 d3 d4
 obtain ⟨wB,hW_⟩:∃ w',w'=(d1.alloc (.cells #[.slice B1 b1 e1,.slice B2 b2 e2,.slice B3 b3 e3,.slice B4 b4 e4] 36)):=⟨_,rfl⟩
 rw [← hW_] at a6 a7 a8 a9 b0 b9 c0 c1 c2 a0 a1 a2 a3 c7 c8 c9 d0 a4
 rw [← hW_]
 clear hW_
 obtain ⟨d5,d6,d7⟩:=at3 a0
 obtain ⟨d8,d9,e0⟩:=at3 a1
 obtain ⟨e5,e6,e7,e8⟩:=at4 a2
 obtain ⟨e9,f0,f1,f2⟩:=at4 a3
 obtain ⟨f3,f4,f5,f6⟩:=at4 a4
 go_quiet (fail)
 obtain ⟨nqy,rfl⟩:∃ n,n=nq:=⟨_,rfl⟩
 clear d5 d6 d7 d8 d9 e0 e5 e6 e7 e8 e9 f0 f1 f2 f3 f4 f5 f6
 have hb:Below (wB).heap.size (wB) ((wB).drewN nqy):=⟨rfl,rfl,rfl,Nat.le_refl _,fun _ _=>rfl⟩
 have a5:=hid hb
 clear hb
 replace a0:=kH a0 a5
 obtain ⟨f7,f8,f9⟩:=at3 a0
 replace a1:=kH a1 a5
 obtain ⟨g0,g1,g2⟩:=at3 a1
 replace a2:=kH a2 a5
 obtain ⟨g3,g4,g5,g6⟩:=at4 a2
 replace a3:=kH a3 a5
 obtain ⟨g7,g8,g9,h0⟩:=at4 a3
 replace a4:=kH a4 a5
 obtain ⟨h5,h6,h7,h8⟩:=at4 a4
 replace a7:=rH a7 a5
 replace a8:=rH a8 a5
 replace a9:=rH a9 a5
 replace b0:=rH b0 a5
 replace b9:=iH b9 a5
 replace c0:=iH c0 a5
 replace c1:=iH c1 a5
 replace c2:=iH c2 a5
 have hc:=CheckPlace_any c A B n k m j ws ts d C D n2 k2 m2 j2 ws2 ts2 p1 p2 p3 p4 _ a7.out a8.out hn hm a9.out b0.out hn2 hm2 X1 x1 k1 xa X2 x2 k2x xb X3 x3 k3 ya X4 x4 k4 yb b9.out hl0 c0.out hl1 c1.out hl2 c2.out hl3
 rw [EP.out] at hc
 try dsimp only at hc
 have HC:=hid hc;clear hc
 go_wp2_with fail
 refine HC.out.mono ?_
 rintro e c6 ⟨rfl,hb⟩
 clear HC
 clear f7 f8 f9 g0 g1 g2 g3 g4 g5 g6 g7 g8 g9 h0 h5 h6 h7 h8
 have c3:=hid hb
 clear hb
 replace a0:=kH a0 c3
 obtain ⟨h9,i0,i1⟩:=at3 a0
 replace a1:=kH a1 c3
 obtain ⟨i2,i3,i4⟩:=at3 a1
 replace a2:=kH a2 c3
 obtain ⟨i5,i6,i7,i8⟩:=at4 a2
 replace a3:=kH a3 c3
 obtain ⟨i9,j0,j1,j3⟩:=at4 a3
 replace a4:=kH a4 c3
 obtain ⟨j4,j5,j6,j7⟩:=at4 a4
 go_wp2_with fail
 go_quiet (fail)
 obtain ⟨nqx,rfl⟩:∃ n,n=nq:=⟨_,rfl⟩
 clear h9 i0 i1 i2 i3 i4 i5 i6 i7 i8 i9 j0 j1 j3 j4 j5 j6 j7
 have hb:Below (c6).heap.size (c6) ((c6).drewN nqx):=⟨rfl,rfl,rfl,Nat.le_refl _,fun _ _=>rfl⟩
 have c4:=hid hb
 clear hb
 replace a0:=kH a0 c4
 obtain ⟨j8,j9,k0⟩:=at3 a0
 replace a1:=kH a1 c4
 obtain ⟨k5,k6,k7⟩:=at3 a1
 replace a2:=kH a2 c4
 obtain ⟨k8,k9,l0,l1⟩:=at4 a2
 replace a3:=kH a3 c4
 obtain ⟨l2,l3,l4,l5⟩:=at4 a3
 replace a4:=kH a4 c4
 obtain ⟨l6,l7,l8,l9⟩:=at4 a4
 have hc:=joined_any (((c6).drewN nqx))
 have HC:=hid hc;clear hc
 go_wp2_with fail
 refine HC.out.mono ?_
 rintro e u1 ⟨rfl,hb⟩
 clear HC
 clear j8 j9 k0 k5 k6 k7 k8 k9 l0 l1 l2 l3 l4 l5 l6 l7 l8 l9
 have c5:=hid hb
 clear hb
 replace a0:=kH a0 c5
 obtain ⟨u2,u3,u4⟩:=at3 a0
 replace a1:=kH a1 c5
 obtain ⟨u5,u6,u7⟩:=at3 a1
 replace a2:=kH a2 c5
 obtain ⟨u8,u9,v0,v1⟩:=at4 a2
 replace a3:=kH a3 c5
 obtain ⟨v2,v3,v4,v5⟩:=at4 a3
 replace a4:=kH a4 c5
 obtain ⟨v6,v7,v8,v9⟩:=at4 a4
 go_wp2
 go_ret
 replace a6:=bH (bH (bH (bH a6 a5) c3) c4) c5
 exact ⟨rfl,a6.out⟩
set_option maxRecDepth 100000 in
theorem xh_yf (c:Int) (A B:Option Addr) (n k m j:Nat) (ws ts:List Bnd) (d:Int) (C D:Option Addr) (n2 k2 m2 j2:Nat) (ws2 ts2:List Bnd) (p1 p2:Nat) (p3 p4:Int) (w:World) (h1:RdB w A n k ws) (h2:RdB w B m j ts) (hn:n≤maxLen) (hm:m≤maxLen) (h3:RdB w C n2 k2 ws2) (h4:RdB w D m2 j2 ts2) (hn2:n2≤maxLen) (hm2:m2≤maxLen) (X1:Option Addr) (x1 k1:Nat) (xa:List Int) (X2:Option Addr) (x2 k2x:Nat) (xb:List Int) (X3:Option Addr) (x3 k3:Nat) (ya:List Int) (X4:Option Addr) (x4 k4:Nat) (yb:List Int) (hx0:RdI w X1 x1 k1 xa) (hl0:x1≤maxLen) (hx1:RdI w X2 x2 k2x xb) (hl1:x2≤maxLen) (hx2:RdI w X3 x3 k3 ya) (hl2:x3≤maxLen) (hx3:RdI w X4 x4 k4 yb) (hl3:x4≤maxLen) (hs:(decide (n≤40)&&decide (m≤40)&&decide (n2≤40)&&decide (m2≤40))=true) (s1 s2 s3:Int) (hw1:IntKind.i64.wrap ((x1:Int)+(x2:Int))=s1) (hw2:IntKind.i64.wrap (s1+(x3:Int))=s2) (hw3:IntKind.i64.wrap (s2+(x4:Int))=s3) (hs4:¬ (100:Int)<s3) (hc1:3≤c) (hc2:c≤16) (hp1:p1<p2) (hp2:(p2:Int)≤c) (lo hi:Int) (ES:Hid (sharedV ⟨c,ws,ts⟩ ⟨d,ws2,ts2⟩ ⟨p1,p2,p3,p4⟩=(lo,hi,0))) (L1 L2 L3 L4:List Int) (EL:Hid (placeV ⟨c,ws,ts⟩ ⟨d,ws2,ts2⟩ ⟨p1,p2,p3,p4⟩=(true,0,L1,L2,L3,L4))) (HB1:Hid (((L1).length:Int)=c+1∧(∀ i,-100000000≤at_ L1 i∧at_ L1 i≤100000000)∧lo≤at_ L1 p2-at_ L1 p1∧at_ L1 p2-at_ L1 p1≤hi)) (EP:Hid (checkPlaceV ⟨c,ws,ts⟩ ⟨d,ws2,ts2⟩ ⟨p1,p2,p3,p4⟩ xa xb ya yb=(false,0))):Calls Tryz.prog 5 #[.agg #[.int .i64 c,.slice A n k,.slice B m j],.agg #[.int .i64 d,.slice C n2 k2,.slice D m2 j2],.agg #[.int .i64 p1,.int .i64 p2,.int .i64 p3,.int .i64 p4],.agg #[.slice X1 x1 k1,.slice X2 x2 k2x,.slice X3 x3 k3,.slice X4 x4 k4]] w fun e w'=>e=.returned (.bool true)∧Below w.heap.size w w':=by
 go_enter Tryz.func5,Tryz.ntmps5
 obtain ⟨a0,a2,a1,a3,a6⟩:=ent4 w #[.int .i64 c,.slice A n k,.slice B m j] 24 #[.int .i64 d,.slice C n2 k2,.slice D m2 j2] 24 #[.int .i64 p1,.int .i64 p2,.int .i64 p3,.int .i64 p4] 28 #[.slice X1 x1 k1,.slice X2 x2 k2x,.slice X3 x3 k3,.slice X4 x4 k4] 36
 have a7:=rI h1 a6
 have a8:=rI h2 a6
 have a9:=rI h3 a6
 have b0:=rI h4 a6
 have b9:=iI hx0 a6
 have c0:=iI hx1 a6
 have c1:=iI hx2 a6
 have c2:=iI hx3 a6
 clear h1 h2 h3 h4 hx0 hx1 hx2 hx3
 obtain ⟨o0,o1,o2⟩:=at3 a0
 obtain ⟨o3,o4,o5⟩:=at3 a2
 obtain ⟨o6,o7,o8,o9⟩:=at4 a1
 obtain ⟨p0,p5,p6,p7⟩:=at4 a3
 clear o0 o1 o2 o3 o4 o5 o6 o7 o8 o9 p0 p5 p6 p7
 obtain ⟨o_,ho_⟩:∃ o,o=((.cells #[.int .i64 c,.slice A n k,.slice B m j,.int .i64 d,.slice C n2 k2,.slice D m2 j2] 24):Obj):=⟨_,rfl⟩
 replace a6:=bA a6 o_
 replace a7:=rA a7 o_
 replace a8:=rA a8 o_
 replace a9:=rA a9 o_
 replace b0:=rA b0 o_
 replace b9:=iA b9 o_
 replace c0:=iA c0 o_
 replace c1:=iA c1 o_
 replace c2:=iA c2 o_
 replace a0:=kA a0 o_
 replace a2:=kA a2 o_
 replace a1:=kA a1 o_
 replace a3:=kA a3 o_
 subst ho_
 have nb_:=Blk.new ((((w.alloc (.cells #[.int .i64 c,.slice A n k,.slice B m j] 24)).alloc (.cells #[.int .i64 d,.slice C n2 k2,.slice D m2 j2] 24)).alloc (.cells #[.int .i64 p1,.int .i64 p2,.int .i64 p3,.int .i64 p4] 28)).alloc (.cells #[.slice X1 x1 k1,.slice X2 x2 k2x,.slice X3 x3 k3,.slice X4 x4 k4] 36)) 24 #[.int .i64 c,.slice A n k,.slice B m j,.int .i64 d,.slice C n2 k2,.slice D m2 j2]
 simp only [World.size_alloc] at nb_
 have d2:=hid nb_;clear nb_
 have hc:=small3_is c A B n k m j d C D n2 k2 m2 j2 _ _ d2.out _ hs
 have HC:=hid hc;clear hc
 go_wp2_with fail
 refine HC.out.mono ?_
 rintro e y2 ⟨rfl,hb⟩
 clear HC
 have b5:=hid hb
 clear hb
 replace a0:=kH a0 b5
 obtain ⟨p8,p9,q0⟩:=at3 a0
 replace a2:=kH a2 b5
 obtain ⟨q1,q2,q3⟩:=at3 a2
 replace a1:=kH a1 b5
 obtain ⟨q4,q5,q6,q7⟩:=at4 a1
 replace a3:=kH a3 b5
 obtain ⟨q8,q9,r0,r1⟩:=at4 a3
 replace a7:=rH a7 b5
 replace a8:=rH a8 b5
 replace a9:=rH a9 b5
 replace b0:=rH b0 b5
 have hc:=Shared_any c A B n k m j ws ts d C D n2 k2 m2 j2 ws2 ts2 p1 p2 p3 p4 _ a7.out a8.out hn hm a9.out b0.out hn2 hm2
 rw [ES.out] at hc
 try dsimp only at hc
 have HC:=hid hc;clear hc
 go_wp2_with fail
 refine HC.out.mono ?_
 rintro e y3 ⟨rfl,hb⟩
 clear HC
 clear p8 p9 q0 q1 q2 q3 q4 q5 q6 q7 q8 q9 r0 r1
 have b6:=hid hb
 clear hb
 replace a0:=kH a0 b6
 obtain ⟨r2,r3,r4⟩:=at3 a0
 replace a2:=kH a2 b6
 obtain ⟨r5,r6,r7⟩:=at3 a2
 replace a1:=kH a1 b6
 obtain ⟨r8,r9,s0,s4⟩:=at4 a1
 replace a3:=kH a3 b6
 obtain ⟨s5,s6,s7,s8⟩:=at4 a3
 clear hw1 hw2 hw3 hs4
 replace a7:=rH a7 b6
 replace a8:=rH a8 b6
 replace a9:=rH a9 b6
 replace b0:=rH b0 b6
 have hc:=rShared_any c A B n k m j ws ts d C D n2 k2 m2 j2 ws2 ts2 p1 p2 p3 p4 _ a7.out a8.out hn hm a9.out b0.out hn2 hm2 _ ES.out
 have HC:=hid hc;clear hc
 go_wp2_with fail
 refine HC.out.mono ?_
 rintro e y4 ⟨rfl,hb⟩
 clear HC
 clear r2 r3 r4 r5 r6 r7 r8 r9 s0 s4 s5 s6 s7 s8
 have b7:=hid hb
 clear hb
 replace a0:=kH a0 b7
 obtain ⟨s9,t0,t1⟩:=at3 a0
 replace a2:=kH a2 b7
 obtain ⟨t2,t3,t4⟩:=at3 a2
 replace a1:=kH a1 b7
 obtain ⟨t5,t6,t7,t8⟩:=at4 a1
 replace a3:=kH a3 b7
 obtain ⟨t9,u0,u1,u2⟩:=at4 a3
 replace a7:=rH a7 b7
 replace a8:=rH a8 b7
 replace a9:=rH a9 b7
 replace b0:=rH b0 b7
 have hc:=Place_any c A B n k m j ws ts d C D n2 k2 m2 j2 ws2 ts2 p1 p2 p3 p4 _ a7.out a8.out hn hm a9.out b0.out hn2 hm2 _ EL.out
 unfold RetPl at hc
 dsimp only at hc
 have m1_:(lo != lo)=false:=by simp
 have m2_:(hi != hi)=false:=by simp
 have hc:=hc
 have HC:=hid hc;clear hc
 go_wp2_with fail
 refine HC.out.mono ?_
 rintro e d1 ⟨B1,b1,e1,B2,b2,e2,B3,b3,e3,B4,b4,e4,rfl,⟨hr1,hr2,hr3,hr4⟩,⟨hb1,hb2,hb3,hb4⟩,hb⟩
 clear HC
 clear s9 t0 t1 t2 t3 t4 t5 t6 t7 t8 t9 u0 u1 u2
 have b8:=hid hb
 clear hb
 have c6:=hid (hr1)
 clear hr1
 have c8:=hid (hr2)
 clear hr2
 have c9:=hid (hr3)
 clear hr3
 have d0:=hid (hr4)
 clear hr4
 obtain ⟨o_,ho_⟩:∃ o,o=((.cells #[.slice B1 b1 e1,.slice B2 b2 e2,.slice B3 b3 e3,.slice B4 b4 e4] 36):Obj):=⟨_,rfl⟩
 replace a6:=bA (bH (bH (bH (bH a6 b5) b6) b7) b8) o_
 replace a7:=rA (rH a7 b8) o_
 replace a8:=rA (rH a8 b8) o_
 replace a9:=rA (rH a9 b8) o_
 replace b0:=rA (rH b0 b8) o_
 replace b9:=iA (iH (iH (iH (iH b9 b5) b6) b7) b8) o_
 replace c0:=iA (iH (iH (iH (iH c0 b5) b6) b7) b8) o_
 replace c1:=iA (iH (iH (iH (iH c1 b5) b6) b7) b8) o_
 replace c2:=iA (iH (iH (iH (iH c2 b5) b6) b7) b8) o_
 replace a0:=kA (kH a0 b8) o_
 replace a2:=kA (kH a2 b8) o_
 replace a1:=kA (kH a1 b8) o_
 replace a3:=kA (kH a3 b8) o_
 replace c6:=iA c6 o_
 replace c8:=iA c8 o_
 replace c9:=iA c9 o_
 replace d0:=iA d0 o_
 subst ho_
 have a4:=hid (Blk.new d1 36 #[.slice B1 b1 e1,.slice B2 b2 e2,.slice B3 b3 e3,.slice B4 b4 e4])
 obtain ⟨u3,u4,u5⟩:=at3 a0
 obtain ⟨u6,u7,u8⟩:=at3 a2
 obtain ⟨u9,v0,v1,v2⟩:=at4 a1
 obtain ⟨v3,v4,v5,v6⟩:=at4 a3
 obtain ⟨v7,v8,d3,d4⟩:=at4 a4
 clear m1_ m2_
 go_wp2_with fail
 clear u3 u4 u5 u6 u7 u8 u9 v0 v1 v2 v3 v4 v5 v6 v7 v8 d3 d4
 obtain ⟨wB,hW_⟩:∃ w',w'=(d1.alloc (.cells #[.slice B1 b1 e1,.slice B2 b2 e2,.slice B3 b3 e3,.slice B4 b4 e4] 36)):=⟨_,rfl⟩
 rw [← hW_] at a6 a7 a8 a9 b0 b9 c0 c1 c2 a0 a2 a1 a3 c6 c8 c9 d0 a4
 rw [← hW_]
 clear hW_
 obtain ⟨d5,d6,d7⟩:=at3 a0
 obtain ⟨d8,d9,e0⟩:=at3 a2
 obtain ⟨e5,e6,e7,e8⟩:=at4 a1
 obtain ⟨e9,f0,f1,f2⟩:=at4 a3
 obtain ⟨f3,f4,f5,f6⟩:=at4 a4
 have hleny:=(c6.out).len
 obtain ⟨hLy,hBy,loy,hiy⟩:=HB1.out
 obtain ⟨vy,hvy⟩:∃ v,L1[p2]?=some v:=⟨L1[p2]'(by omega),List.getElem?_eq_getElem _⟩
 obtain ⟨uy,huy⟩:∃ v,L1[p1]?=some v:=⟨L1[p1]'(by omega),List.getElem?_eq_getElem _⟩
 obtain ⟨gby,oby,hABy⟩:=rdI_some (c6.out) hvy
 subst hABy
 obtain ⟨cvy,lvy⟩:=rdI_at (c6.out) hvy
 obtain ⟨cuy,-⟩:=rdI_at (c6.out) huy
 have evy:at_ L1 p2=vy:=by simp [at_,hvy]
 have euy:at_ L1 p1=uy:=by simp [at_,huy]
 have bvy:=hBy p2;have buy:=hBy p1
 rw [evy] at bvy loy hiy
 rw [euy] at buy loy hiy
 have w1y:IntKind.i64.wrap (c+1)=c+1:=IntWalk.i64_in _ (by omega)
 have w2y:IntKind.i64.wrap (vy-uy)=vy-uy:=IntWalk.i64_in _ (by omega)
 have n1y:((b1:Int) != c+1)=false:=by simp;omega
 have n2y:decide (vy-uy<lo)=false:=decide_eq_false (by omega)
 have n3y:decide (hi<vy-uy)=false:=decide_eq_false (by omega)
 have n4y:¬ vy-uy<lo:=by omega
 have n5y:¬ hi<vy-uy:=by omega
 have i1y:(p1:Int)<(b1:Int):=by omega
 have i2y:(p2:Int)<(b1:Int):=by omega
 clear hleny hLy hBy loy hiy hvy huy evy euy bvy buy
 clear d5 d6 d7 d8 d9 e0 e5 e6 e7 e8 e9 f0 f1 f2 f3 f4 f5 f6
 obtain ⟨f7,f8,f9⟩:=at3 a0
 obtain ⟨g0,g1,g2⟩:=at3 a2
 obtain ⟨g3,g4,g5,g6⟩:=at4 a1
 obtain ⟨g7,g8,g9,h0⟩:=at4 a3
 obtain ⟨h5,h6,h7,h8⟩:=at4 a4
 have lbay:=Blk.lt a0.out;have lbpy:=Blk.lt a1.out;have lbply:=Blk.lt a4.out
 go_quiet (fail)
 obtain ⟨nqy,rfl⟩:∃ n,n=nq:=⟨_,rfl⟩
 clear f7 f8 f9 g0 g1 g2 g3 g4 g5 g6 g7 g8 g9 h0 h5 h6 h7 h8
 have hb:Below (wB).heap.size (wB) ((wB).drewN nqy):=⟨rfl,rfl,rfl,Nat.le_refl _,fun _ _=>rfl⟩
 have a5:=hid hb
 clear hb
 clear cvy cuy lvy w1y w2y n1y n2y n3y n4y n5y i1y i2y lbay lbpy lbply
 replace a0:=kH a0 a5
 obtain ⟨h9,i0,i1⟩:=at3 a0
 replace a2:=kH a2 a5
 obtain ⟨i2,i3,i4⟩:=at3 a2
 replace a1:=kH a1 a5
 obtain ⟨i5,i6,i7,i8⟩:=at4 a1
 replace a3:=kH a3 a5
 obtain ⟨i9,j0,j1,j3⟩:=at4 a3
 replace a4:=kH a4 a5
 obtain ⟨j4,j5,j6,j7⟩:=at4 a4
 replace a7:=rH a7 a5
 replace a8:=rH a8 a5
 replace a9:=rH a9 a5
 replace b0:=rH b0 a5
 replace b9:=iH b9 a5
 replace c0:=iH c0 a5
 replace c1:=iH c1 a5
 replace c2:=iH c2 a5
 have hc:=CheckPlace_any c A B n k m j ws ts d C D n2 k2 m2 j2 ws2 ts2 (p1:Int) (p2:Int) p3 p4 _ a7.out a8.out hn hm a9.out b0.out hn2 hm2 X1 x1 k1 xa X2 x2 k2x xb X3 x3 k3 ya X4 x4 k4 yb b9.out hl0 c0.out hl1 c1.out hl2 c2.out hl3
 rw [EP.out] at hc
 try dsimp only at hc
 have HC:=hid hc;clear hc
 go_wp2_with fail
 refine HC.out.mono ?_
 rintro e c7 ⟨rfl,hb⟩
 clear HC
 clear h9 i0 i1 i2 i3 i4 i5 i6 i7 i8 i9 j0 j1 j3 j4 j5 j6 j7
 have c3:=hid hb
 clear hb
 replace a0:=kH a0 c3
 obtain ⟨j8,j9,k0⟩:=at3 a0
 replace a2:=kH a2 c3
 obtain ⟨k5,k6,k7⟩:=at3 a2
 replace a1:=kH a1 c3
 obtain ⟨k8,k9,l0,l1⟩:=at4 a1
 replace a3:=kH a3 c3
 obtain ⟨l2,l3,l4,l5⟩:=at4 a3
 replace a4:=kH a4 c3
 obtain ⟨l6,l7,l8,l9⟩:=at4 a4
 go_wp2_with fail
 go_quiet (fail)
 obtain ⟨nqx,rfl⟩:∃ n,n=nq:=⟨_,rfl⟩
 clear j8 j9 k0 k5 k6 k7 k8 k9 l0 l1 l2 l3 l4 l5 l6 l7 l8 l9
 have hb:Below (c7).heap.size (c7) ((c7).drewN nqx):=⟨rfl,rfl,rfl,Nat.le_refl _,fun _ _=>rfl⟩
 have c4:=hid hb
 clear hb
 replace a0:=kH a0 c4
 obtain ⟨m0,m1,m3⟩:=at3 a0
 replace a2:=kH a2 c4
 obtain ⟨m4,m5,m6⟩:=at3 a2
 replace a1:=kH a1 c4
 obtain ⟨m7,m8,m9,n0⟩:=at4 a1
 replace a3:=kH a3 c4
 obtain ⟨n1,n3,n4,n5⟩:=at4 a3
 replace a4:=kH a4 c4
 obtain ⟨n6,n7,n8,n9⟩:=at4 a4
 have hc:=joined_any (((c7).drewN nqx))
 have HC:=hid hc;clear hc
 go_wp2_with fail
 refine HC.out.mono ?_
 rintro e v9 ⟨rfl,hb⟩
 clear HC
 clear m0 m1 m3 m4 m5 m6 m7 m8 m9 n0 n1 n3 n4 n5 n6 n7 n8 n9
 have c5:=hid hb
 clear hb
 replace a0:=kH a0 c5
 obtain ⟨w0,w1,w2⟩:=at3 a0
 replace a2:=kH a2 c5
 obtain ⟨w3,w4,w5⟩:=at3 a2
 replace a1:=kH a1 c5
 obtain ⟨w6,w7,w8,w9⟩:=at4 a1
 replace a3:=kH a3 c5
 obtain ⟨x0,x5,x6,x7⟩:=at4 a3
 replace a4:=kH a4 c5
 obtain ⟨x8,x9,y0,y1⟩:=at4 a4
 go_wp2
 go_ret
 replace a6:=bH (bH (bH (bH a6 a5) c3) c4) c5
 exact ⟨rfl,a6.out⟩
set_option maxRecDepth 100000 in
theorem xh_yt (c:Int) (A B:Option Addr) (n k m j:Nat) (ws ts:List Bnd) (d:Int) (C D:Option Addr) (n2 k2 m2 j2:Nat) (ws2 ts2:List Bnd) (p1 p2:Nat) (p3 p4:Int) (w:World) (h1:RdB w A n k ws) (h2:RdB w B m j ts) (hn:n≤maxLen) (hm:m≤maxLen) (h3:RdB w C n2 k2 ws2) (h4:RdB w D m2 j2 ts2) (hn2:n2≤maxLen) (hm2:m2≤maxLen) (X1:Option Addr) (x1 k1:Nat) (xa:List Int) (X2:Option Addr) (x2 k2x:Nat) (xb:List Int) (X3:Option Addr) (x3 k3:Nat) (ya:List Int) (X4:Option Addr) (x4 k4:Nat) (yb:List Int) (hx0:RdI w X1 x1 k1 xa) (hl0:x1≤maxLen) (hx1:RdI w X2 x2 k2x xb) (hl1:x2≤maxLen) (hx2:RdI w X3 x3 k3 ya) (hl2:x3≤maxLen) (hx3:RdI w X4 x4 k4 yb) (hl3:x4≤maxLen) (hs:(decide (n≤40)&&decide (m≤40)&&decide (n2≤40)&&decide (m2≤40))=true) (s1 s2 s3:Int) (hw1:IntKind.i64.wrap ((x1:Int)+(x2:Int))=s1) (hw2:IntKind.i64.wrap (s1+(x3:Int))=s2) (hw3:IntKind.i64.wrap (s2+(x4:Int))=s3) (hs4:¬ (100:Int)<s3) (hc1:3≤c) (hc2:c≤16) (hp1:p1<p2) (hp2:(p2:Int)≤c) (lo hi:Int) (ES:Hid (sharedV ⟨c,ws,ts⟩ ⟨d,ws2,ts2⟩ ⟨p1,p2,p3,p4⟩=(lo,hi,0))) (L1 L2 L3 L4:List Int) (EL:Hid (placeV ⟨c,ws,ts⟩ ⟨d,ws2,ts2⟩ ⟨p1,p2,p3,p4⟩=(true,0,L1,L2,L3,L4))) (HB1:Hid (((L1).length:Int)=c+1∧(∀ i,-100000000≤at_ L1 i∧at_ L1 i≤100000000)∧lo≤at_ L1 p2-at_ L1 p1∧at_ L1 p2-at_ L1 p1≤hi)) (EP:Hid (checkPlaceV ⟨c,ws,ts⟩ ⟨d,ws2,ts2⟩ ⟨p1,p2,p3,p4⟩ xa xb ya yb=(true,0))) (HB2:Hid (((xa).length:Int)=c+1∧(∀ i,-100000000≤at_ xa i∧at_ xa i≤100000000)∧lo≤at_ xa p2-at_ xa p1∧at_ xa p2-at_ xa p1≤hi)):Calls Tryz.prog 5 #[.agg #[.int .i64 c,.slice A n k,.slice B m j],.agg #[.int .i64 d,.slice C n2 k2,.slice D m2 j2],.agg #[.int .i64 p1,.int .i64 p2,.int .i64 p3,.int .i64 p4],.agg #[.slice X1 x1 k1,.slice X2 x2 k2x,.slice X3 x3 k3,.slice X4 x4 k4]] w fun e w'=>e=.returned (.bool true)∧Below w.heap.size w w':=by
 go_enter Tryz.func5,Tryz.ntmps5
 obtain ⟨a0,a3,a1,a2,a6⟩:=ent4 w #[.int .i64 c,.slice A n k,.slice B m j] 24 #[.int .i64 d,.slice C n2 k2,.slice D m2 j2] 24 #[.int .i64 p1,.int .i64 p2,.int .i64 p3,.int .i64 p4] 28 #[.slice X1 x1 k1,.slice X2 x2 k2x,.slice X3 x3 k3,.slice X4 x4 k4] 36
 have a8:=rI h1 a6
 have a9:=rI h2 a6
 have b0:=rI h3 a6
 have b5:=rI h4 a6
 have a7:=iI hx0 a6
 have c1:=iI hx1 a6
 have c2:=iI hx2 a6
 have c3:=iI hx3 a6
 clear h1 h2 h3 h4 hx0 hx1 hx2 hx3
 obtain ⟨q2,q3,q4⟩:=at3 a0
 obtain ⟨q5,q6,q7⟩:=at3 a3
 obtain ⟨q8,q9,r0,r1⟩:=at4 a1
 obtain ⟨r2,r3,r4,r5⟩:=at4 a2
 clear q2 q3 q4 q5 q6 q7 q8 q9 r0 r1 r2 r3 r4 r5
 obtain ⟨o_,ho_⟩:∃ o,o=((.cells #[.int .i64 c,.slice A n k,.slice B m j,.int .i64 d,.slice C n2 k2,.slice D m2 j2] 24):Obj):=⟨_,rfl⟩
 replace a6:=bA a6 o_
 replace a8:=rA a8 o_
 replace a9:=rA a9 o_
 replace b0:=rA b0 o_
 replace b5:=rA b5 o_
 replace a7:=iA a7 o_
 replace c1:=iA c1 o_
 replace c2:=iA c2 o_
 replace c3:=iA c3 o_
 replace a0:=kA a0 o_
 replace a3:=kA a3 o_
 replace a1:=kA a1 o_
 replace a2:=kA a2 o_
 subst ho_
 have nb_:=Blk.new ((((w.alloc (.cells #[.int .i64 c,.slice A n k,.slice B m j] 24)).alloc (.cells #[.int .i64 d,.slice C n2 k2,.slice D m2 j2] 24)).alloc (.cells #[.int .i64 p1,.int .i64 p2,.int .i64 p3,.int .i64 p4] 28)).alloc (.cells #[.slice X1 x1 k1,.slice X2 x2 k2x,.slice X3 x3 k3,.slice X4 x4 k4] 36)) 24 #[.int .i64 c,.slice A n k,.slice B m j,.int .i64 d,.slice C n2 k2,.slice D m2 j2]
 simp only [World.size_alloc] at nb_
 have d2:=hid nb_;clear nb_
 have hc:=small3_is c A B n k m j d C D n2 k2 m2 j2 _ _ d2.out _ hs
 have HC:=hid hc;clear hc
 go_wp2_with fail
 refine HC.out.mono ?_
 rintro e A0 ⟨rfl,hb⟩
 clear HC
 have b6:=hid hb
 clear hb
 replace a0:=kH a0 b6
 obtain ⟨r6,r7,r8⟩:=at3 a0
 replace a3:=kH a3 b6
 obtain ⟨r9,s0,s4⟩:=at3 a3
 replace a1:=kH a1 b6
 obtain ⟨s5,s6,s7,s8⟩:=at4 a1
 replace a2:=kH a2 b6
 obtain ⟨s9,t0,t1,t2⟩:=at4 a2
 replace a8:=rH a8 b6
 replace a9:=rH a9 b6
 replace b0:=rH b0 b6
 replace b5:=rH b5 b6
 have hc:=Shared_any c A B n k m j ws ts d C D n2 k2 m2 j2 ws2 ts2 p1 p2 p3 p4 _ a8.out a9.out hn hm b0.out b5.out hn2 hm2
 rw [ES.out] at hc
 try dsimp only at hc
 have HC:=hid hc;clear hc
 go_wp2_with fail
 refine HC.out.mono ?_
 rintro e A1 ⟨rfl,hb⟩
 clear HC
 clear r6 r7 r8 r9 s0 s4 s5 s6 s7 s8 s9 t0 t1 t2
 have b7:=hid hb
 clear hb
 replace a0:=kH a0 b7
 obtain ⟨t3,t4,t5⟩:=at3 a0
 replace a3:=kH a3 b7
 obtain ⟨t6,t7,t8⟩:=at3 a3
 replace a1:=kH a1 b7
 obtain ⟨t9,u0,u1,u2⟩:=at4 a1
 replace a2:=kH a2 b7
 obtain ⟨u3,u4,u5,u6⟩:=at4 a2
 clear hw1 hw2 hw3 hs4
 replace a8:=rH a8 b7
 replace a9:=rH a9 b7
 replace b0:=rH b0 b7
 replace b5:=rH b5 b7
 have hc:=rShared_any c A B n k m j ws ts d C D n2 k2 m2 j2 ws2 ts2 p1 p2 p3 p4 _ a8.out a9.out hn hm b0.out b5.out hn2 hm2 _ ES.out
 have HC:=hid hc;clear hc
 go_wp2_with fail
 refine HC.out.mono ?_
 rintro e A2 ⟨rfl,hb⟩
 clear HC
 clear t3 t4 t5 t6 t7 t8 t9 u0 u1 u2 u3 u4 u5 u6
 have b8:=hid hb
 clear hb
 replace a0:=kH a0 b8
 obtain ⟨u7,u8,u9⟩:=at3 a0
 replace a3:=kH a3 b8
 obtain ⟨v0,v1,v2⟩:=at3 a3
 replace a1:=kH a1 b8
 obtain ⟨v3,v4,v5,v6⟩:=at4 a1
 replace a2:=kH a2 b8
 obtain ⟨v7,v8,v9,w0⟩:=at4 a2
 replace a8:=rH a8 b8
 replace a9:=rH a9 b8
 replace b0:=rH b0 b8
 replace b5:=rH b5 b8
 have hc:=Place_any c A B n k m j ws ts d C D n2 k2 m2 j2 ws2 ts2 p1 p2 p3 p4 _ a8.out a9.out hn hm b0.out b5.out hn2 hm2 _ EL.out
 unfold RetPl at hc
 dsimp only at hc
 have m1_:(lo != lo)=false:=by simp
 have m2_:(hi != hi)=false:=by simp
 have hc:=hc
 have HC:=hid hc;clear hc
 go_wp2_with fail
 refine HC.out.mono ?_
 rintro e d1 ⟨B1,b1,e1,B2,b2,e2,B3,b3,e3,B4,b4,e4,rfl,⟨hr1,hr2,hr3,hr4⟩,⟨hb1,hb2,hb3,hb4⟩,hb⟩
 clear HC
 clear u7 u8 u9 v0 v1 v2 v3 v4 v5 v6 v7 v8 v9 w0
 have b9:=hid hb
 clear hb
 have c6:=hid (hr1)
 clear hr1
 have c8:=hid (hr2)
 clear hr2
 have c9:=hid (hr3)
 clear hr3
 have d0:=hid (hr4)
 clear hr4
 obtain ⟨o_,ho_⟩:∃ o,o=((.cells #[.slice B1 b1 e1,.slice B2 b2 e2,.slice B3 b3 e3,.slice B4 b4 e4] 36):Obj):=⟨_,rfl⟩
 replace a6:=bA (bH (bH (bH (bH a6 b6) b7) b8) b9) o_
 replace a8:=rA (rH a8 b9) o_
 replace a9:=rA (rH a9 b9) o_
 replace b0:=rA (rH b0 b9) o_
 replace b5:=rA (rH b5 b9) o_
 replace a7:=iA (iH (iH (iH (iH a7 b6) b7) b8) b9) o_
 replace c1:=iA (iH (iH (iH (iH c1 b6) b7) b8) b9) o_
 replace c2:=iA (iH (iH (iH (iH c2 b6) b7) b8) b9) o_
 replace c3:=iA (iH (iH (iH (iH c3 b6) b7) b8) b9) o_
 replace a0:=kA (kH a0 b9) o_
 replace a3:=kA (kH a3 b9) o_
 replace a1:=kA (kH a1 b9) o_
 replace a2:=kA (kH a2 b9) o_
 replace c6:=iA c6 o_
 replace c8:=iA c8 o_
 replace c9:=iA c9 o_
 replace d0:=iA d0 o_
 subst ho_
 have a4:=hid (Blk.new d1 36 #[.slice B1 b1 e1,.slice B2 b2 e2,.slice B3 b3 e3,.slice B4 b4 e4])
 obtain ⟨w1,w2,w3⟩:=at3 a0
 obtain ⟨w4,w5,w6⟩:=at3 a3
 obtain ⟨w7,w8,w9,x0⟩:=at4 a1
 obtain ⟨x5,x6,x7,x8⟩:=at4 a2
 obtain ⟨x9,y0,d3,d4⟩:=at4 a4
 clear m1_ m2_
 go_wp2_with fail
 clear w1 w2 w3 w4 w5 w6 w7 w8 w9 x0 x5 x6 x7 x8 x9 y0 d3 d4
 obtain ⟨wB,hW_⟩:∃ w',w'=(d1.alloc (.cells #[.slice B1 b1 e1,.slice B2 b2 e2,.slice B3 b3 e3,.slice B4 b4 e4] 36)):=⟨_,rfl⟩
 rw [← hW_] at a6 a8 a9 b0 b5 a7 c1 c2 c3 a0 a3 a1 a2 c6 c8 c9 d0 a4
 rw [← hW_]
 clear hW_
 obtain ⟨d5,d6,d7⟩:=at3 a0
 obtain ⟨d8,d9,e0⟩:=at3 a3
 obtain ⟨e5,e6,e7,e8⟩:=at4 a1
 obtain ⟨e9,f0,f1,f2⟩:=at4 a2
 obtain ⟨f3,f4,f5,f6⟩:=at4 a4
 have hleny:=(c6.out).len
 obtain ⟨hLy,hBy,loy,hiy⟩:=HB1.out
 obtain ⟨vy,hvy⟩:∃ v,L1[p2]?=some v:=⟨L1[p2]'(by omega),List.getElem?_eq_getElem _⟩
 obtain ⟨uy,huy⟩:∃ v,L1[p1]?=some v:=⟨L1[p1]'(by omega),List.getElem?_eq_getElem _⟩
 obtain ⟨gby,oby,hABy⟩:=rdI_some (c6.out) hvy
 subst hABy
 obtain ⟨cvy,lvy⟩:=rdI_at (c6.out) hvy
 obtain ⟨cuy,-⟩:=rdI_at (c6.out) huy
 have evy:at_ L1 p2=vy:=by simp [at_,hvy]
 have euy:at_ L1 p1=uy:=by simp [at_,huy]
 have bvy:=hBy p2;have buy:=hBy p1
 rw [evy] at bvy loy hiy
 rw [euy] at buy loy hiy
 have w1y:IntKind.i64.wrap (c+1)=c+1:=IntWalk.i64_in _ (by omega)
 have w2y:IntKind.i64.wrap (vy-uy)=vy-uy:=IntWalk.i64_in _ (by omega)
 have n1y:((b1:Int) != c+1)=false:=by simp;omega
 have n2y:decide (vy-uy<lo)=false:=decide_eq_false (by omega)
 have n3y:decide (hi<vy-uy)=false:=decide_eq_false (by omega)
 have n4y:¬ vy-uy<lo:=by omega
 have n5y:¬ hi<vy-uy:=by omega
 have i1y:(p1:Int)<(b1:Int):=by omega
 have i2y:(p2:Int)<(b1:Int):=by omega
 clear hleny hLy hBy loy hiy hvy huy evy euy bvy buy
 clear d5 d6 d7 d8 d9 e0 e5 e6 e7 e8 e9 f0 f1 f2 f3 f4 f5 f6
 obtain ⟨f7,f8,f9⟩:=at3 a0
 obtain ⟨g0,g1,g2⟩:=at3 a3
 obtain ⟨g3,g4,g5,g6⟩:=at4 a1
 obtain ⟨g7,g8,g9,h0⟩:=at4 a2
 obtain ⟨h5,h6,h7,h8⟩:=at4 a4
 have lbay:=Blk.lt a0.out;have lbpy:=Blk.lt a1.out;have lbply:=Blk.lt a4.out
 go_quiet (fail)
 obtain ⟨nqy,rfl⟩:∃ n,n=nq:=⟨_,rfl⟩
 clear f7 f8 f9 g0 g1 g2 g3 g4 g5 g6 g7 g8 g9 h0 h5 h6 h7 h8
 have hb:Below (wB).heap.size (wB) ((wB).drewN nqy):=⟨rfl,rfl,rfl,Nat.le_refl _,fun _ _=>rfl⟩
 have a5:=hid hb
 clear hb
 clear cvy cuy lvy w1y w2y n1y n2y n3y n4y n5y i1y i2y lbay lbpy lbply
 replace a0:=kH a0 a5
 obtain ⟨h9,i0,i1⟩:=at3 a0
 replace a3:=kH a3 a5
 obtain ⟨i2,i3,i4⟩:=at3 a3
 replace a1:=kH a1 a5
 obtain ⟨i5,i6,i7,i8⟩:=at4 a1
 replace a2:=kH a2 a5
 obtain ⟨i9,j0,j1,j3⟩:=at4 a2
 replace a4:=kH a4 a5
 obtain ⟨j4,j5,j6,j7⟩:=at4 a4
 replace a8:=rH a8 a5
 replace a9:=rH a9 a5
 replace b0:=rH b0 a5
 replace b5:=rH b5 a5
 replace a7:=iH a7 a5
 replace c1:=iH c1 a5
 replace c2:=iH c2 a5
 replace c3:=iH c3 a5
 have hc:=CheckPlace_any c A B n k m j ws ts d C D n2 k2 m2 j2 ws2 ts2 (p1:Int) (p2:Int) p3 p4 _ a8.out a9.out hn hm b0.out b5.out hn2 hm2 X1 x1 k1 xa X2 x2 k2x xb X3 x3 k3 ya X4 x4 k4 yb a7.out hl0 c1.out hl1 c2.out hl2 c3.out hl3
 rw [EP.out] at hc
 try dsimp only at hc
 have HC:=hid hc;clear hc
 go_wp2_with fail
 refine HC.out.mono ?_
 rintro e c7 ⟨rfl,hb⟩
 clear HC
 clear h9 i0 i1 i2 i3 i4 i5 i6 i7 i8 i9 j0 j1 j3 j4 j5 j6 j7
 have c0:=hid hb
 clear hb
 replace a0:=kH a0 c0
 obtain ⟨j8,j9,k0⟩:=at3 a0
 replace a3:=kH a3 c0
 obtain ⟨k5,k6,k7⟩:=at3 a3
 replace a1:=kH a1 c0
 obtain ⟨k8,k9,l0,l1⟩:=at4 a1
 replace a2:=kH a2 c0
 obtain ⟨l2,l3,l4,l5⟩:=at4 a2
 replace a4:=kH a4 c0
 obtain ⟨l6,l7,l8,l9⟩:=at4 a4
 replace a7:=iH a7 c0
 have hlenx:=(a7.out).len
 obtain ⟨hLx,hBx,lox,hix⟩:=HB2.out
 obtain ⟨vx,hvx⟩:∃ v,xa[p2]?=some v:=⟨xa[p2]'(by omega),List.getElem?_eq_getElem _⟩
 obtain ⟨ux,hux⟩:∃ v,xa[p1]?=some v:=⟨xa[p1]'(by omega),List.getElem?_eq_getElem _⟩
 obtain ⟨gbx,obx,hABx⟩:=rdI_some (a7.out) hvx
 subst hABx
 obtain ⟨cvx,lvx⟩:=rdI_at (a7.out) hvx
 obtain ⟨cux,-⟩:=rdI_at (a7.out) hux
 have evx:at_ xa p2=vx:=by simp [at_,hvx]
 have eux:at_ xa p1=ux:=by simp [at_,hux]
 have bvx:=hBx p2;have bux:=hBx p1
 rw [evx] at bvx lox hix
 rw [eux] at bux lox hix
 have w1x:IntKind.i64.wrap (c+1)=c+1:=IntWalk.i64_in _ (by omega)
 have w2x:IntKind.i64.wrap (vx-ux)=vx-ux:=IntWalk.i64_in _ (by omega)
 have n1x:((x1:Int) != c+1)=false:=by simp;omega
 have n2x:decide (vx-ux<lo)=false:=decide_eq_false (by omega)
 have n3x:decide (hi<vx-ux)=false:=decide_eq_false (by omega)
 have n4x:¬ vx-ux<lo:=by omega
 have n5x:¬ hi<vx-ux:=by omega
 have i1x:(p1:Int)<(x1:Int):=by omega
 have i2x:(p2:Int)<(x1:Int):=by omega
 clear hlenx hLx hBx lox hix hvx hux evx eux bvx bux
 clear j8 j9 k0 k5 k6 k7 k8 k9 l0 l1 l2 l3 l4 l5 l6 l7 l8 l9
 obtain ⟨m0,m1,m3⟩:=at3 a0
 obtain ⟨m4,m5,m6⟩:=at3 a3
 obtain ⟨m7,m8,m9,n0⟩:=at4 a1
 obtain ⟨n1,n3,n4,n5⟩:=at4 a2
 obtain ⟨n6,n7,n8,n9⟩:=at4 a4
 have lbax:=Blk.lt a0.out;have lbpx:=Blk.lt a1.out;have lbyx:=Blk.lt a2.out
 go_wp2_with fail
 go_quiet (fail)
 obtain ⟨nqx,rfl⟩:∃ n,n=nq:=⟨_,rfl⟩
 clear m0 m1 m3 m4 m5 m6 m7 m8 m9 n0 n1 n3 n4 n5 n6 n7 n8 n9
 have hb:Below (c7).heap.size (c7) ((c7).drewN nqx):=⟨rfl,rfl,rfl,Nat.le_refl _,fun _ _=>rfl⟩
 have c4:=hid hb
 clear hb
 clear cvx cux lvx w1x w2x n1x n2x n3x n4x n5x i1x i2x lbax lbpx lbyx
 replace a0:=kH a0 c4
 obtain ⟨o0,o1,o2⟩:=at3 a0
 replace a3:=kH a3 c4
 obtain ⟨o3,o4,o5⟩:=at3 a3
 replace a1:=kH a1 c4
 obtain ⟨o6,o7,o8,o9⟩:=at4 a1
 replace a2:=kH a2 c4
 obtain ⟨p0,p5,p6,p7⟩:=at4 a2
 replace a4:=kH a4 c4
 obtain ⟨p8,p9,q0,q1⟩:=at4 a4
 have hc:=joined_any (((c7).drewN nqx))
 have HC:=hid hc;clear hc
 go_wp2_with fail
 refine HC.out.mono ?_
 rintro e y1 ⟨rfl,hb⟩
 clear HC
 clear o0 o1 o2 o3 o4 o5 o6 o7 o8 o9 p0 p5 p6 p7 p8 p9 q0 q1
 have c5:=hid hb
 clear hb
 replace a0:=kH a0 c5
 obtain ⟨y2,y3,y4⟩:=at3 a0
 replace a3:=kH a3 c5
 obtain ⟨y5,y6,y7⟩:=at3 a3
 replace a1:=kH a1 c5
 obtain ⟨y8,y9,z0,z1⟩:=at4 a1
 replace a2:=kH a2 c5
 obtain ⟨z2,z3,z4,z5⟩:=at4 a2
 replace a4:=kH a4 c5
 obtain ⟨z6,z7,z8,z9⟩:=at4 a4
 go_wp2
 go_ret
 replace a6:=bH (bH (bH (bH a6 a5) c0) c4) c5
 exact ⟨rfl,a6.out⟩
theorem placed_all {a b:Otl} {p:Prg} {xa xb ya yb:List Int} (h:asked a b p=0) (hp:plB a b p xa xb ya yb=true):(xa.length:Int)=a.c+1∧(∀ i,-100000000≤at_ xa i∧at_ xa i≤100000000)∧lowV a b p≤at_ xa p.at2.toNat-at_ xa p.af.toNat∧at_ xa p.at2.toNat-at_ xa p.af.toNat≤highV a b p:=by
 obtain ⟨-,-,h1,h2⟩:=placed_fit h hp
 exact ⟨h1,h2,placed_between h hp⟩
set_option maxRecDepth 100000 in
theorem xh_walk (w:World) (c:Int) (A:Option Addr) (n k:Nat) (B:Option Addr) (m j:Nat) (ws ts:List Bnd) (_:(Lit.int .i64 c).wf=true) (h1:RdB w A n k ws) (h2:RdB w B m j ts) (hn:n≤maxLen) (hm:m≤maxLen) (d:Int) (C:Option Addr) (n2 k2:Nat) (D:Option Addr) (m2 j2:Nat) (ws2 ts2:List Bnd) (_:(Lit.int .i64 d).wf=true) (h3:RdB w C n2 k2 ws2) (h4:RdB w D m2 j2 ts2) (hn2:n2≤maxLen) (hm2:m2≤maxLen) (p1 p2 p3 p4:Int) (X1:Option Addr) (x1 k1:Nat) (xa:List Int) (X2:Option Addr) (x2 k2x:Nat) (xb:List Int) (X3:Option Addr) (x3 k3:Nat) (ya:List Int) (X4:Option Addr) (x4 k4:Nat) (yb:List Int) (hx0:RdI w X1 x1 k1 xa) (hl0:x1≤maxLen) (hx1:RdI w X2 x2 k2x xb) (hl1:x2≤maxLen) (hx2:RdI w X3 x3 k3 ya) (hl2:x3≤maxLen) (hx3:RdI w X4 x4 k4 yb) (hl3:x4≤maxLen):Calls Tryz.prog 5 #[.agg #[.int .i64 c,.slice A n k,.slice B m j],.agg #[.int .i64 d,.slice C n2 k2,.slice D m2 j2],.agg #[.int .i64 p1,.int .i64 p2,.int .i64 p3,.int .i64 p4],.agg #[.slice X1 x1 k1,.slice X2 x2 k2x,.slice X3 x3 k3,.slice X4 x4 k4]] w fun e w'=>e=.returned (.bool true)∧Below w.heap.size w w':=by
 cases hs:(decide (n≤40)&&decide (m≤40)&&decide (n2≤40)&&decide (m2≤40))
 · exact xh_w c A B n k m j ws ts d C D n2 k2 m2 j2 ws2 ts2 p1 p2 p3 p4 w h1 h2 hn hm h3 h4 hn2 hm2 X1 x1 k1 xa X2 x2 k2x xb X3 x3 k3 ya X4 x4 k4 yb hx0 hl0 hx1 hl1 hx2 hl2 hx3 hl3 hs
 by_cases hs4:(100:Int)<IntKind.i64.wrap (IntKind.i64.wrap (IntKind.i64.wrap ((x1:Int)+(x2:Int))+(x3:Int))+(x4:Int))
 · exact xh_s c A B n k m j ws ts d C D n2 k2 m2 j2 ws2 ts2 p1 p2 p3 p4 w h1 h2 hn hm h3 h4 hn2 hm2 X1 x1 k1 xa X2 x2 k2x xb X3 x3 k3 ya X4 x4 k4 yb hx0 hl0 hx1 hl1 hx2 hl2 hx3 hl3 hs _ _ _ rfl rfl rfl hs4
 by_cases hq:asked ⟨c,ws,ts⟩ ⟨d,ws2,ts2⟩ ⟨p1,p2,p3,p4⟩=0
 · cases hmb:meetsB ⟨c,ws,ts⟩ ⟨d,ws2,ts2⟩ ⟨p1,p2,p3,p4⟩
   · exact xh_err c A B n k m j ws ts d C D n2 k2 m2 j2 ws2 ts2 p1 p2 p3 p4 w h1 h2 hn hm h3 h4 hn2 hm2 X1 x1 k1 xa X2 x2 k2x xb X3 x3 k3 ya X4 x4 k4 yb hx0 hl0 hx1 hl1 hx2 hl2 hx3 hl3 hs _ _ _ rfl rfl rfl hs4 30 rfl (hid (by unfold sharedV;rw [if_pos hq,hmb];rfl)) 0 (hid (by unfold placeV;rw [if_pos hq,hmb];rfl)) (hid (noplace hq hmb _ _ _ _))
   · obtain ⟨oa,ob,sa,sb,hk⟩:=chkP_ok (asked_ok hq).1
     obtain ⟨a1,a2,-,-⟩:=chkO_ok oa
     dsimp only at sa a1 a2
     obtain ⟨q1,rfl⟩:=Int.eq_ofNat_of_zero_le sa.1
     obtain ⟨q2,rfl⟩:=Int.eq_ofNat_of_zero_le (show 0≤p2 by omega)
     have hS:sharedV ⟨c,ws,ts⟩ ⟨d,ws2,ts2⟩ ⟨q1,q2,p3,p4⟩=(lowV ⟨c,ws,ts⟩ ⟨d,ws2,ts2⟩ ⟨q1,q2,p3,p4⟩,highV ⟨c,ws,ts⟩ ⟨d,ws2,ts2⟩ ⟨q1,q2,p3,p4⟩,0):=by unfold sharedV;rw [if_pos hq,if_pos hmb]
     obtain ⟨mb,L1,L2,L3,L4,Z,tn,e1,hL,e3,e4,-⟩:=either_cases hq
     have hmb2:mb=true:=by
      unfold meetsV at e1
      rw [if_pos hq,hmb] at e1
      exact (congrArg Prod.fst e1).symm
     subst hmb2
     have hB:=placed_all hq (show plB ⟨c,ws,ts⟩ ⟨d,ws2,ts2⟩ ⟨q1,q2,p3,p4⟩ L1 L2 L3 L4=true by
      unfold checkPlaceV at e4
      rw [if_pos hq] at e4
      exact congrArg Prod.fst e4)
     have hp:(checkPlaceV ⟨c,ws,ts⟩ ⟨d,ws2,ts2⟩ ⟨q1,q2,p3,p4⟩ xa xb ya yb).2=0:=by unfold checkPlaceV;rw [if_pos hq]
     have hv1:(checkPlaceV ⟨c,ws,ts⟩ ⟨d,ws2,ts2⟩ ⟨q1,q2,p3,p4⟩ xa xb ya yb).1=plB ⟨c,ws,ts⟩ ⟨d,ws2,ts2⟩ ⟨q1,q2,p3,p4⟩ xa xb ya yb:=by unfold checkPlaceV;rw [if_pos hq]
     cases hv:plB ⟨c,ws,ts⟩ ⟨d,ws2,ts2⟩ ⟨q1,q2,p3,p4⟩ xa xb ya yb
     · exact xh_yf c A B n k m j ws ts d C D n2 k2 m2 j2 ws2 ts2 q1 q2 p3 p4 w h1 h2 hn hm h3 h4 hn2 hm2 X1 x1 k1 xa X2 x2 k2x xb X3 x3 k3 ya X4 x4 k4 yb hx0 hl0 hx1 hl1 hx2 hl2 hx3 hl3 hs _ _ _ rfl rfl rfl hs4 a1 a2 (by omega) (by omega) _ _ (hid hS) _ _ _ _ (hid hL) (hid hB) (hid (Prod.ext (hv1.trans hv) hp))
     · exact xh_yt c A B n k m j ws ts d C D n2 k2 m2 j2 ws2 ts2 q1 q2 p3 p4 w h1 h2 hn hm h3 h4 hn2 hm2 X1 x1 k1 xa X2 x2 k2x xb X3 x3 k3 ya X4 x4 k4 yb hx0 hl0 hx1 hl1 hx2 hl2 hx3 hl3 hs _ _ _ rfl rfl rfl hs4 a1 a2 (by omega) (by omega) _ _ (hid hS) _ _ _ _ (hid hL) (hid hB) (hid (Prod.ext (hv1.trans hv) hp)) (hid (placed_all hq hv))
 · exact xh_err c A B n k m j ws ts d C D n2 k2 m2 j2 ws2 ts2 p1 p2 p3 p4 w h1 h2 hn hm h3 h4 hn2 hm2 X1 x1 k1 xa X2 x2 k2x xb X3 x3 k3 ya X4 x4 k4 yb hx0 hl0 hx1 hl1 hx2 hl2 hx3 hl3 hs _ _ _ rfl rfl rfl hs4 _ (by simpa using hq) (hid (by unfold sharedV;rw [if_neg hq])) _ (hid (by unfold placeV;rw [if_neg hq])) (hid (by unfold checkPlaceV;rw [if_neg hq]))
set_option maxRecDepth 100000 in
theorem edgeShared_lifted (os:Os) (started:os.Started) (H:Type) (enc:TypeId × Value→H) :
 ReturnsInHanded {} Tryz.checked os 5 .any (Rows.edgeSharedSpec.pre6 enc Tryz.prog Tryz.f5 Rows.edgeSharedRow.domain false) (Rows.edgeSharedSpec.post enc Tryz.prog Tryz.f5 false true false false):=by
 refine returnsInHanded_of_change (C:=Tryz.checked) Law.own started (by kernel_rfl) Tryz.func5
  (ChangeSpec.witness6 (enc:=enc) (C:=Tryz.checked) false ⟨#[],#[.agg #[.int .i64 0,.slice none 0 0,.slice none 0 0],.agg #[.int .i64 0,.slice none 0 0,.slice none 0 0],.agg #[.int .i64 0,.int .i64 0,.int .i64 0,.int .i64 0],.agg #[.slice none 0 0,.slice none 0 0,.slice none 0 0,.slice none 0 0]],[]⟩ 8 (by kernel_rfl) (by kernel_rfl) (by kernel_rfl) (by kernel_rfl)) ?_
 intro W base args ds gs before hval0 hW hcnd _
 have hval:∀ (j:Nat) t v,Tryz.f5.params[j]?=some t→args[j]?=some v→Value.okWide Tryz.prog W .any base t v:=hval0
 have hW':=hW
 obtain ⟨p,q,hA0,hV,rfl,hfz,hnd⟩:=hW
 have hA:DataW.TrodAll enc Tryz.prog W 0 (fun _=>true) true Tryz.f5.params.toList args.toList ds p:=hA0
 rw [Tryz.params5] at hA hval
 obtain ⟨v0,vs0,d0,ds0,p0,q0,hargs,rfl,rfl,h0,r0⟩:=trodAll_cons hA
 obtain ⟨v1,vs1,d1,ds1,p1,q1,rfl,rfl,rfl,h1,r1⟩:=trodAll_cons r0
 obtain ⟨v2,vs2,d2,ds2,p2,q2,rfl,rfl,rfl,h2,r2⟩:=trodAll_cons r1
 obtain ⟨v3,vs3,d3,ds3,p3,q3,rfl,rfl,rfl,h3,r3⟩:=trodAll_cons r2
 obtain ⟨rfl,rfl,rfl⟩:=trodAll_nil r3
 obtain rfl:args=#[v0,v1,v2,v3]:=by cases args;simp_all
 obtain ⟨rfl,rfl⟩:=trodVars_none hV
 have k0:=h0
 have lt0:∀ x∈p0,x.block<W.heap.size:=by obtain ⟨m,hm⟩:=k0;exact DataW.trod_lt m _ _ _ hm
 obtain ⟨c0,A0,n0,k0',B0,m0,j0,ws0,ts0,rfl,w0,ra0,rb0,xa0,xb0⟩:=open_outl (hval 0 24 v0 rfl rfl) h0
 have k1:=h1
 have lt1:∀ x∈p1,x.block<W.heap.size:=by obtain ⟨m,hm⟩:=k1;exact DataW.trod_lt m _ _ _ hm
 obtain ⟨c1,A1,n1,k1',B1,m1,j1,ws1,ts1,rfl,w1,ra1,rb1,xa1,xb1⟩:=open_outl (hval 1 24 v1 rfl rfl) h1
 have k2:=h2
 have lt2:∀ x∈p2,x.block<W.heap.size:=by obtain ⟨m,hm⟩:=k2;exact DataW.trod_lt m _ _ _ hm
 obtain ⟨f2,t2,m2,i2,rfl⟩:=open_pair (hval 2 28 v2 rfl rfl) h2
 have k3:=h3
 have lt3:∀ x∈p3,x.block<W.heap.size:=by obtain ⟨m,hm⟩:=k3;exact DataW.trod_lt m _ _ _ hm
 obtain ⟨A3a,n3a,c3a,l3a,A3b,n3b,c3b,l3b,A3c,n3c,c3c,l3c,A3d,n3d,c3d,l3d,rfl,rd3a,mx3a,rd3b,mx3b,rd3c,mx3c,rd3d,mx3d⟩:=open_place (hval 3 36 v3 rfl rfl) h3
 clear hA0 hval0
 refine (xh_walk W c0 A0 n0 k0' B0 m0 j0 ws0 ts0 w0 ra0 rb0 xa0 xb0 c1 A1 n1 k1' B1 m1 j1 ws1 ts1 w1 ra1 rb1 xa1 xb1 f2 t2 m2 i2 A3a n3a c3a l3a A3b n3b c3b l3b A3c n3c c3c l3c A3d n3d c3d l3d rd3a mx3a rd3b mx3b rd3c mx3c rd3d mx3d).mono fun e W' ⟨he,bel⟩=>?_
 subst he
 exact ⟨_,rfl,_,_,_,[],_,[],hW',trodAll_mk1 (shut_bool Tryz.underlying4 _),(trodAll_cons_mk (Below.trod Law.laidOut (by kernel_rfl) (of_decide_eq_true (by kernel_rfl)) k0 bel lt0) (trodAll_cons_mk (Below.trod Law.laidOut (by kernel_rfl) (of_decide_eq_true (by kernel_rfl)) k1 bel lt1) (trodAll_cons_mk (Below.trod Law.laidOut (by kernel_rfl) (of_decide_eq_true (by kernel_rfl)) k2 bel lt2) (trodAll_cons_mk (Below.trod Law.laidOut (by kernel_rfl) (of_decide_eq_true (by kernel_rfl)) k3 bel lt3) trodAll_mk0)))),rfl,bel.frame _,fun h=>by cases h⟩
theorem edgeShared_over:Rows.edgeSharedRow.holds Tryz.pinned (OpenSpec.ofChange Rows.edgeSharedSpec) :=
 OpenClaim.holds_of_wide 5 Tryz.f5 rfl rfl rfl rfl rfl rfl rfl ⟨rfl,rfl,rfl,rfl,rfl⟩ rfl rfl rfl rfl rfl (by kernel_rfl) Tryz.func5 (by kernel_rfl)
  (of_decide_eq_true (by kernel_rfl)) (by unfold Func.isWrapper;first | (rw [if_pos (by decide +kernel)];kernel_rfl) | (rw [if_neg (by decide +kernel)];exact ⟨rfl,rfl⟩))
  (fun os started H enc _=>edgeShared_lifted os started H enc)
theorem edgeShared_proved:Rows.EdgeSharedSaid:=edgeShared_over
end Go.Proofs.YtjjmifcjailpaaaGreat
