import Derived.Maps.OwnIn
import Derived.Test.YtokpblmgdmokoaaGreatAVMem
import Derived.Test.YtokpblmgdmokoaaGreatAVPart2
import Derived.Test.YtokpblmgdmokoaaGreatAVName2
set_option linter.unusedSimpArgs false
set_option linter.unusedVariables false
namespace Go.Proofs.YtokpblmgdmokoaaGreat
open Go.Lib (hid)
open Go.RowKit Go.Maps
abbrev fals:DataW Unit:=.lit (.bool false)
def SetT (D:DataW Unit) (S:List Int):Prop:=IsMap D∧(∀ x,has D (.int .i64 x)=decide (x∈S))∧∀ x,D.atKey (.int .i64 x) fals=.lit (.bool (decide (x∈S)))
def OwnT (w:World) (b:Nat) (S:List Int):Prop:=∃ n D,w.ownsMap Tryz.prog 3 (plainElem (H:=Unit) Tryz.prog 4) b n D∧n≤S.length∧SetT D S
theorem OwnT.lt {w:World} {b:Nat} {S:List Int} (h:OwnT w b S):b<w.heap.size:=by obtain ⟨_,_,h,_⟩:=h;exact h.lt
theorem OwnT.keep {w w':World} {b:Nat} {S:List Int} (h:OwnT w b S) (hb:Below w.heap.size w w'):OwnT w' b S:=by
 obtain ⟨n,D,⟨es,clock,hh,F,hs,hD⟩,h2⟩:=h
 exact ⟨n,D,⟨es,clock,(hb.block b (Array.getElem?_eq_some_iff.1 hh).1).trans hh,F,hs,hD⟩,h2⟩
theorem OwnT.alloc {w:World} {b:Nat} {S:List Int} (h:OwnT w b S) (o:Obj):OwnT (w.alloc o) b S:=h.keep ((Below.refl _ w).alloc (Nat.le_refl _) o)
theorem OwnT.drew {w:World} {b:Nat} {S:List Int} (h:OwnT w b S):OwnT w.drew b S:=h.keep ((Below.refl _ w).drew)
theorem litI_ne {x y:Int} (h:x≠y):(Lit.int .i64 x:Lit)≠.int .i64 y:=fun e=>by injection e with _ e;exact h e
theorem setT_nil:SetT (.map []) []:=⟨isMap_empty,fun x=>rfl,fun x=>rfl⟩
theorem SetT.put {D:DataW Unit} {S:List Int} (h:SetT D S) (x:Int):SetT (D.put (.int .i64 x) (.lit (.bool true))) (S++[x]):=by
 obtain ⟨h1,h2,h3⟩:=h
 refine ⟨h1.put _ _,fun y=>?_,fun y=>?_⟩
 · by_cases e:y=x
   · subst e;rw [has_put_same h1 (show WideAt.IsKeyLit (.int .i64 y) from trivial)];simp
   · rw [has_put_other (litI_ne e),h2];simp [e]
 · by_cases e:y=x
   · subst e;rw [atKey_put_same h1 (show WideAt.IsKeyLit (.int .i64 y) from trivial)];simp
   · rw [atKey_put_other (litI_ne e),h3];simp [e]
def WfI (x:Int):Prop:=(Lit.int .i64 x).wf=true
theorem wfI_of {x:Int} (h:-1000000000000≤x∧x≤1000000000000):WfI x:=by
 unfold WfI
 have h1:IntKind.i64.min=-9223372036854775808:=by decide
 have h2:IntKind.i64.max=9223372036854775807:=by decide
 simp [Lit.wf,h1,h2]
 omega
theorem plainB_inv {P:Program} {e:TypeId} (he:P.underlying e=some .bool) {v:Value} {c:Bool} {ps:List MemPlace} (h:plainElem (H:=Unit) P e v=some (.lit (.bool c),ps)):v=.bool c:=by
 unfold plainElem at h
 rw [he] at h
 cases v<;>simp at h
 rw [h.1]
theorem OwnT.look {w:World} {b:Nat} {S:List Int} (h:OwnT w b S) {x:Int} (hx:WfI x):(Instr.lookup 93 (.map (some b)) (.int .i64 x) false).run Tryz.prog w=.ok (.bool (decide (x∈S))) w:=by
 obtain ⟨n,D,hown,_,_,_,h3⟩:=h
 obtain ⟨v,ps,hrun,hv⟩:=hown.lookup (Maps.int_keyed Tryz.underlying3) Tryz.underlying93 (z:=.bool false) (by kernel_rfl) (zd:=fals) (zp:=[]) (plainElem_bool Tryz.underlying4 false) (Maps.keyOf_int_mk Tryz.underlying3 hx)
 rw [h3] at hv
 rw [plainB_inv Tryz.underlying4 hv] at hrun
 exact hrun
theorem ownT_made (w:World):OwnT (w.alloc (.map #[] 0)) w.heap.size [] :=
 ⟨0,_,World.ownsMap_made w Tryz.prog 3 (plainElem (H:=Unit) Tryz.prog 4),Nat.le_refl _,setT_nil⟩
theorem wpList_put_T (w:World) {ops:Array Oper} {rest:List Oper} {o:Oper} {a:Act} {Q:Exit→Act→World→Prop} (hg:o.guard=none) (m x v:Operand) (hop:o.op=Op.mapUpdate 93 m x v)
 (b:Nat) (S:List Int) (hm:a.eval m=.map (some b)) (hown:OwnT w b S) (hl:S.length<100000) (z:Int) (hx:a.eval x=.int .i64 z) (hz:WfI z) (hv:a.eval v=.bool true)
 (hK:∀ w',OwnT w' b (S++[z])→(∀ B,B≤b→Below B w w')→wpList Tryz.prog ops Q rest (a.put o.dst undef) w'):wpList Tryz.prog ops Q (o::rest) a w:=by
 obtain ⟨n,D,hown,hn,hset⟩:=hown
 refine wpList_mapUpdate_own w hg m x v 93 hop 3 4 (Maps.int_keyed Tryz.underlying3) Tryz.underlying93 _ b n _ hm hown (by unfold maxLen;omega) _ _ _ hx hv (Maps.keyOf_int_mk Tryz.underlying3 hz) _ [] (plainElem_bool Tryz.underlying4 true) ?_
 intro w1 hown1 hgrow1
 exact hK w1 ⟨_,_,hown1,by simp;omega,hset.put z⟩ (fun B hB=>(Below.refl B w).grown hgrow1 (Nat.le_trans hB (Nat.le_of_lt hown.lt)) (fun q e=>by cases e;exact hB))
theorem ascN_mem {l:List Int} {lo hi:Int} (h:ascN l lo hi=true):∀ x∈l,lo≤x∧x≤hi:=by
 induction l generalizing lo with
 | nil=>simp
 | cons n l ih =>
  simp only [ascN,inR,Bool.and_eq_true,decide_eq_true_eq] at h
  intro x hx
  rcases List.mem_cons.1 hx with rfl|hx
  · exact h.1
  · have:=ih h.2 x hx
    omega
theorem ids_snoc (l:List Prt) (p:Prt):idsP (l++[p])=idsP l++p.sh:=by simp [idsP]
theorem nodup_snoc {l:List Int} {v:Int} (h:l.Nodup) (hv:v ∉ l):(l++[v]).Nodup:=by
 rw [List.nodup_append]
 refine ⟨h,by simp,?_⟩
 intro a ha b hb
 obtain rfl:=List.mem_singleton.1 hb
 exact fun e=>hv (e ▸ ha)
theorem goodP_bad {ps:List Prt} {q:Nat} {p:Prt} (h:ps[q]?=some p) (hp:prtB p=false):goodP ps=false:=by
 unfold goodP
 have:ps.all prtB=false:=by rw [List.all_eq_false];exact ⟨p,List.mem_of_getElem? h,by simp [hp]⟩
 rw [this,Bool.false_and]
theorem goodP_ok {ps:List Prt} (h:∀ p∈ps,prtB p=true) (hn:(idsP ps).Nodup):goodP ps=true:=by
 unfold goodP
 rw [List.all_eq_true.2 h,decide_eq_true hn];rfl
theorem ids_split {ps:List Prt} {q:Nat} {p:Prt} (h:ps[q]?=some p):idsP ps=idsP (ps.take q)++(p.sh++idsP (ps.drop (q+1))):=by
 obtain ⟨hq,rfl⟩:=List.getElem?_eq_some_iff.1 h
 rw [show idsP ps=idsP (ps.take q++ps.drop q) by rw [List.take_append_drop],List.drop_eq_getElem_cons hq]
 simp only [idsP,List.flatMap_append,List.flatMap_cons]
theorem goodP_dup {ps:List Prt} {q m:Nat} {p:Prt} {v:Int} (h:ps[q]?=some p) (hv:p.sh[m]?=some v) (hin:v∈idsP (ps.take q)++p.sh.take m):goodP ps=false:=by
 have hnd:¬ (idsP ps).Nodup:=by
  intro hn
  obtain ⟨hm,rfl⟩:=List.getElem?_eq_some_iff.1 hv
  rw [ids_split h,← List.take_append_drop m p.sh,List.drop_eq_getElem_cons hm,List.append_assoc,← List.append_assoc,List.cons_append,List.nodup_append] at hn
  exact hn.2.2 _ hin _ List.mem_cons_self rfl
 unfold goodP
 rw [decide_eq_false hnd,Bool.and_false]
theorem ids_le (l:List Prt) (h:∀ p∈l,prtB p=true):(idsP l).length≤40 * l.length:=by
 induction l with
 | nil=>simp [idsP]
 | cons p l ih =>
  have h1:=ih (fun q hq=>h q (List.mem_cons_of_mem _ hq))
  have h2:=(prtB_ok (h p List.mem_cons_self)).2.1
  simp only [idsP,List.flatMap_cons,List.length_append,List.length_cons] at h1 ⊢
  omega
theorem ids_len {ps:List Prt} {q m:Nat} {p:Prt} (hp:prtB p=true) (h:∀ p∈ps.take q,prtB p=true) (hq:q≤40):(idsP (ps.take q)++p.sh.take m).length<100000:=by
 have h1:=ids_le _ h
 have h2:=(prtB_ok hp).2.1
 rw [List.length_take] at h1
 rw [List.length_append,List.length_take]
 omega
set_option maxRecDepth 100000 in
set_option maxHeartbeats 4000000 in
theorem vchk_any (ware:ByteArray) (lim by_:Int) (A:Option Addr) (n k:Nat) (ps:List Prt) (w:World) (hr:RdP w A n k ps) (hn:n≤maxLen):Calls Tryz.prog 26 #[.agg #[.string ware,.int .i64 lim,.int .i64 by_,.slice A n k]] w fun e w'=>e=.returned (.int .i64 (chkC ⟨ware,lim,by_,ps⟩))∧Below w.heap.size w w':=by
 have hl:=hr.len
 have HR:=hid hr;clear hr
 obtain ⟨r,hr⟩:∃ r,chkC ⟨ware,lim,by_,ps⟩=r:=⟨_,rfl⟩
 unfold chkC at hr
 dsimp only at hr
 by_cases h40:40<n
 · rw [if_pos (by omega)] at hr
   subst hr
   have h40':(40:Int)<n:=by omega
   have HQ:=hid (show chkC ⟨ware,lim,by_,ps⟩=2 by unfold chkC;dsimp only;rw [if_pos (by omega)])
   go_enter Tryz.func26,Tryz.ntmps26
   obtain ⟨a1,a0⟩:=ent1 w #[.string ware,.int .i64 lim,.int .i64 by_,.slice A n k] 24
   obtain ⟨a6,a7,a8,a9⟩:=at4 a1
   go_wp2
   go_ret
   exact ⟨ret_int (by rw [HQ.out]),a0.out⟩
 · rw [if_neg (by omega)] at hr
   have h40':¬ (40:Int)<n:=by omega
   cases hb0:nameB ware
   · have HB0:=hid hb0
     have HQ:=hid (show chkC ⟨ware,lim,by_,ps⟩=1 by unfold chkC;dsimp only;rw [if_neg (by omega),hb0];rfl)
     clear hb0 hr
     go_enter Tryz.func26,Tryz.ntmps26
     obtain ⟨a1,a0⟩:=ent1 w #[.string ware,.int .i64 lim,.int .i64 by_,.slice A n k] 24
     obtain ⟨a6,a7,a8,a9⟩:=at4 a1
     have hc:=visName_is ware _ HB0.out ((w.alloc (.cells #[.string ware,.int .i64 lim,.int .i64 by_,.slice A n k] 24)))
     have HC:=hid hc;clear hc
     go_wp2_with fail
     refine HC.out.mono ?_
     rintro e a5 ⟨rfl,hb⟩
     clear HC
     clear a6 a7 a8 a9
     have a4:=hid hb
     clear hb
     replace a1:=kH a1 a4
     obtain ⟨b6,b0,b1,b3⟩:=at4 a1
     go_wp2
     go_ret
     replace a0:=bH a0 a4
     exact ⟨ret_int (by rw [HQ.out]),a0.out⟩
   · cases hb1:inR lim 0 40
     · have HB0:=hid hb0;have HB1:=hid hb1
       have HQ:=hid (show chkC ⟨ware,lim,by_,ps⟩=1 by unfold chkC;dsimp only;rw [if_neg (by omega),hb0,hb1];rfl)
       clear hb0 hb1 hr
       go_enter Tryz.func26,Tryz.ntmps26
       obtain ⟨a1,a0⟩:=ent1 w #[.string ware,.int .i64 lim,.int .i64 by_,.slice A n k] 24
       obtain ⟨a6,a7,a8,a9⟩:=at4 a1
       have hc:=visName_is ware _ HB0.out ((w.alloc (.cells #[.string ware,.int .i64 lim,.int .i64 by_,.slice A n k] 24)))
       have HC:=hid hc;clear hc
       go_wp2_with fail
       refine HC.out.mono ?_
       rintro e a5 ⟨rfl,hb⟩
       clear HC
       clear a6 a7 a8 a9
       have a4:=hid hb
       clear hb
       replace a1:=kH a1 a4
       obtain ⟨b6,b0,b1,b3⟩:=at4 a1
       have HC:=hid (vwithin_is lim 0 40 _ HB1.out (a5))
       go_wp2_with fail
       refine HC.out.mono ?_
       rintro e _ ⟨rfl,rfl⟩
       clear HC
       go_wp2
       go_ret
       replace a0:=bH a0 a4
       exact ⟨ret_int (by rw [HQ.out]),a0.out⟩
     · cases hb2:byB by_ (lim != 0)
       · have HB0:=hid hb0;have HB1:=hid hb1;have HB2:=hid hb2
         have HQ:=hid (show chkC ⟨ware,lim,by_,ps⟩=1 by unfold chkC;dsimp only;rw [if_neg (by omega),hb0,hb1,hb2];rfl)
         clear hb0 hb1 hb2 hr
         go_enter Tryz.func26,Tryz.ntmps26
         obtain ⟨a1,a0⟩:=ent1 w #[.string ware,.int .i64 lim,.int .i64 by_,.slice A n k] 24
         obtain ⟨a6,a7,a8,a9⟩:=at4 a1
         have hc:=visName_is ware _ HB0.out ((w.alloc (.cells #[.string ware,.int .i64 lim,.int .i64 by_,.slice A n k] 24)))
         have HC:=hid hc;clear hc
         go_wp2_with fail
         refine HC.out.mono ?_
         rintro e a5 ⟨rfl,hb⟩
         clear HC
         clear a6 a7 a8 a9
         have a4:=hid hb
         clear hb
         replace a1:=kH a1 a4
         obtain ⟨b6,b0,b1,b3⟩:=at4 a1
         have HC:=hid (vwithin_is lim 0 40 _ HB1.out (a5))
         go_wp2_with fail
         refine HC.out.mono ?_
         rintro e _ ⟨rfl,rfl⟩
         clear HC
         have HC:=hid (visBy_is by_ (lim != 0) _ HB2.out (a5))
         go_wp2_with fail
         refine HC.out.mono ?_
         rintro e _ ⟨rfl,rfl⟩
         clear HC
         go_wp2
         go_ret
         replace a0:=bH a0 a4
         exact ⟨ret_int (by rw [HQ.out]),a0.out⟩
       · have HB0:=hid hb0;have HB1:=hid hb1;have HB2:=hid hb2
         have HQ:=hid (show chkC ⟨ware,lim,by_,ps⟩=if goodP ps then 0 else 1 by unfold chkC;dsimp only;rw [if_neg (by omega),hb0,hb1,hb2];rfl)
         clear hb0 hb1 hb2 hr hl
         go_enter Tryz.func26,Tryz.ntmps26
         obtain ⟨a1,a0⟩:=ent1 w #[.string ware,.int .i64 lim,.int .i64 by_,.slice A n k] 24
         obtain ⟨a6,a7,a8,a9⟩:=at4 a1
         have hc:=visName_is ware _ HB0.out ((w.alloc (.cells #[.string ware,.int .i64 lim,.int .i64 by_,.slice A n k] 24)))
         have HC:=hid hc;clear hc
         go_wp2_with fail
         refine HC.out.mono ?_
         rintro e a5 ⟨rfl,hb⟩
         clear HC
         clear a6 a7 a8 a9
         have a4:=hid hb
         clear hb
         replace a1:=kH a1 a4
         obtain ⟨b6,b0,b1,b3⟩:=at4 a1
         have HC:=hid (vwithin_is lim 0 40 _ HB1.out (a5))
         go_wp2_with fail
         refine HC.out.mono ?_
         rintro e _ ⟨rfl,rfl⟩
         clear HC
         have HC:=hid (visBy_is by_ (lim != 0) _ HB2.out (a5))
         go_wp2_with fail
         refine HC.out.mono ?_
         rintro e _ ⟨rfl,rfl⟩
         clear HC
         have hmk:∀ w,(Instr.makeMap 93 none).run Tryz.prog w=.ok (.map (some w.heap.size)) (w.alloc (.map #[] 0)):=fun _=>rfl
         have HM0:=hid (ownT_made (a5))
         replace a0:=bH a0 a4
         have HBS:=hid ((a0.out).size)
         obtain ⟨o_,ho_⟩:∃ o,o=((.map #[] 0):Obj):=⟨_,rfl⟩
         replace a0:=bA a0 o_
         replace a1:=kA a1 o_
         subst ho_
         obtain ⟨e3,e4,e5,e6⟩:=at4 a1
         have HBE:=a0
         go_wp2
         clear b6 b0 b1 b3 e3 e4 e5 e6
         clear a0 a1
         obtain ⟨w2,hw2⟩:∃ v,v=(a5.alloc (.map #[] 0)):=⟨_,rfl⟩
         obtain ⟨b2,hb2⟩:∃ v,v=(a5).heap.size:=⟨_,rfl⟩
         rw [← hw2] at HBE HM0 ⊢
         rw [← hb2] at HM0 HBS ⊢
         clear hw2 hb2
         go_loopw [35] (fun i wr=>∃ q:Nat,q≤n∧i=.int .i64 q∧(∀ p∈ps.take q,prtB p=true)∧(idsP (ps.take q)).Nodup∧OwnT wr b2 (idsP (ps.take q))∧Below w.heap.size w wr) (fun i _=>n-(intOf i).toNat)
         case atStart=>exact ⟨0,Nat.zero_le _,rfl,by simp,List.nodup_nil,HM0.out,HBE.out⟩
         case round =>
          clear HM0 HBE
          obtain ⟨q,hq,rfl,hall,hnd,hown,hbe⟩:=hrel
          have HALL:=hid hall;have HND:=hid hnd;have HOWN:=hid hown;clear hall hnd hown
          obtain ⟨wa,rfl⟩:∃ v,v=wr:=⟨wr,rfl⟩
          by_cases hlt:q<n
          · have hlt':(q:Int)<n:=by omega
            obtain ⟨b,o,p,x,rfl,hbw,hx,hok,g0,g1,g2,g3,g4,g5,g6,g7⟩:=RdP.get HR.out hlt
            have c0:=(hbe.cell (p:=⟨b,_,none⟩) hbw).trans g0
            have c1:=(hbe.cell (p:=⟨b,_,none⟩) hbw).trans g1
            have c2:=(hbe.cell (p:=⟨b,_,none⟩) hbw).trans g2
            have c3:=(hbe.cell (p:=⟨b,_,none⟩) hbw).trans g3
            have c4:=(hbe.cell (p:=⟨b,_,none⟩) hbw).trans g4
            have c5:=(hbe.cell (p:=⟨b,_,none⟩) hbw).trans g5
            have c6:=(hbe.cell (p:=⟨b,_,none⟩) hbw).trans g6
            have c7:=(hbe.cell (p:=⟨b,_,none⟩) hbw).trans g7
            clear g0 g1 g2 g3 g4 g5 g6 g7
            have hbw2:b<wa.heap.size:=Nat.lt_of_lt_of_le hbw hbe.size
            obtain ⟨o1,o2,o3,o4⟩:=hok
            have SA:=hid o1;have SB:=hid o2;clear o1 o2
            have o3n:=o3;have o4n:=o4;unfold maxLen at o3n o4n
            have htk:ps.take (q+1)=ps.take q++[p]:=by rw [List.take_add_one,hx];rfl
            have HX:=hid hx;have HTK:=hid htk;clear hx htk
            have a2:=hid (hbe)
            clear hbe
            have HOW:=hid (HOWN.out.alloc (.cells #[.slice x.A x.n x.c,.int .i64 p.lo,.int .i64 p.hi,.int .i64 p.lb,.int .i64 p.hb,.bool p.ft,.int .i64 p.fb,.slice x.B x.m x.d] 48));clear HOWN
            obtain ⟨o_,ho_⟩:∃ o,o=((.cells #[.slice x.A x.n x.c,.int .i64 p.lo,.int .i64 p.hi,.int .i64 p.lb,.int .i64 p.hb,.bool p.ft,.int .i64 p.fb,.slice x.B x.m x.d] 48):Obj):=⟨_,rfl⟩
            replace a2:=bA a2 o_
            subst ho_
            have a3:=hid (Blk.new wa 48 #[.slice x.A x.n x.c,.int .i64 p.lo,.int .i64 p.hi,.int .i64 p.lb,.int .i64 p.hb,.bool p.ft,.int .i64 p.fb,.slice x.B x.m x.d])
            obtain ⟨b7,b8,c8,c9,d0,d1,d2,d3⟩:=at8 a3
            cases hpb:prtB p
            · have HPB:=hid hpb;clear hpb
              have hc:=visPart_is x.A x.B x.n x.c x.m x.d p.sh p.rs p.lo p.hi p.lb p.hb p.fb p.ft ((wa.alloc (.cells #[.slice x.A x.n x.c,.int .i64 p.lo,.int .i64 p.hi,.int .i64 p.lb,.int .i64 p.hb,.bool p.ft,.int .i64 p.fb,.slice x.B x.m x.d] 48))) (SA.out.below a2.out) (SB.out.below a2.out) o3 o4 _ HPB.out
              have HC:=hid hc;clear hc
              go_wp2_with fail
              refine HC.out.mono ?_
              rintro e e7 ⟨rfl,hb⟩
              clear HC
              clear b7 b8 c8 c9 d0 d1 d2 d3
              have b4:=hid hb
              clear hb
              replace a3:=kH a3 b4
              obtain ⟨e8,e9,f0,f1,f2,f3,f4,f5⟩:=at8 a3
              go_wp2
              go_ret
              replace a2:=bH a2 b4
              exact ⟨ret_int (by rw [HQ.out,goodP_bad HX.out HPB.out];rfl),a2.out⟩
            · have HPB:=hid hpb;clear hpb
              have hc:=visPart_is x.A x.B x.n x.c x.m x.d p.sh p.rs p.lo p.hi p.lb p.hb p.fb p.ft ((wa.alloc (.cells #[.slice x.A x.n x.c,.int .i64 p.lo,.int .i64 p.hi,.int .i64 p.lb,.int .i64 p.hb,.bool p.ft,.int .i64 p.fb,.slice x.B x.m x.d] 48))) (SA.out.below a2.out) (SB.out.below a2.out) o3 o4 _ HPB.out
              have HC:=hid hc;clear hc
              go_wp2_with fail
              refine HC.out.mono ?_
              rintro e f6 ⟨rfl,hb⟩
              have HOW2:=hid (HOW.out.keep hb);clear HOW
              clear HC
              clear b7 b8 c8 c9 d0 d1 d2 d3
              have b5:=hid hb
              clear hb
              replace a3:=kH a3 b5
              obtain ⟨d4,d5,d6,d7,d8,d9,e1,e2⟩:=at8 a3
              obtain ⟨-,-,-,-,-,-,hasc,-⟩:=prtB_ok HPB.out
              have HASC:=hid (ascN_mem hasc);clear hasc
              clear c0 c1 c2 c3 c4 c5 c6 c7
              go_wp2
              clear d4 d5 d6 d7 d8 d9 e1 e2
              replace a2:=bH a2 b5
              go_loopw [45] (fun i wr=>∃ m:Nat,m≤x.n∧i=.int .i64 m∧(idsP (ps.take q)++p.sh.take m).Nodup∧OwnT wr b2 (idsP (ps.take q)++p.sh.take m)∧Below w.heap.size w wr) (fun i _=>x.n-(intOf i).toNat)
              case atStart=>exact ⟨0,Nat.zero_le _,rfl,by simpa using HND.out,by simpa using HOW2.out,a2.out⟩
              case round =>
               clear HOW2 a2 a3
               obtain ⟨m,hm,rfl,hnd,hown,hbe⟩:=hrel
               have HND2:=hid hnd;have HOWN:=hid hown;clear hnd hown
               by_cases hmt:m<x.n
               · have hmt':(m:Int)<x.n:=by omega
                 obtain ⟨b9,o9,v,hxa,hb9,hv,e0⟩:=RdI.get (SA.out.below hbe) hmt
                 rw [hxa]
                 have hvr:=HASC.out v (List.mem_of_getElem? hv)
                 have hwf:WfI v:=wfI_of (by omega)
                 clear hvr
                 have hlk:=HOWN.out.look hwf
                 have hts:p.sh.take (m+1)=p.sh.take m++[v]:=by rw [List.take_add_one,hv];rfl
                 have HTS:=hid hts;clear hts
                 have HV:=hid hv;have HWF:=hid hwf;have HBE:=hid hbe;have HXA:=hid hxa;clear hv hwf hbe hxa
                 by_cases hin:v∈idsP (ps.take q)++p.sh.take m
                 · rw [decide_eq_true hin] at hlk
                   have HIN:=hid hin;clear hin
                   go_wp2
                   go_ret
                   exact ⟨ret_int (by rw [HQ.out,goodP_dup HX.out HV.out HIN.out];rfl),HBE.out⟩
                 · rw [decide_eq_false hin] at hlk
                   have HIN:=hid hin;clear hin
                   have HLL:=hid (ids_len (m:=m) HPB.out HALL.out (show q≤40 by omega))
                   go_wp2_with (at_mapUpdate;refine wpList_put_T _ rfl _ _ _ rfl b2 _ rfl HOWN.out HLL.out v rfl HWF.out rfl ?_;intro w7 hown7 hbe7;have HO7:=hid hown7;have HB7:=hid hbe7;clear hown7 hbe7)
                   go_roundw
                   case rel=>exact ⟨m+1,by omega,by go_num,by rw [HTS.out,← List.append_assoc];exact nodup_snoc HND2.out HIN.out,by rw [HTS.out,← List.append_assoc];exact HO7.out,HBE.out.trans (HB7.out _ HBS.out)⟩
                   case measure=>simp [intOf];omega
               · obtain rfl:m=x.n:=by omega
                 have hln:=SA.out.len
                 have HSH:=hid (show p.sh.take x.n=p.sh from List.take_of_length_le (by omega));clear hln
                 have HBE:=hid hbe;clear hbe
                 go_wp2
                 go_roundw
                 case rel=>exact ⟨q+1,by omega,by go_num,by rw [HTK.out];intro z hz;rcases List.mem_append.1 hz with hz|hz;exact HALL.out z hz;obtain rfl:=List.mem_singleton.1 hz;exact HPB.out,by rw [HTK.out,ids_snoc];have:=HND2.out;rwa [HSH.out] at this,by rw [HTK.out,ids_snoc];have:=HOWN.out;rwa [HSH.out] at this,HBE.out⟩
                 case measure=>simp [intOf];omega
          · obtain rfl:q=n:=by omega
            have hln:=HR.out.len
            have HBE:=hid hbe;clear hbe
            have HA2:=hid (show ∀ p∈ps,prtB p=true by have:=HALL.out;rwa [List.take_of_length_le (by omega)] at this)
            have HN2:=hid (show (idsP ps).Nodup by have:=HND.out;rwa [List.take_of_length_le (by omega)] at this)
            clear HOWN hln HALL HND
            go_wp2
            go_ret
            exact ⟨ret_int (by rw [HQ.out,goodP_ok HA2.out HN2.out];rfl),HBE.out⟩
end Go.Proofs.YtokpblmgdmokoaaGreat
