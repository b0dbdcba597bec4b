import Derived.Test.YtokpblmgdmokoaaGreatAMem
import Derived.Test.YtokpblmgdmokoaaGreatAVOwn
import Derived.Test.YtokpblmgdmokoaaGreatAVAny
set_option linter.unusedSimpArgs false
set_option linter.unusedVariables false
namespace Go.Proofs.YtokpblmgdmokoaaGreat
open Go.Lib (hid)
open Go.RowKit
theorem run_append_where {P:Program} (w:World) (base:Nat) (t ty e:TypeId) (i:TypeInfo) (z:Value) (size bytes:Nat) (ht:P.underlying t=some (.slice e)) (hi:P.info? e=some i) (hz:i.zero=some z)
 (hsize:i.size=size) (hby:i.bytes=bytes) (v:Value) (n:Nat) (xs:List Value) (hown:w.ownsRow base e size v n xs)
 (a:Addr) (m c:Nat) (news:List Value) (hl:news.length=m * size) (hnews:∀ j u,news[j]?=some u→w.cell? (a.add j)=some u) (h1:∀ u∈news,u.oneCell'=true)
 (h63:n+m≤maxLen) (hbytes:(n+m) * bytes≤140737488355328) (hm:0<m) :
 ∃ v' w',(Builtin.append_ #[t,t] ty #[v,.slice (some a) m c]).run P w=.ok v' w'∧(v'.ownBlock=v.ownBlock∨v'.ownBlock=some w.heap.size):=by
 subst hsize
 subst hby
 have hsmall:n+m≤9223372036854775807:=by simp only [maxLen] at h63;omega
 rcases hown.2 with ⟨rfl,rfl⟩|⟨g,cap,cur,rfl,hbg,hg,hnc,hcm,hcs,htake⟩
 · exact ⟨_,_,run_append_nil (P:=P) w t ty e i z ht hi hz a m c news hl hnews hm (by omega) (by have hb:=hbytes;simp only [Nat.zero_add] at hb;omega),.inr rfl⟩
 · by_cases hroom:n+m≤cap
   · exact ⟨_,_,run_append_room (P:=P) w t ty e i ht hi g n cap cur hg a m c news hl hnews h1 hroom (by rw [hl,hcs,← Nat.add_mul];exact Nat.mul_le_mul_right _ hroom),.inl rfl⟩
   · exact ⟨_,_,run_append_grow (P:=P) w t ty e i z ht hi hz ⟨g,0,none⟩ n cap xs hown.1 (hown.cells (g:=g) rfl) a m c news hl hnews (by omega) (by omega) (growslice_fits (by omega) hbytes),.inr rfl⟩
open Go.RowKit Go.Maps
theorem OwnPt.rd {w:World} {base n k:Nat} {S:Nat→Prop} {R:Option Addr} {ps:List Prt} (h:OwnPt w base S R n k ps):RdP w R n k ps:=by
 obtain ⟨xs,h1,h2,h3⟩:=h
 obtain ⟨A',c',e,g1,g2,g3,g4⟩:=own_form h3
 injection e with e1 e2 e3
 subst e1 e3
 have hl:=h3.1
 rw [flat_len pv_len] at hl
 exact ⟨by rw [← h1,List.length_map];omega,g1,g3,xs,h1,fun x hx=>(h2 x hx).1,g4⟩
theorem ownI_of {w:World} {base:Nat} {v:Value} {n:Nat} {l:List Int} (h:w.ownsRow base 3 1 v n (l.map (Value.int .i64))):∃ A c,v=.slice A n c∧OwnI w base A n c l:=by
 obtain ⟨A,c,rfl,-⟩:=own_form h
 exact ⟨A,c,rfl,h⟩
theorem wp_app1 {w:World} {o:Oper} {a:Act} {K:Act→World→Prop} {Q:Exit→Act→World→Prop} (s x:Operand) (ho:o.op=.call { callee:=.builtin .append,args:=#[s,x],argTypes:=#[30,30] })
 (base:Nat) (v:Value) (n:Nat) (l:List Int) (hs:a.eval s=v) (hown:w.ownsRow base 3 1 v n (l.map (Value.int .i64))) (b:Nat) (p:Int) (hx:a.eval x=.slice (some ⟨b,0,none⟩) 1 1) (hc:w.cell? ⟨b,0,none⟩=some (.int .i64 p)) (hn:n≤100000) (hbase:base≤w.heap.size)
 (h:∀ v' w',w'.ownsRow base 3 1 v' (n+1) ((l++[p]).map (Value.int .i64))→w.grownBy w' v.ownBlock→(v'.ownBlock=v.ownBlock∨v'.ownBlock=some w.heap.size)→K (a.put o.dst v') w'):o.wp Tryz.prog a w K Q:=by
 obtain ⟨i0,hi0,hz0,hz1,hz2⟩:=info_parts infoIv
 have hnews:∀ j u,([.int .i64 p]:List Value)[j]?=some u→w.cell? ((⟨b,0,none⟩:Addr).add j)=some u:=by
  intro j u hu
  rw [Addr.add_lit,Nat.zero_add]
  cases j with
  | zero=>simp at hu;subst hu;exact hc
  | succ j=>simp at hu
 obtain ⟨v',w',hr2,h2,h3,-⟩:=run_append_own (P:=Tryz.prog) (w:=w) base 30 o.type 3 i0 _ 1 8 Tryz.underlying30 hi0 hz0 hz1 hz2 rfl (by omega) v n _ hown ⟨b,0,none⟩ 1 1 [.int .i64 p] rfl hnews (by simp [Value.oneCell']) (by unfold maxLen;omega) (by omega) hbase
 obtain ⟨v2,w2,e2,h5⟩:=run_append_where (P:=Tryz.prog) w base 30 o.type 3 i0 _ 1 8 Tryz.underlying30 hi0 hz0 hz1 hz2 v n _ hown ⟨b,0,none⟩ 1 1 [.int .i64 p] rfl hnews (by simp [Value.oneCell']) (by unfold maxLen;omega) (by omega) (by omega)
 rw [hr2] at e2
 injection e2 with e3 e4
 subst e3
 unfold Oper.wp execOp
 simp only [ho,resolve,invoke,builtin,Sem.run_bind,Sem.run_pure,Result.andThen_ok,List.map_toArray,List.map_cons,List.map_nil,hs,hx,hr2]
 exact h _ _ (by rw [List.map_append];exact h2) h3 h5
theorem wpList_app1 {ops:Array Oper} {rest:List Oper} {w:World} {o:Oper} {a:Act} {Q:Exit→Act→World→Prop} (hgd:o.guard=none) (s x:Operand) (ho:o.op=.call { callee:=.builtin .append,args:=#[s,x],argTypes:=#[30,30] })
 (base:Nat) (v:Value) (n:Nat) (l:List Int) (hs:a.eval s=v) (hown:w.ownsRow base 3 1 v n (l.map (Value.int .i64))) (b:Nat) (p:Int) (hx:a.eval x=.slice (some ⟨b,0,none⟩) 1 1) (hc:w.cell? ⟨b,0,none⟩=some (.int .i64 p)) (hn:n≤100000) (hbase:base≤w.heap.size)
 (h:∀ v' w',w'.ownsRow base 3 1 v' (n+1) ((l++[p]).map (Value.int .i64))→w.grownBy w' v.ownBlock→(v'.ownBlock=v.ownBlock∨v'.ownBlock=some w.heap.size)→wpList Tryz.prog ops Q rest (a.put o.dst v') w'):wpList Tryz.prog ops Q (o::rest) a w :=
 wpList_plain hgd fun _ hK=>wp_app1 s x ho base v n l hs hown b p hx hc hn hbase fun v' w' h2 h3 h4=>hK _ _ (h v' w' h2 h3 h4)
def OwnTwo (w:World) (base:Nat) (v1 v2:Value) (l1 l2:List Int):Prop:=w.ownsRow base 3 1 v1 l1.length (l1.map (Value.int .i64))∧w.ownsRow base 3 1 v2 l2.length (l2.map (Value.int .i64))∧∀ g,v1.ownBlock=some g→v2.ownBlock≠some g
theorem OwnTwo.nil (w:World) (base:Nat):OwnTwo w base (.slice none 0 0) (.slice none 0 0) [] []:=⟨World.ownsRow_nil _ _ _ _,World.ownsRow_nil _ _ _ _,fun g h=>by simp [Value.ownBlock] at h⟩
theorem OwnTwo.swap {w:World} {base:Nat} {v1 v2:Value} {l1 l2:List Int} (h:OwnTwo w base v1 v2 l1 l2):OwnTwo w base v2 v1 l2 l1:=⟨h.2.1,h.1,fun g h1 h2=>h.2.2 g h2 h1⟩
theorem OwnTwo.alloc {w:World} {base:Nat} {v1 v2:Value} {l1 l2:List Int} (h:OwnTwo w base v1 v2 l1 l2) (o:Obj):OwnTwo (w.alloc o) base v1 v2 l1 l2:=⟨h.1.alloc o,h.2.1.alloc o,h.2.2⟩
theorem OwnTwo.app {w w':World} {base:Nat} {v1 v2 v':Value} {l1 l2 l':List Int} (h:OwnTwo w base v1 v2 l1 l2) (h2:w'.ownsRow base 3 1 v' l'.length (l'.map (Value.int .i64))) (hg:w.grownBy w' v1.ownBlock) (hw:v'.ownBlock=v1.ownBlock∨v'.ownBlock=some w.heap.size):OwnTwo w' base v' v2 l' l2:=by
 have hne:∀ g,v1.ownBlock=some g→v2.ownBlock≠some g:=h.2.2
 refine ⟨h2,h.2.1.kept hg ?_,fun g hg1 hg2=>?_⟩
 · cases h2:v2.ownBlock with
   | none=>exact .inl rfl
   | some g=>exact .inr fun e=>hne g e.symm h2
 · rcases hw with hw|hw
   · exact hne g (hw.symm.trans hg1) hg2
   · have:=(h.2.1.lt g hg2).2
     have e:=hw.symm.trans hg1
     injection e with e
     omega
section
variable {w:World} {g:Nat} {ware:ByteArray} {lim by_:Int} {A:Option Addr} {n k:Nat} {ps:List Prt}
set_option maxRecDepth 100000 in
theorem take1_any (hv:Vw w g ware lim by_ A n k ps) {bv bp:Nat} (hbv:Blk w bv 77 #[.pointer (some ⟨g,0,none⟩)]) {p q:Nat} (hbp:Blk w bp 3 #[.int .i64 (p:Int)]) (hp:p<n) (hq:q<n):Calls Tryz.prog 164 #[.int .i64 (q:Int),.pointer (some ⟨bv,0,none⟩),.pointer (some ⟨bp,0,none⟩)] w fun e w'=>e=.returned (.bool (clN ps p q))∧w=w':=by
 have HC:=hid (clash_any hv hp hq);clear hv
 have c1:=Blk.nth hbv 0
 have c2:=Blk.nth hbp 0
 go_enter Tryz.func164,Tryz.ntmps164
 go_wp2_with fail
 refine HC.out.mono ?_
 rintro e _ ⟨rfl,rfl⟩
 go_wp2
 go_ret
 exact ⟨rfl,rfl⟩
def hitL (ps:List Prt) (p:Int) (l:List Int):Bool:=l.any fun q=>clB ps p q
set_option maxRecDepth 100000 in
theorem indexF_any (hv:Vw w g ware lim by_ A n k ps) {bv bp:Nat} (hbv:Blk w bv 77 #[.pointer (some ⟨g,0,none⟩)]) {p:Nat} (hbp:Blk w bp 3 #[.int .i64 (p:Int)]) (hp:p<n) {B:Option Addr} {m d:Nat} {l:List Int} (hl:RdI w B m d l) (hm:m≤maxLen) (hin:∀ x∈l,∃ a:Nat,x=a∧a<n) :
 Calls Tryz.prog 175 #[.slice B m d,.func (.func 164) #[] #[.pointer (some ⟨bv,0,none⟩),.pointer (some ⟨bp,0,none⟩)]] w fun e w'=>(∃ i:Int,e=.returned (.int .i64 i)∧decide (0≤i)=hitL ps p l)∧w=w':=by
 have HL:=hid hl;have HIN:=hid hin
 have HT:=hid (fun (q:Nat) (hq:q<n)=>take1_any hv hbv hbp hp hq);clear hl hin hv hbv hbp
 have hmn:=hm;unfold maxLen at hmn
 go_enter Tryz.func175,Tryz.ntmps175
 go_wp2
 go_loopw [8] (fun i wr=>∃ q:Nat,q≤m∧i=.int .i64 q∧(∀ j<q,clB ps p (l.getD j 0)=false)∧w=wr) (fun i _=>m-(intOf i).toNat)
 case atStart=>exact ⟨0,Nat.zero_le _,rfl,(fun j hj=>absurd hj (Nat.not_lt_zero _)),rfl⟩
 case round =>
  obtain ⟨q,hq,rfl,hany,rfl⟩:=hrel
  have HANY:=hid hany;clear hany
  by_cases hlt:q<m
  · have hlt':(q:Int)<m:=by omega
    obtain ⟨b9,o9,v,rfl,hb9,hv,e0⟩:=RdI.get HL.out hlt
    obtain ⟨i,rfl,hi⟩:=HIN.out v (List.mem_of_getElem? hv)
    have HV:=hid hv;clear hv
    have HC:=hid (HT.out i hi)
    cases hcl:clN ps p i
    · have HCL:=hid hcl;clear hcl
      go_wp2_with fail
      refine HC.out.mono ?_
      rintro e _ ⟨rfl,rfl⟩
      clear HC
      have hcl:=HCL.out
      go_wp2
      go_roundw
      case rel=>exact ⟨q+1,by omega,by go_num,(fun j hj=>by
       rcases Nat.lt_succ_iff_lt_or_eq.1 hj with h|rfl
       · exact HANY.out j h
       · rw [List.getD_eq_getElem?_getD,HV.out];show clB ps p (i:Int)=false;rw [clB_nat];exact hcl),by trivial⟩
      case measure=>simp [intOf];omega
    · have HCL:=hid hcl;clear hcl
      go_wp2_with fail
      refine HC.out.mono ?_
      rintro e _ ⟨rfl,rfl⟩
      clear HC
      have hcl:=HCL.out
      go_wp2
      go_ret
      refine ⟨⟨q,rfl,?_⟩,rfl⟩
      have e1:hitL ps p l=true:=by
       unfold hitL
       rw [List.any_eq_true]
       exact ⟨i,List.mem_of_getElem? HV.out,by rw [clB_nat];exact hcl⟩
      rw [e1]
      simp
  · obtain rfl:q=m:=by omega
    go_wp2
    go_ret
    refine ⟨⟨-1,rfl,?_⟩,rfl⟩
    have e1:hitL ps p l=false:=by
     unfold hitL
     rw [List.any_eq_false]
     intro x hx
     obtain ⟨j,hj,hx2⟩:=List.getElem_of_mem hx
     have hjq:j<q:=by have:=HL.out.len;omega
     have:=HANY.out j hjq
     rw [List.getD_eq_getElem?_getD,List.getElem?_eq_getElem hj,hx2] at this
     simpa using this
    rw [e1]
    rfl
set_option maxRecDepth 100000 in
theorem containsF_any (hv:Vw w g ware lim by_ A n k ps) {bv bp:Nat} (hbv:Blk w bv 77 #[.pointer (some ⟨g,0,none⟩)]) {p:Nat} (hbp:Blk w bp 3 #[.int .i64 (p:Int)]) (hp:p<n) {B:Option Addr} {m d:Nat} {l:List Int} (hl:RdI w B m d l) (hm:m≤maxLen) (hin:∀ x∈l,∃ a:Nat,x=a∧a<n) :
 Calls Tryz.prog 163 #[.slice B m d,.func (.func 164) #[] #[.pointer (some ⟨bv,0,none⟩),.pointer (some ⟨bp,0,none⟩)]] w fun e w'=>e=.returned (.bool (hitL ps p l))∧w=w':=by
 have HC:=hid (indexF_any hv hbv hbp hp hl hm hin);clear hv hbv hbp hl hin
 go_enter Tryz.func163,Tryz.ntmps163
 go_wp2_with fail
 refine HC.out.mono ?_
 rintro e _ ⟨⟨i,rfl,hi⟩,rfl⟩
 clear HC
 have HI:=hid hi;clear hi
 go_wp2
 go_ret
 exact ⟨by rw [← HI.out];rfl,rfl⟩
end
def tkS (ps:List Prt) (vr:List Int × List Int) (p:Int):List Int × List Int:=if hitL ps p vr.1 then (vr.1,vr.2++[p]) else (vr.1++[p],vr.2)
def takeL (ps:List Prt) (l:List Int):List Int × List Int:=l.foldl (tkS ps) ([],[])
theorem tk_len (ps:List Prt) (l:List Int):∀ vr,(l.foldl (tkS ps) vr).1.length+(l.foldl (tkS ps) vr).2.length=vr.1.length+vr.2.length+l.length:=by
 induction l with
 | nil=>intro vr;simp
 | cons p l ih =>
  intro vr
  rw [List.foldl_cons,ih]
  unfold tkS
  split<;>simp<;>omega
theorem tk_mem (ps:List Prt) (l:List Int):∀ vr x,(x∈(l.foldl (tkS ps) vr).1∨x∈(l.foldl (tkS ps) vr).2)→x∈vr.1∨x∈vr.2∨x∈l:=by
 induction l with
 | nil=>intro vr x h;simpa [or_assoc] using h
 | cons p l ih =>
  intro vr x h
  rw [List.foldl_cons] at h
  have:=ih _ _ h
  unfold tkS at this
  split at this<;>simp only [List.mem_append,List.mem_cons,List.not_mem_nil,or_false] at this ⊢<;>grind
theorem takeL_snoc (ps:List Prt) (l:List Int) (q:Nat) (hq:q<l.length):takeL ps (l.take (q+1))=tkS ps (takeL ps (l.take q)) (l.getD q 0):=by
 unfold takeL
 rw [List.getD_eq_getElem?_getD,List.take_add_one,List.getElem?_eq_getElem hq,List.foldl_append]
 rfl
set_option maxRecDepth 100000 in
set_option maxHeartbeats 4000000 in
theorem take_any (g:Nat) (ware:ByteArray) (lim by_:Int) (A:Option Addr) (n k:Nat) (ps:List Prt) (B:Option Addr) (m d:Nat) (l:List Int) (w:World) (hv:Vw w g ware lim by_ A n k ps) (hl:RdI w B m d l) (hm:m≤100000) (hin:∀ x∈l,∃ a:Nat,x=a∧a<n):Calls Tryz.prog 141 #[.pointer (some ⟨g,0,none⟩),.slice B m d] w fun e w'=>∃ v1 v2,e=.returned (.tuple #[v1,v2])∧OwnTwo w' w.heap.size v1 v2 (takeL ps l).1 (takeL ps l).2∧Below w.heap.size w w':=by
 have HIN:=hid hin;have HL0:=hid hl;have HV0:=hid hv;clear hin
 go_enter Tryz.func141,Tryz.ntmps141
 obtain ⟨a1,a0⟩:=ent1 w #[.pointer (some ⟨g,0,none⟩)] 77
 have a3:=hid (Vw.keep (hv) a0.out)
 have a4:=iI hl a0
 clear hv hl
 have a2:=at1 a1
 go_wp2
 clear a2
 go_loopw [10,4,5] (fun i v1 v2 wr=>∃ q:Nat,q≤m∧i=.int .i64 q∧OwnTwo wr ((w.alloc (.cells #[.pointer (some ⟨g,0,none⟩)] 77))).heap.size v1 v2 (takeL ps (l.take q)).1 (takeL ps (l.take q)).2∧Blk wr (w.heap.size) 77 #[.pointer (some ⟨g,0,none⟩)]∧Below w.heap.size w wr∧((w.alloc (.cells #[.pointer (some ⟨g,0,none⟩)] 77))).heap.size≤wr.heap.size) (fun i _ _ _=>m-(intOf i).toNat)
 case atStart=>exact ⟨0,Nat.zero_le _,rfl,OwnTwo.nil _ _,a1.out,a0.out,Nat.le_refl _⟩
 case round =>
  obtain ⟨q,hq,rfl,ht,hbv,hb,hszr⟩:=hrel
  have HVW:=hid (HV0.out.keep hb);have HRL:=hid (HL0.out.below hb);have HBV:=hid hbv;have HB:=hid hb;have HT:=hid ht;clear hbv hb ht
  by_cases hlt:q<m
  · have hlt':(q:Int)<m:=by omega
    have hsn:=takeL_snoc ps l q (by have:=HRL.out.len;omega)
    have htl:=tk_len ps (l.take q) ([],[])
    have htm:=fun x h=>tk_mem ps (l.take q) ([],[]) x h
    obtain ⟨b9,o9,v,rfl,hb9,hv,e0⟩:=RdI.get HRL.out hlt
    obtain ⟨p,rfl,hp⟩:=HIN.out v (List.mem_of_getElem? hv)
    rw [List.getD_eq_getElem?_getD,hv] at hsn
    change takeL ps (l.take (q+1))=tkS ps (takeL ps (l.take q)) (p:Int) at hsn
    have HSN:=hid hsn;clear hsn hv
    change (takeL ps (l.take q)).1.length+(takeL ps (l.take q)).2.length=_ at htl
    change ∀ x,(x∈(takeL ps (l.take q)).1∨x∈(takeL ps (l.take q)).2)→_ at htm
    obtain ⟨tt,htt⟩:∃ tt,tt=takeL ps (l.take q):=⟨_,rfl⟩
    rw [← htt] at HT HSN htl htm
    clear htt
    obtain ⟨t1,t2⟩:=tt
    dsimp only at HT HSN htl htm
    have hll:=HRL.out.len
    have hlen:t1.length+t2.length≤100000:=by simp only [List.length_nil,List.length_take] at htl;omega
    have HMEM:=hid (fun x (hx:x∈t1)=>HIN.out x (by have:=htm x (Or.inl hx);simp only [List.not_mem_nil,false_or] at this;exact List.mem_of_mem_take this));clear htl htm hll
    obtain ⟨A1,c1,rfl,hO1⟩:=ownI_of HT.out.1
    have HR1:=hid ((OwnI.rd hO1).1.alloc (.cells #[.int .i64 p] 3));clear hO1
    have NB:=hid (Blk.new wr 3 #[.int .i64 p])
    have HC:=hid (containsF_any (HVW.out.alloc (.cells #[.int .i64 p] 3)) (HBV.out.alloc (.cells #[.int .i64 p] 3)) NB.out hp HR1.out (by unfold maxLen;omega) HMEM.out)
    have hsz9:=HB.out.size
    go_wp2_with fail
    refine HC.out.mono ?_
    rintro e _ ⟨rfl,rfl⟩
    clear HC e0
    have nc:=Blk.nth NB.out 0
    have HT2:=hid (HT.out.alloc (.cells #[.int .i64 p] 3));have HBV2:=hid (HBV.out.alloc (.cells #[.int .i64 p] 3));have HB2:=hid (HB.out.alloc hsz9 (.cells #[.int .i64 p] 3))
    have NB2:=hid (Blk.new (wr.alloc (.cells #[.int .i64 p] 3)) 3 #[.int .i64 p])
    have nc2:=Blk.nth NB2.out 0
    cases hh:hitL ps p t1
    · have HH:=hid hh;clear hh
      have hh:=HH.out
      have hs2:takeL ps (l.take (q+1))=(t1++[(p:Int)],t2):=by rw [HSN.out];unfold tkS;simp only [HH.out];rfl
      have HS2:=hid hs2;clear hs2 hh
      have hh:=HH.out
      go_wp2_with (at_builtin;refine wpList_app1 rfl (.tmp 21) (.tmp 23) rfl (((w.alloc (.cells #[.pointer (some ⟨g,0,none⟩)] 77))).heap.size) _ _ t1 rfl ((HT2.out.alloc (.cells #[.int .i64 p] 3)).1) (wr.heap.size+1) p rfl (by simp) (by omega) (by simp;omega) ?_;intro v' w4 hown4 hg4 hwh4;have HO4:=hid hown4;have HG4:=hid hg4;have HW4:=hid hwh4;clear hown4 hg4 hwh4)
      go_roundw
      case rel =>
       have hbx:=HB2.out.alloc HB2.out.size (.cells #[.int .i64 p] 3)
       have hbg:Below w.heap.size w w4:=hbx.grown HG4.out hbx.size (fun r e=>Nat.le_trans (by simp) ((HT2.out.alloc (.cells #[.int .i64 p] 3)).1.lt r e).1)
       refine ⟨q+1,by omega,by go_num,by rw [HS2.out];exact ((HT2.out.alloc (.cells #[.int .i64 p] 3)).app (l':=t1++[(p:Int)]) (by simpa using HO4.out) HG4.out HW4.out),?_,hbg,Nat.le_trans hszr (by have:=HG4.out.size;simp at this;omega)⟩
       exact (HG4.out.block _ (by simp;have:=HBV.out.lt;omega) (fun e=>by have:=((HT2.out.alloc (.cells #[.int .i64 p] 3)).1.lt _ e.symm).1;simp only [World.size_alloc] at this;omega)).trans (HBV2.out.alloc _)
      case measure=>simp [intOf];omega
    · have HH:=hid hh;clear hh
      have hh:=HH.out
      have hs2:takeL ps (l.take (q+1))=(t1,t2++[(p:Int)]):=by rw [HSN.out];unfold tkS;simp only [HH.out];rfl
      have HS2:=hid hs2;clear hs2 hh
      have hh:=HH.out
      go_wp2_with (at_builtin;refine wpList_app1 rfl (.tmp 17) (.tmp 19) rfl (((w.alloc (.cells #[.pointer (some ⟨g,0,none⟩)] 77))).heap.size) _ _ t2 rfl ((HT2.out.alloc (.cells #[.int .i64 p] 3)).2.1) (wr.heap.size+1) p rfl (by simp) (by omega) (by simp;omega) ?_;intro v' w4 hown4 hg4 hwh4;have HO4:=hid hown4;have HG4:=hid hg4;have HW4:=hid hwh4;clear hown4 hg4 hwh4)
      go_roundw
      case rel =>
       have hbx:=HB2.out.alloc HB2.out.size (.cells #[.int .i64 p] 3)
       have hbg:Below w.heap.size w w4:=hbx.grown HG4.out hbx.size (fun r e=>Nat.le_trans (by simp) ((HT2.out.alloc (.cells #[.int .i64 p] 3)).2.1.lt r e).1)
       refine ⟨q+1,by omega,by go_num,by rw [HS2.out];exact ((HT2.out.alloc (.cells #[.int .i64 p] 3)).swap.app (l':=t2++[(p:Int)]) (by simpa using HO4.out) HG4.out HW4.out).swap,?_,hbg,Nat.le_trans hszr (by have:=HG4.out.size;simp at this;omega)⟩
       exact (HG4.out.block _ (by simp;have:=HBV.out.lt;omega) (fun e=>by have:=((HT2.out.alloc (.cells #[.int .i64 p] 3)).2.1.lt _ e.symm).1;simp only [World.size_alloc] at this;omega)).trans (HBV2.out.alloc _)
      case measure=>simp [intOf];omega
  · obtain rfl:q=m:=by omega
    have htk:l.take q=l:=List.take_of_length_le (by have:=HRL.out.len;omega)
    rw [htk] at HT
    have HT3:=hid HT.out;clear HT
    go_wp2
    go_ret2
    exact ⟨_,_,rfl,⟨owns_base HT3.out.1 (by simp),owns_base HT3.out.2.1 (by simp),HT3.out.2.2⟩,HB.out⟩
end Go.Proofs.YtokpblmgdmokoaaGreat
