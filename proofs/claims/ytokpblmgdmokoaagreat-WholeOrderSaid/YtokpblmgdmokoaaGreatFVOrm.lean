import Derived.Test.YtokpblmgdmokoaaGreatAVDel
import Derived.Test.YtokpblmgdmokoaaGreatAVSeq
import Derived.Test.YtokpblmgdmokoaaGreatFVAp
set_option linter.unusedSimpArgs false
set_option linter.unusedVariables false
namespace Go.Proofs.YtokpblmgdmokoaaGreat
open Go.RowKit Go.Maps
theorem chk_perm {ware:ByteArray} {lim by_:Int} {ps ps':List Prt} (h:ps.Perm ps'):chkC ⟨ware,lim,by_,ps'⟩=chkC ⟨ware,lim,by_,ps⟩:=by
 have hg:goodP ps'=goodP ps:=by
  unfold goodP
  congr 1
  · rw [Bool.eq_iff_iff,List.all_eq_true,List.all_eq_true]
    exact ⟨fun k p hp=>k p (h.mem_iff.1 hp),fun k p hp=>k p (h.mem_iff.2 hp)⟩
  · refine decide_eq_decide.2 ?_
    unfold idsP
    exact ((h.flatMap_right (fun p=>p.sh)).nodup_iff).symm
 unfold chkC
 dsimp only
 rw [hg,h.length_eq]
theorem swap_perm {α:Type} {l:List α} {i j:Nat} {p q:α} (hi:l[i]?=some p) (hj:l[j]?=some q):((l.set i q).set j p).Perm l:=by
 obtain ⟨hi',rfl⟩:=List.getElem?_eq_some_iff.1 hi
 obtain ⟨hj',rfl⟩:=List.getElem?_eq_some_iff.1 hj
 have h:=Array.swap_perm (xs:=l.toArray) (i:=i) (j:=j) (by simpa using hi') (by simpa using hj')
 have h2:=Array.perm_iff_toList_perm.1 h
 simpa [Array.toList_swap] using h2
theorem rot_perm {α:Type} (l:List α) (k:Nat):(l.drop k++l.take k).Perm l:=by
 refine List.perm_append_comm.trans ?_
 rw [List.take_append_drop]
theorem setCells8 (w:World) (g o:Nat) (v0 v1 v2 v3 v4 v5 v6 v7:Value):w.setCells g o [v0,v1,v2,v3,v4,v5,v6,v7]=((((((((w.setCell ⟨g,o,none⟩ v0).setCell ⟨g,o+1,none⟩ v1).setCell ⟨g,o+2,none⟩ v2).setCell ⟨g,o+3,none⟩ v3).setCell ⟨g,o+4,none⟩ v4).setCell ⟨g,o+5,none⟩ v5).setCell ⟨g,o+6,none⟩ v6).setCell ⟨g,o+7,none⟩ v7):=by
 simp only [World.setCells,Nat.add_assoc,Nat.reduceAdd]
theorem ok_set8 {w:World} {g:Nat} {p:Prt} {x:PAd} (hf:x.far g p) (h:x.ok w p) (o:Nat) (v0 v1 v2 v3 v4 v5 v6 v7:Value):x.ok ((((((((w.setCell ⟨g,o,none⟩ v0).setCell ⟨g,o+1,none⟩ v1).setCell ⟨g,o+2,none⟩ v2).setCell ⟨g,o+3,none⟩ v3).setCell ⟨g,o+4,none⟩ v4).setCell ⟨g,o+5,none⟩ v5).setCell ⟨g,o+6,none⟩ v6).setCell ⟨g,o+7,none⟩ v7) p:=by
 rw [← setCells8]
 exact ok_setCells hf _ h _
section
variable {w:World} {base b2 g n k:Nat} {l:List Prt}
theorem flat_setAt (xs:List (Prt × PAd)) (q:Nat) (y:Prt × PAd) (hq:q<xs.length):setAt (xs.flatMap pv) (q * 8) (pv y)=(xs.set q y).flatMap pv:=by
 have e:xs=xs.take q++xs[q]::xs.drop (q+1):=by rw [← List.drop_eq_getElem_cons hq,List.take_append_drop]
 have hl:((xs.take q).flatMap pv).length=q * 8:=by rw [flat_len pv_len,List.length_take,Nat.min_eq_left (by omega)]
 have hx:xs.flatMap pv=(xs.take q).flatMap pv++(pv xs[q]++(xs.drop (q+1)).flatMap pv):=by
  conv=>lhs;rw [e]
  rw [List.flatMap_append,List.flatMap_cons]
 rw [setAt_eq _ _ _ (by rw [flat_len pv_len,pv_len];omega),hx,pv_len]
 rw [List.take_append_of_le_length (by rw [hl];exact Nat.le_refl _),List.take_of_length_le (by rw [hl];exact Nat.le_refl _)]
 rw [List.drop_append,List.drop_of_length_le (by rw [hl];omega),List.nil_append,hl,Nat.add_sub_cancel_left,List.drop_append,List.drop_of_length_le (by rw [pv_len];exact Nat.le_refl _),List.nil_append,pv_len,Nat.sub_self,List.drop_zero]
 rw [List.set_eq_take_append_cons_drop,if_pos hq,List.flatMap_append,List.flatMap_cons,List.append_assoc]
theorem OwnQ.setP (hbb:base≤b2) (h:OwnQ w base b2 (some ⟨g,0,none⟩) n k l) {q:Nat} (hq:q<n) {p2:Prt} {x2:PAd} (hok:x2.ok w p2) (hfar:∀ g',base≤g'→x2.far g' p2):OwnQ (w.setCells g (q * 8) (pv (p2,x2))) base b2 (some ⟨g,0,none⟩) n k (l.set q p2):=by
 have hb:=OwnPt.blk h
 obtain ⟨xs,e1,f1,o1⟩:=h
 have hlen:q<xs.length:=by rw [← e1,List.length_map] at hb;omega
 refine ⟨xs.set q (p2,x2),by rw [List.map_set,e1],fun y hy=>?_,?_⟩
 · have hR:∀ g',((some ⟨g,0,none⟩:Option Addr)=some ⟨g',0,none⟩∨base≤g')→base≤g':=by
    rintro g' (e|h)
    · injection e with e;injection e with e;omega
    · exact h
   rcases List.mem_or_eq_of_mem_set hy with hy|rfl
   · obtain ⟨a,b⟩:=f1 y hy
     exact ⟨ok_setCells (b g (.inr (Nat.le_trans hbb hb.1))) _ a _,b⟩
   · exact ⟨ok_setCells (hfar g (Nat.le_trans hbb hb.1)) _ hok _,fun g' hg'=>hfar g' (hR g' hg')⟩
 · have:=own_setCells (pv (p2,x2)) o1 (q * 8)
   rwa [flat_setAt xs q (p2,x2) hlen] at this
theorem OwnQ.set8 (hbb:base≤b2) (h:OwnQ w base b2 (some ⟨g,0,none⟩) n k l) {q:Nat} (hq:q<n) {p2:Prt} {x2:PAd} (hok:x2.ok w p2) (hfar:∀ g',base≤g'→x2.far g' p2):OwnQ ((((((((w.setCell ⟨g,q * 8,none⟩ (.slice x2.A x2.n x2.c)).setCell ⟨g,q * 8+1,none⟩ (.int .i64 p2.lo)).setCell ⟨g,q * 8+2,none⟩ (.int .i64 p2.hi)).setCell ⟨g,q * 8+3,none⟩ (.int .i64 p2.lb)).setCell ⟨g,q * 8+4,none⟩ (.int .i64 p2.hb)).setCell ⟨g,q * 8+5,none⟩ (.bool p2.ft)).setCell ⟨g,q * 8+6,none⟩ (.int .i64 p2.fb)).setCell ⟨g,q * 8+7,none⟩ (.slice x2.B x2.m x2.d)) base b2 (some ⟨g,0,none⟩) n k (l.set q p2):=by
 rw [← setCells8]
 exact OwnQ.setP hbb h hq hok hfar
theorem OwnQ.getQ (h:OwnQ w base b2 (some ⟨g,0,none⟩) n k l) {q:Nat} {p:Prt} (hp:l[q]?=some p):∃ x:PAd,x.ok w p∧(∀ g',base≤g'→x.far g' p) ∧
 w.cell? ⟨g,q * 8,none⟩=some (.slice x.A x.n x.c)∧w.cell? ⟨g,q * 8+1,none⟩=some (.int .i64 p.lo)∧w.cell? ⟨g,q * 8+2,none⟩=some (.int .i64 p.hi) ∧
 w.cell? ⟨g,q * 8+3,none⟩=some (.int .i64 p.lb)∧w.cell? ⟨g,q * 8+4,none⟩=some (.int .i64 p.hb)∧w.cell? ⟨g,q * 8+5,none⟩=some (.bool p.ft) ∧
 w.cell? ⟨g,q * 8+6,none⟩=some (.int .i64 p.fb)∧w.cell? ⟨g,q * 8+7,none⟩=some (.slice x.B x.m x.d):=by
 obtain ⟨xs,h1,h2,h3⟩:=h
 obtain ⟨x,hx,rfl⟩:∃ x,xs[q]?=some x∧x.1=p:=by rw [← h1,List.getElem?_map] at hp;cases hx:xs[q]? with|none=>rw [hx] at hp;cases hp|some x=>rw [hx] at hp;exact ⟨x,rfl,by simpa using hp⟩
 obtain ⟨hok,hfar⟩:=h2 x (List.mem_of_getElem? hx)
 have g2:=fun j (hj:j<8)=>flat_get pv_len xs q j x hx hj
 have c:=fun j v (hv:(xs.flatMap pv)[j]?=some v)=>(Addr.add_lit _ _ _ ▸ h3.cells rfl j v hv:w.cell? ⟨g,0+j,none⟩=some v)
 simp only [Nat.zero_add] at c
 exact ⟨x.2,hok,fun g' hg'=>hfar g' (.inr hg'),c _ _ (g2 0 (by omega)),c _ _ (g2 1 (by omega)),c _ _ (g2 2 (by omega)),c _ _ (g2 3 (by omega)),c _ _ (g2 4 (by omega)),c _ _ (g2 5 (by omega)),c _ _ (g2 6 (by omega)),c _ _ (g2 7 (by omega))⟩
end
end Go.Proofs.YtokpblmgdmokoaaGreat
