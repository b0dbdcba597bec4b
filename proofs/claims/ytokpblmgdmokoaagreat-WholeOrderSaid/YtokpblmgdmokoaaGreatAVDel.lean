import Derived.Test.YtokpblmgdmokoaaGreatAVOwn
set_option linter.unusedSimpArgs false
set_option linter.unusedVariables false
namespace Go.Proofs.YtokpblmgdmokoaaGreat
open Go.Lib (hid)
open Go.RowKit Go.Maps
def setAt (xs:List Value):Nat→List Value→List Value
 | _,[]=>xs
 | o,v::y=>setAt (xs.set o v) (o+1) y
theorem setAt_eq (y:List Value):∀ (xs:List Value) (o:Nat),o+y.length≤xs.length→setAt xs o y=xs.take o++y++xs.drop (o+y.length):=by
 induction y with
 | nil=>intro xs o _;simp [setAt]
 | cons v y ih =>
  intro xs o h
  simp only [List.length_cons] at h
  rw [setAt,ih _ _ (by rw [List.length_set];omega)]
  apply List.ext_getElem?
  intro i
  simp only [List.getElem?_append,List.getElem?_take,List.getElem?_set,List.getElem?_drop,List.length_append,List.length_take,List.length_set,List.length_cons,List.getElem?_cons]
  rcases Nat.lt_trichotomy i o with h1|rfl|h1
  · have a1:i<o+1:=by omega
    have a2:¬ o=i:=by omega
    have a3:i<min (o+1) xs.length+y.length:=by omega
    have a4:i<min o xs.length+(y.length+1):=by omega
    have a5:i<min (o+1) xs.length:=by omega
    have a6:i<min o xs.length:=by omega
    simp [a1,a2,a3,a4,a5,a6,h1]
  · have a3:i<min (i+1) xs.length+y.length:=by omega
    have a4:i<min i xs.length+(y.length+1):=by omega
    have a5:i<min (i+1) xs.length:=by omega
    have a6:¬ i<min i xs.length:=by omega
    have a7:i<xs.length:=by omega
    have a8:i-min i xs.length=0:=by omega
    simp [a3,a4,a5,a6,a7,a8]
  · by_cases h2:i<o+1+y.length
    · have a3:i<min (o+1) xs.length+y.length:=by omega
      have a4:i<min o xs.length+(y.length+1):=by omega
      have a5:¬ i<min (o+1) xs.length:=by omega
      have a6:¬ i<min o xs.length:=by omega
      have a7:¬ i-min o xs.length=0:=by omega
      have a8:i-min (o+1) xs.length=i-min o xs.length-1:=by omega
      simp [a3,a4,a5,a6,a7,a8]
    · have a3:¬ i<min (o+1) xs.length+y.length:=by omega
      have a4:¬ i<min o xs.length+(y.length+1):=by omega
      have a9:¬ o=o+1+y.length+(i-(min (o+1) xs.length+y.length)):=by omega
      have a10:o+1+y.length+(i-(min (o+1) xs.length+y.length))=o+(y.length+1)+(i-(min o xs.length+(y.length+1))):=by omega
      simp only [a3,a4,if_false,a10]
      have a11:¬ o=o+(y.length+1)+(i-(min o xs.length+(y.length+1))):=by omega
      simp [a11]
theorem own_setCells {base g n k:Nat} {e:TypeId} {size:Nat} (y:List Value):∀ {w:World} {xs:List Value} (_:w.ownsRow base e size (.slice (some ⟨g,0,none⟩) n k) n xs) (o:Nat),(w.setCells g o y).ownsRow base e size (.slice (some ⟨g,0,none⟩) n k) n (setAt xs o y):=by
 induction y with
 | nil=>intro w xs h o;exact h
 | cons v y ih=>intro w xs h o;exact ih (h.stored o v).1 (o+1)
theorem ok_setCells {g:Nat} {p:Prt} {x:PAd} (hf:x.far g p) (y:List Value):∀ {w:World} (_:x.ok w p) (o:Nat),x.ok (w.setCells g o y) p:=by
 induction y with
 | nil=>intro w h o;exact h
 | cons v y ih=>intro w h o;exact ih (h.set hf v) (o+1)
theorem below_setCells {B g:Nat} (hg:B≤g) (y:List Value):∀ {w w':World} (_:Below B w w') (o:Nat),Below B w (w'.setCells g o y):=by
 induction y with
 | nil=>intro w w' h o;exact h
 | cons v y ih=>intro w w' h o;exact ih (h.setCell (p:=⟨g,o,none⟩) hg v) (o+1)
theorem own_shrink {w:World} {base g n k:Nat} {e:TypeId} {size:Nat} {xs:List Value} (h:w.ownsRow base e size (.slice (some ⟨g,0,none⟩) n k) n xs) (r:Nat) (hr:r≤n):w.ownsRow base e size (.slice (some ⟨g,0,none⟩) r k) r (xs.take (r * size)):=by
 obtain ⟨h1,h2⟩:=h
 have hle:r * size≤n * size:=Nat.mul_le_mul_right _ hr
 rcases h2 with ⟨h0,_⟩|⟨g',cap,cur,hv,hg,hh,hn,hm,hs,ht⟩
 · cases h0
 · refine ⟨by rw [List.length_take,h1];omega,.inr ⟨g',cap,cur,?_,hg,hh,by omega,hm,hs,?_⟩⟩
   · injection hv with a1 a2 a3
     rw [a1,a3]
   · rw [← ht,List.take_take,Nat.min_eq_left hle]
theorem run_clear_wide {P:Program} (w:World) (t e ty:TypeId) (z:Value) (ht:P.underlying t=some (.slice e)) (hv:∀ w,(zeroValue e).run P w=.ok z w) (h1:∀ u∈z.cells.toList,u.oneCell'=true) (b o c:Nat)
 (hc:∀ j,j<z.cells.size→(w.cell? ⟨b,o+j,none⟩).isSome=true) (hf:∀ j,j<z.cells.size→w.frozen? ⟨b,o+j,none⟩=false) :
 (Builtin.clear_ #[t] ty #[.slice (some ⟨b,o,none⟩) 1 c]).run P w=.ok (.tuple #[]) (w.setCells b o z.cells.toList):=by
 have hzc:(Builtin.zeroCells z.cells 1).toList=z.cells.toList:=by
  simp only [Builtin.zeroCells]
  apply List.ext_getElem
  · simp
  · intro i h1 h2
    simp at h1 h2
    simp [Nat.mod_eq_of_lt h1]
    exact getElem!_pos z.cells i h1
 have hst:=run_storeCells_cells (P:=P) b o z.cells.toList 0 w (by simpa using hc) (by simpa using hf) h1
 simp only [Nat.add_zero] at hst
 simp [Builtin.clear_,run_underlying ht,hv,hzc,hst]
theorem flat_drop {α:Type} {f:α→List Value} {s:Nat} (hf:∀ x,(f x).length=s) (l:List α) (k:Nat):(l.flatMap f).drop (k * s)=(l.drop k).flatMap f:=by
 induction l generalizing k with
 | nil=>simp
 | cons x l ih =>
  cases k with
  | zero=>simp
  | succ k=>rw [List.flatMap_cons,List.drop_succ_cons,← ih,List.drop_append,List.drop_eq_nil_of_le (by rw [hf,Nat.add_mul];omega),List.nil_append,hf,Nat.add_mul];congr 1;omega
theorem flat_take {α:Type} {f:α→List Value} {s:Nat} (hf:∀ x,(f x).length=s) (l:List α) (k:Nat):(l.flatMap f).take (k * s)=(l.take k).flatMap f:=by
 induction l generalizing k with
 | nil=>simp
 | cons x l ih =>
  cases k with
  | zero=>simp
  | succ k=>rw [List.flatMap_cons,List.take_succ_cons,List.flatMap_cons,← ih,List.take_append,List.take_of_length_le (by rw [hf,Nat.add_mul];omega),hf,Nat.add_mul];congr 2;omega
def Z8:List Value:=[.slice none 0 0,.int .i64 0,.int .i64 0,.int .i64 0,.int .i64 0,.bool false,.int .i64 0,.slice none 0 0]
theorem del_list (xs:List (Prt × PAd)) {n a:Nat} (hl:xs.length=n) (ha:a<n):(setAt (setAt (xs.flatMap pv) (a * 8) ((xs.drop (a+1)).flatMap pv)) ((n-1) * 8) Z8).take ((n-1) * 8)=(xs.eraseIdx a).flatMap pv:=by
 have hF:(xs.flatMap pv).length=n * 8:=by rw [flat_len pv_len,hl]
 have hN:((xs.drop (a+1)).flatMap pv).length=(n-(a+1)) * 8:=by rw [flat_len pv_len,List.length_drop,hl]
 have e1:setAt (xs.flatMap pv) (a * 8) ((xs.drop (a+1)).flatMap pv)=(xs.flatMap pv).take (a * 8)++(xs.drop (a+1)).flatMap pv++(xs.flatMap pv).drop (a * 8+(n-(a+1)) * 8):=by rw [setAt_eq _ _ _ (by rw [hF,hN];omega),hN]
 have hl1:((xs.flatMap pv).take (a * 8)++(xs.drop (a+1)).flatMap pv).length=(n-1) * 8:=by rw [List.length_append,List.length_take,hF,hN];omega
 have hl2:((xs.flatMap pv).take (a * 8)++(xs.drop (a+1)).flatMap pv++(xs.flatMap pv).drop (a * 8+(n-(a+1)) * 8)).length=n * 8:=by rw [List.length_append,hl1,List.length_drop,hF];omega
 rw [e1,setAt_eq _ _ _ (by rw [hl2];simp [Z8];omega),List.append_assoc,List.take_append_of_le_length (by rw [List.length_take,hl2];omega),List.take_take,Nat.min_self,List.take_append_of_le_length (by rw [hl1];exact Nat.le_refl _),List.take_of_length_le (by rw [hl1];exact Nat.le_refl _),flat_take pv_len,List.eraseIdx_eq_take_drop_succ,List.flatMap_append]
set_option maxRecDepth 1000000 in
set_option maxHeartbeats 4000000 in
theorem deleteP_any {w:World} {base g n k:Nat} {S:Nat→Prop} {ps:List Prt} (h:OwnPt w base S (some ⟨g,0,none⟩) n k ps) (hsm:n≤100000) {a j:Nat} (ha:a<n) (hj:j=a+1) :
 Calls Tryz.prog 105 #[.slice (some ⟨g,0,none⟩) n k,.int .i64 a,.int .i64 j] w fun e w'=>e=.returned (.slice (some ⟨g,0,none⟩) (n-1) k)∧OwnPt w' base S (some ⟨g,0,none⟩) (n-1) k (ps.eraseIdx a)∧Below base w w':=by
 obtain ⟨hgb,hgl,hpl,hnk⟩:=h.blk
 obtain ⟨xs,h1,h2,h3⟩:=h
 have hkm:k≤9223372036854775807:=by
  obtain ⟨A',c',e,-,hc,-⟩:=own_form h3
  injection e with _ _ e3
  subst e3
  unfold maxLen at hc
  omega
 have hlen:xs.length=n:=by rw [← hpl,← h1,List.length_map]
 obtain ⟨i0,hi0,hz0,hz1,hz2⟩:=info_parts infoPt
 have hF:(xs.flatMap pv).length=n * 8:=by rw [flat_len pv_len,hlen]
 have hcell:∀ t v,(xs.flatMap pv)[t]?=some v→w.cell? ⟨g,t,none⟩=some v:=fun t v hv=>by
  have:=h3.cells rfl t v hv
  rw [Addr.add_lit,Nat.zero_add] at this
  exact this
 obtain ⟨news,hnews⟩:∃ news,news=(xs.drop (a+1)).flatMap pv:=⟨_,rfl⟩
 have hN:news.length=(n-j) * 8:=by rw [hnews,flat_len pv_len,List.length_drop,hlen,hj]
 have hget:∀ t u,news[t]?=some u→w.drew.cell? ⟨g,j * 8+t,none⟩=some u:=fun t u hu=>by
  rw [hnews,← flat_drop pv_len,List.getElem?_drop] at hu
  rw [hj]
  exact hcell _ _ hu
 obtain ⟨AD,hA,hsrc⟩:∃ AD:Addr,(if k=j then some (⟨g,0,none⟩:Addr) else some ⟨g,j * 8,none⟩)=some AD∧Hid (∀ t u,news[t]?=some u→w.drew.cell? (AD.add t)=some u):=by
  by_cases hkj:k=j
  · refine ⟨⟨g,0,none⟩,by simp [hkj],hid fun t u hu=>?_⟩
    have h0:news.length=0:=by rw [hN];omega
    rw [List.length_eq_zero_iff.1 h0] at hu
    simp at hu
  · exact ⟨⟨g,j * 8,none⟩,by simp [hkj],hid fun t u hu=>by rw [Addr.add_lit];exact hget t u hu⟩
 have s1:=hid hN
 have s2:Hid (∀ u∈news,u.oneCell'=true):=hid (by rw [hnews];exact pv_one _)
 have own0:w.drew.ownsRow base 48 8 (.slice (some ⟨g,0,none⟩) n k) n (xs.flatMap pv):=h3
 have s3:Hid (∀ t,t<news.length→(w.drew.cell? ⟨g,0+a * 8+t,none⟩).isSome=true∧w.drew.frozen? ⟨g,0+a * 8+t,none⟩=false):=hid (fun t ht=>by
  rw [Nat.zero_add]
  have hlt:a * 8+t<(xs.flatMap pv).length:=by rw [hF];omega
  refine ⟨?_,own0.frozenAt _⟩
  show (w.cell? _).isSome=true
  rw [hcell _ _ (List.getElem?_eq_getElem hlt)]
  rfl)
 obtain ⟨W1,hW1⟩:∃ W1,W1=w.drew.setCells g (0+a * 8) news:=⟨_,rfl⟩
 have own1:W1.ownsRow base 48 8 (.slice (some ⟨g,0,none⟩) n k) n (setAt (xs.flatMap pv) (a * 8) news):=by rw [hW1,Nat.zero_add];exact own_setCells news own0 (a * 8)
 have hcl:∀ ty,(Builtin.clear_ #[22] ty #[.slice (some ⟨g,(a+(n-j)) * 8,none⟩) (n-(a+(n-j))) (k-(a+(n-j)))]).run Tryz.prog W1=.ok (.tuple #[]) (W1.setCells g ((a+(n-j)) * 8) Z8):=fun ty=>by
  rw [show n-(a+(n-j))=1 by omega]
  have hlt:∀ t,t<8→(a+(n-j)) * 8+t<(setAt (xs.flatMap pv) (a * 8) news).length:=fun t ht=>by rw [own1.1];omega
  exact run_clear_wide W1 22 48 ty (.agg Z8.toArray) Tryz.underlying22 Tryz.zeroValue48 (by simp [Z8,Value.cells,Value.oneCell']) g _ _ (fun t ht=>by
   have hc:=own1.cells rfl _ _ (List.getElem?_eq_getElem (hlt t (by simpa [Z8,Value.cells] using ht)))
   rw [Addr.add_lit,Nat.zero_add] at hc
   rw [hc]
   rfl) (fun t _=>own1.frozenAt _)
 have HW:=hid hW1
 have HOWN1:=hid own1;have HH:=hid (And.intro h1 h2);have HCL:=hid hcl;have HNW:=hid hnews;have HLEN:=hid hlen;have HJ:=hid hj
 have hjn:j≤n:=by omega
 have haj:a<j:=by omega
 have hak:a≤k:=by omega
 have hjk:j≤k:=by omega
 have haj2:¬ (a=j):=by omega
 clear hW1 own1 own0 h1 h2 h3 hget hnews hN hF hcell hlen hj HCL
 have mixed:Tryz.prog.follows .mixedOrders=true:=by kernel_rfl
 go_enter Tryz.func105,Tryz.ntmps105
 go_wp2_with fail
 go_region_law_o (refine step_append_room rfl (.tmp 22) (.tmp 25) 22 rfl 48 i0 8 Tryz.underlying22 hi0 hz1 g 0 a k (by simp [Act.eval,Act.put]) AD (n-j) (k-j) news (by simp [Act.eval,Act.put]) s1.out hsrc.out s2.out (by omega) s3.out ?_;rw [← HW.out])
 go_wp2
 go_ret
 have hj:=HJ.out
 refine ⟨by rw [show n-1=a+(n-j) by omega];rfl,?_,?_⟩
 · obtain ⟨h1,h2⟩:=HH.out
   have hx:=own_shrink (own_setCells Z8 HOWN1.out ((a+(n-j)) * 8)) (n-1) (by omega)
   have e:=del_list xs HLEN.out ha
   rw [HNW.out,show a+(n-j)=n-1 by omega,e] at hx
   have hW:∀ p (x:PAd),x.ok w p→x.far g p→x.ok (W1.setCells g ((a+(n-j)) * 8) Z8) p:=fun p x hok hfar=>ok_setCells hfar Z8 (by rw [HW.out];exact ok_setCells hfar news (hok.below ((Below.refl _ w).drew)) _) _
   refine ⟨xs.eraseIdx a,by rw [← h1,List.eraseIdx_eq_take_drop_succ,List.eraseIdx_eq_take_drop_succ,List.map_append,List.map_take,List.map_drop],fun x hxm=>?_,?_⟩
   · have hm:=List.mem_of_mem_eraseIdx hxm
     exact ⟨hW _ _ (h2 x hm).1 ((h2 x hm).2 g (Or.inl rfl)),(h2 x hm).2⟩
   · rw [show a+(n-j)=n-1 by omega]
     exact hx
 · exact below_setCells hgb Z8 (by rw [HW.out];exact below_setCells hgb news ((Below.refl base w).drew) _) _
end Go.Proofs.YtokpblmgdmokoaaGreat
