import Derived.Test.YtokpblmgdmokoaaGreatFVT6
set_option linter.unusedSimpArgs false
set_option linter.unusedVariables false
namespace Go.Proofs.YtokpblmgdmokoaaGreat
open Go.Sort Go.Shelf
theorem swo_cmpH (ps:List Prt) (N:Nat):SWO (ltOf (cmpH ps N)):=by
 have e:∀ x y,ltOf (cmpH ps N) x y=decide (hiA ps x.val<hiA ps y.val):=by
  intro x y
  unfold ltOf cmpH Lib.compareInt
  refine decide_eq_decide.2 ?_
  split<;>(try split)<;>omega
 refine ⟨fun x=>?_,fun x y z=>?_,fun x y z=>?_⟩
 · rw [e];exact decide_eq_false (Int.lt_irrefl _)
 · rw [e,e,e];simp only [decide_eq_true_eq];omega
 · rw [e,e,e];simp only [decide_eq_false_iff_not];omega
theorem hiP_fin (ps:List Prt) {N:Nat} (i:Fin (N+1)):hiP ps (finI i)=hiA ps i.val:=rfl
theorem srtL_facts {ps:List Prt} {l:List Int} (hl:∀ x∈l,∃ a:Nat,x=a∧a<ps.length):(∀ x,x∈srtL ps l ↔ x∈l)∧ByHi ps (srtL ps l):=by
 cases hN:ps.length with
 | zero =>
  have hnil:l=[]:=List.eq_nil_iff_forall_not_mem.2 (fun x hx=>by obtain ⟨a,-,h⟩:=hl x hx;omega)
  have e:srtL ps l=l:=by unfold srtL;rw [hN]
  rw [e,hnil]
  exact ⟨fun x=>Iff.rfl,List.Pairwise.nil⟩
 | succ N =>
  have hl':∀ x∈l,∃ a:Nat,x=a∧a<N+1:=fun x hx=>by obtain ⟨a,h1,h2⟩:=hl x hx;exact ⟨a,h1,by omega⟩
  have e:srtL ps l=(Sort.insertionSort (ltOf (cmpH ps N)) (toF N l) 0 l.length).toList.map finI:=by
   unfold srtL;rw [hN];dsimp only;rw [srtA_eq]
  have hsz:(toF N l).size=l.length:=by unfold toF;simp
  obtain ⟨⟨p1,-,p3⟩,p4⟩:=insertionSort_holds (swo_cmpH ps N) (toF N l) 0 l.length (Nat.zero_le _) (by rw [hsz];exact Nat.le_refl _)
  have hb:=toF_back hl'
  generalize Sort.insertionSort (ltOf (cmpH ps N)) (toF N l) 0 l.length=d' at e p1 p3 p4
  have x1:d'.extract 0 l.length=d':=by rw [← hsz,← p1,Array.extract_size]
  have x2:(toF N l).extract 0 l.length=toF N l:=by rw [← hsz,Array.extract_size]
  rw [x1,x2] at p3
  rw [e]
  constructor
  · intro x
    rw [List.mem_map]
    conv=>rhs;rw [← hb,List.mem_map]
    constructor
    · rintro ⟨i,hi,rfl⟩;exact ⟨i,p3.mem_iff.1 hi,rfl⟩
    · rintro ⟨i,hi,rfl⟩;exact ⟨i,p3.mem_iff.2 hi,rfl⟩
  · unfold ByHi
    rw [List.pairwise_map,List.pairwise_iff_getElem]
    intro i j hi hj hij
    rw [hiP_fin,hiP_fin]
    have hi':i<d'.size:=by simpa using hi
    have hj':j<d'.size:=by simpa using hj
    have h:=p4 i j (Nat.zero_le _) hij (by rw [← hsz,← p1];exact hj')
    rw [getElem!_pos d' i hi',getElem!_pos d' j hj'] at h
    unfold ltOf cmpH Lib.compareInt at h
    rw [decide_eq_false_iff_not] at h
    simp only [Array.getElem_toList]
    split at h
    · exact absurd (by decide) h
    · omega
theorem choN_true (ps:List Prt) (n:Nat):choN (fun _=>true) ps n=(List.range n).map fun b:Nat=>(b:Int):=by
 unfold choN;rw [List.filter_eq_self.2 (fun _ _=>rfl)]
def ColA (ps:List Prt) (k:Nat):Prop:=∃ f:Nat→Nat,(∀ i,i<ps.length→f i<k)∧∀ i j,i<ps.length→j<ps.length→f i=f j→i≠j→apB (ps.getD i default) (ps.getD j default)=false
theorem colA_iff {ps:List Prt} {k:Nat} {l:List Int} (hl:∀ x,x∈l ↔ ∃ a:Nat,x=a∧a<ps.length):Col ps l k ↔ ColA ps k:=by
 constructor
 · rintro ⟨f,h1,h2⟩
   refine ⟨fun i=>f i,fun i hi=>h1 i ((hl _).2 ⟨i,rfl,hi⟩),fun i j hi hj h hne=>?_⟩
   have:=h2 i ((hl _).2 ⟨i,rfl,hi⟩) j ((hl _).2 ⟨j,rfl,hj⟩) h
   unfold clB ptA at this
   rw [decide_eq_true (by omega),Bool.true_and,Int.toNat_natCast,Int.toNat_natCast] at this
   exact this
 · rintro ⟨f,h1,h2⟩
   refine ⟨fun x=>f x.toNat,fun x hx=>?_,fun x hx y hy h=>?_⟩
   · obtain ⟨a,rfl,ha⟩:=(hl x).1 hx
     exact h1 a ha
   · obtain ⟨a,rfl,ha⟩:=(hl x).1 hx
     obtain ⟨b,rfl,hb⟩:=(hl y).1 hy
     have h:f a=f b:=by simpa using h
     by_cases e:a=b
     · subst e;exact clB_self _ _
     · unfold clB ptA
       rw [decide_eq_true (by omega),Bool.true_and,Int.toNat_natCast,Int.toNat_natCast]
       exact h2 a b ha hb h e
theorem ves_facts (ps:List Prt):(∀ x,x∈srtL ps (choN (fun _=>true) ps ps.length) ↔ ∃ a:Nat,x=a∧a<ps.length)∧ByHi ps (srtL ps (choN (fun _=>true) ps ps.length)):=by
 have hm:∀ x,x∈choN (fun _=>true) ps ps.length ↔ ∃ a:Nat,x=a∧a<ps.length:=by
  intro x
  rw [choN_true,List.mem_map]
  constructor
  · rintro ⟨a,ha,rfl⟩;exact ⟨a,rfl,List.mem_range.1 ha⟩
  · rintro ⟨a,rfl,ha⟩;exact ⟨a,List.mem_range.2 ha,rfl⟩
 obtain ⟨h1,h2⟩:=srtL_facts (fun x hx=>(hm x).1 hx)
 exact ⟨fun x=>(h1 x).trans (hm x),h2⟩
theorem srtL_length {ps:List Prt} (l:List Int):(srtL ps l).length=l.length:=by
 unfold srtL
 split
 · rfl
 · rename_i N _
   rw [List.length_map,Array.length_toList]
   unfold srtA
   rw [size_insF]
   unfold toF;simp
theorem ves_least {ps:List Prt} (hw:∀ p∈ps,p.lo≤p.hi) {k:Nat} (h:ColA ps k):(vesL ps).length≤k:=by
 obtain ⟨h1,h2⟩:=ves_facts ps
 unfold vesL
 refine vesF_least _ _ (by rw [srtL_length,choN_all];exact Nat.le_refl _) h2 (fun x hx=>?_) k ((colA_iff h1).2 h)
 obtain ⟨a,rfl,ha⟩:=(h1 x).1 hx
 exact hw _ (ptA_mem ha)
theorem ves_col (ps:List Prt):ColA ps (vesL ps).length:=by
 obtain ⟨h1,h2⟩:=ves_facts ps
 refine (colA_iff h1).1 ?_
 unfold vesL
 exact vesF_col _ _ (by rw [srtL_length,choN_all];exact Nat.le_refl _) h2
def CZ (ps:List Prt) (k:Nat):Prop:=∃ Z:List (Prt × Nat),Z.map (·.1)=ps∧(∀ z∈Z,z.2<k)∧Z.Pairwise fun a b=>a.2=b.2→apB a.1 b.1=false
theorem colA_CZ {ps:List Prt} {k:Nat}:ColA ps k ↔ CZ ps k:=by
 constructor
 · rintro ⟨f,h1,h2⟩
   refine ⟨(List.range ps.length).map fun i=>(ps.getD i default,f i),?_,?_,?_⟩
   · rw [List.map_map]
     refine List.ext_getElem (by simp) fun i hi hj=>?_
     simp only [List.getElem_map,List.getElem_range,Function.comp]
     rw [List.getD_eq_getElem?_getD,List.getElem?_eq_getElem hj];rfl
   · intro z hz
     obtain ⟨i,hi,rfl⟩:=List.mem_map.1 hz
     exact h1 i (List.mem_range.1 hi)
   · rw [List.pairwise_map,List.pairwise_iff_getElem]
     intro i j hi hj hij
     simp only [List.getElem_range]
     intro h
     rw [List.length_range] at hi hj
     exact h2 i j hi hj h (Nat.ne_of_lt hij)
 · rintro ⟨Z,rfl,h1,h2⟩
   have hg:∀ i,i<Z.length→(Z.map (·.1)).getD i default=(Z.getD i default).1:=by
    intro i hi
    rw [List.getD_eq_getElem?_getD,List.getElem?_map,List.getD_eq_getElem?_getD,List.getElem?_eq_getElem hi];rfl
   have hm:∀ i,i<Z.length→Z.getD i default∈Z:=by
    intro i hi
    rw [List.getD_eq_getElem?_getD,List.getElem?_eq_getElem hi];exact List.getElem_mem hi
   refine ⟨fun i=>(Z.getD i default).2,fun i hi=>?_,fun i j hi hj h hne=>?_⟩
   · rw [List.length_map] at hi;exact h1 _ (hm i hi)
   · rw [List.length_map] at hi hj
     rw [hg i hi,hg j hj]
     dsimp only at h
     rw [List.pairwise_iff_getElem] at h2
     rw [List.getD_eq_getElem?_getD,List.getElem?_eq_getElem hi,List.getD_eq_getElem?_getD,List.getElem?_eq_getElem hj] at h ⊢
     rcases Nat.lt_or_gt_of_ne hne with hlt|hlt
     · exact h2 i j hi hj hlt h
     · rw [apB_comm];exact h2 j i hj hi hlt h.symm
theorem perm_lift {α β:Type} {l l':List α} (h:l.Perm l'):∀ Z:List (α × β),Z.map (·.1)=l→∃ Z':List (α × β),Z.Perm Z'∧Z'.map (·.1)=l':=by
 induction h with
 | nil=>intro Z hZ;exact ⟨Z,List.Perm.refl _,hZ⟩
 | cons x _ ih =>
  intro Z hZ
  match Z,hZ with
  | z::Z,hZ =>
   rw [List.map_cons] at hZ
   injection hZ with h1 h2
   obtain ⟨Z',p,e⟩:=ih Z h2
   exact ⟨z::Z',p.cons z,by rw [List.map_cons,h1,e]⟩
 | swap x y l =>
  intro Z hZ
  match Z,hZ with
  | a::b::Z,hZ =>
   rw [List.map_cons,List.map_cons] at hZ
   injection hZ with h1 h2
   injection h2 with h2 h3
   exact ⟨b::a::Z,List.Perm.swap b a Z,by rw [List.map_cons,List.map_cons,h1,h2,h3]⟩
 | trans _ _ ih1 ih2 =>
  intro Z hZ
  obtain ⟨Z1,p1,e1⟩:=ih1 Z hZ
  obtain ⟨Z2,p2,e2⟩:=ih2 Z1 e1
  exact ⟨Z2,p1.trans p2,e2⟩
theorem CZ.perm {ps ps':List Prt} {k:Nat} (h:CZ ps k) (hp:ps.Perm ps'):CZ ps' k:=by
 obtain ⟨Z,e,h1,h2⟩:=h
 obtain ⟨Z',p,e'⟩:=perm_lift hp Z e
 refine ⟨Z',e',fun z hz=>h1 z (p.mem_iff.2 hz),(p.pairwise_iff (fun {a b} hab h=>?_)).1 h2⟩
 rw [apB_comm];exact hab h.symm
theorem ves_perm {ps ps':List Prt} (hw:∀ p∈ps,p.lo≤p.hi) (hp:ps.Perm ps'):(vesL ps).length=(vesL ps').length:=by
 have h1:=ves_least hw (colA_CZ.2 ((colA_CZ.1 (ves_col ps')).perm hp.symm))
 have h2:=ves_least (fun p h=>hw p (hp.mem_iff.2 h)) (colA_CZ.2 ((colA_CZ.1 (ves_col ps)).perm hp))
 omega
end Go.Proofs.YtokpblmgdmokoaaGreat
