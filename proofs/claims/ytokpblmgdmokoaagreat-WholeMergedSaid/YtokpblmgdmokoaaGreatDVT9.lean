import Derived.Test.YtokpblmgdmokoaaGreatAVSrt
import Derived.Test.YtokpblmgdmokoaaGreatAVChk
import Derived.Test.YtokpblmgdmokoaaGreatAVIas
import Derived.Test.YtokpblmgdmokoaaGreatDVT8
set_option linter.unusedSimpArgs false
set_option linter.unusedVariables false
namespace Go.Proofs.YtokpblmgdmokoaaGreat
open Go.RowKit Go.Maps
theorem keeps_down {zs:List Int} {j:Nat} (hj:j<zs.length):∃ i,i<zs.length∧Lib.keeps zs.toArray i=true∧zs.toArray[i]! = zs.toArray[j]!:=by
 induction j with
 | zero=>exact ⟨0,hj,Lib.keeps_lt_one _ 0 (by omega),rfl⟩
 | succ j ih =>
  by_cases h:zs.toArray[j+1]! = zs.toArray[j]!
  · obtain ⟨i,h1,h2,h3⟩:=ih (by omega)
    exact ⟨i,h1,h2,by rw [h3,h]⟩
  · exact ⟨j+1,hj,Lib.keeps_pos (by simpa using h),rfl⟩
theorem mem_compact {zs:List Int} {x:Int}:x∈Lib.compact zs ↔ x∈zs:=by
 unfold Lib.compact Lib.compactUpTo
 simp only [List.mem_map,List.mem_filter,List.mem_range]
 constructor
 · rintro ⟨i,⟨hi,-⟩,rfl⟩
   rw [getElem!_pos _ i (by simpa using hi)]
   simp
 · intro hx
   obtain ⟨j,hj,rfl⟩:=List.getElem_of_mem hx
   obtain ⟨i,h1,h2,h3⟩:=keeps_down hj
   refine ⟨i,⟨h1,h2⟩,?_⟩
   rw [h3,getElem!_pos _ j (by simpa using hj)]
   simp
theorem mem_uniL {a b:List Int} {x:Int}:x∈uniL a b ↔ x∈a∨x∈b:=by
 unfold uniL
 rw [mem_compact,List.mem_mergeSort,List.mem_append]
theorem compact_asc {zs:List Int} (h:zs.Pairwise (·≤·)):(Lib.compact zs).Pairwise (· < ·):=by
 unfold Lib.compact Lib.compactUpTo
 rw [List.pairwise_map]
 have hr:(List.range zs.length).Pairwise (· < ·):=List.pairwise_lt_range
 have hf:=(hr.filter (Lib.keeps zs.toArray))
 refine (List.Pairwise.and_mem.1 hf).imp ?_
 rintro i j ⟨-,hj,hij⟩
 simp only [List.mem_filter,List.mem_range] at hj
 obtain ⟨hj,hk⟩:=hj
 have hle:∀ a b,a≤b→b<zs.length→zs.toArray[a]! ≤ zs.toArray[b]!:=by
  intro a b hab hb
  rw [getElem!_pos _ a (by simp;omega),getElem!_pos _ b (by simpa using hb)]
  simp only [List.getElem_toArray]
  rcases Nat.lt_or_eq_of_le hab with h1|rfl
  · exact List.pairwise_iff_getElem.1 h a b (by omega) hb h1
  · exact Int.le_refl _
 have hne:zs.toArray[j]! ≠ zs.toArray[j-1]!:=by
  intro e
  rw [Lib.keeps_neg (by omega) e] at hk
  cases hk
 have h1:=hle i (j-1) (by omega) (by omega)
 have h2:=hle (j-1) j (by omega) hj
 omega
theorem uniL_asc (a b:List Int):(uniL a b).Pairwise (· < ·):=by
 refine compact_asc ?_
 have:=List.pairwise_mergeSort (le:=fun x y:Int=>decide (x≤y)) (fun x y z h1 h2=>by simp only [decide_eq_true_eq] at *;omega) (fun x y=>by simp only [Bool.or_eq_true,decide_eq_true_eq];omega) (a++b)
 exact this.imp fun h=>by simpa using h
end Go.Proofs.YtokpblmgdmokoaaGreat
namespace Go.Proofs.YtokpblmgdmokoaaGreat
open Go.RowKit
theorem asc_nodup {l:List Int} {lo hi:Int} (h:ascN l lo hi=true):l.Nodup:=by
 induction l generalizing lo with
 | nil=>exact List.nodup_nil
 | cons n l ih =>
  simp only [ascN,Bool.and_eq_true] at h
  refine List.nodup_cons.2 ⟨fun hm=>?_,ih h.2⟩
  have:=(ascN_mem h.2 n hm).1
  omega
theorem nodup_sh {p:Prt} (h:prtB p=true):p.sh.Nodup:=asc_nodup (prtB_ok h).2.2.2.2.2.2.1
def mxV (l:List Int):Nat→Int
 | 0=>0
 | a+1=>max (mxV l a) (l.getD a 0+1)
theorem mxV_mono (l:List Int) {a b:Nat} (h:a≤b):mxV l a≤mxV l b:=by
 induction h with
 | refl=>exact Int.le_refl _
 | step _ ih=>exact Int.le_trans ih (Int.le_max_left _ _)
theorem mxV_at (l:List Int) {a b:Nat} (h:a<b):l.getD a 0+1≤mxV l b:=by
 have h1:=mxV_mono l (show a+1≤b from h)
 have h2:mxV l (a+1)=max (mxV l a) (l.getD a 0+1):=rfl
 omega
theorem asS_iff (ps:List Prt) (l:List Int):∀ (r a:Nat) (V:Int),asS ps l r a (mxV l a)=some V ↔ ((∀ i,a≤i→i<a+r→0≤l.getD i 0∧l.getD i 0≤mxV l i∧rowA ps l i (l.getD i 0) i=false)∧V=mxV l (a+r))
 | 0,a,V=>by
  simp only [asS,Option.some.injEq,Nat.add_zero]
  exact ⟨fun h=>⟨fun i h1 h2=>by omega,h.symm⟩,fun h=>h.2.symm⟩
 | r+1,a,V=>by
  rw [asS_succ]
  have ih:=asS_iff ps l r (a+1) V
  rw [mxV] at ih
  by_cases h1:l.getD a 0<0∨mxV l a<l.getD a 0
  · rw [if_pos h1]
    constructor
    · intro h;cases h
    · rintro ⟨h,-⟩
      have:=h a (Nat.le_refl _) (by omega)
      omega
  · rw [if_neg h1]
    cases h2:rowA ps l a (l.getD a 0) a
    · rw [if_neg (by simp),ih,show a+1+r=a+(r+1) by omega]
      refine and_congr_left fun _=>?_
      constructor
      · intro h i hi hi2
        rcases Nat.lt_or_eq_of_le hi with h3|rfl
        · exact h i h3 hi2
        · exact ⟨by omega,by omega,h2⟩
      · intro h i hi hi2
        exact h i (by omega) hi2
    · rw [if_pos rfl]
      constructor
      · intro h;cases h
      · rintro ⟨h,-⟩
        have:=(h a (Nat.le_refl _) (by omega)).2.2
        rw [h2] at this;cases this
theorem rowA_no {ps:List Prt} {l:List Int} {a:Nat}:rowA ps l a (l.getD a 0) a=false ↔ ∀ i,i<a→l.getD i 0=l.getD a 0→clN ps a i=false:=by
 unfold rowA
 rw [List.any_eq_false]
 constructor
 · intro h i hi he
   have:=h i (List.mem_range.2 hi)
   rw [decide_eq_true he,Bool.true_and] at this
   simpa using this
 · intro h i hi
   by_cases he:l.getD i 0=l.getD a 0
   · rw [h i (List.mem_range.1 hi) he];simp
   · rw [decide_eq_false he];simp
theorem isAB_iff {ps:List Prt} {lim:Int} {l:List Int} {n:Nat} (hn:ps.length=n):isAB ps lim l=true ↔ l.length=n∧(∀ i,i<n→0≤l.getD i 0∧l.getD i 0≤mxV l i)∧(∀ i j,i<n→j<n→l.getD i 0=l.getD j 0→i≠j→apB (ps.getD i default) (ps.getD j default)=false)∧(lim=0∨mxV l n≤lim):=by
 unfold isAB
 rw [hn,Bool.and_eq_true,decide_eq_true_eq]
 refine and_congr_right fun _=>?_
 have key:=fun V=>asS_iff ps l n 0 V
 simp only [mxV,Nat.zero_add,Nat.zero_le,true_implies] at key
 have hrow:(∀ i,i<n→rowA ps l i (l.getD i 0) i=false) ↔ (∀ i j,i<n→j<n→l.getD i 0=l.getD j 0→i≠j→apB (ps.getD i default) (ps.getD j default)=false):=by
  constructor
  · intro h
    have half:∀ i j,i<n→j<i→l.getD i 0=l.getD j 0→apB (ps.getD i default) (ps.getD j default)=false:=by
     intro i j hi hj he
     have:=rowA_no.1 (h i hi) j hj he.symm
     unfold clN at this
     rwa [decide_eq_true (by omega),Bool.true_and] at this
    intro i j hi hj he hne
    rcases Nat.lt_or_gt_of_ne hne with h1|h1
    · rw [apB_comm];exact half j i hj h1 he.symm
    · exact half i j hi h1 he
  · intro h i hi
    rw [rowA_no]
    intro j hj he
    unfold clN
    rw [decide_eq_true (by omega),Bool.true_and]
    exact h i j hi (by omega) he.symm (by omega)
 cases hs:asS ps l n 0 0 with
 | none =>
  constructor
  · intro h;cases h
  · rintro ⟨h1,h2,-⟩
    have:=(key (mxV l n)).2 ⟨fun i hi=>⟨(h1 i hi).1,(h1 i hi).2,hrow.2 h2 i hi⟩,rfl⟩
    rw [hs] at this;cases this
 | some V =>
  obtain ⟨h1,rfl⟩:=(key V).1 hs
  have h2:=hrow.1 fun i hi=>(h1 i hi).2.2
  simp only [Bool.or_eq_true,decide_eq_true_eq]
  exact ⟨fun h=>⟨fun i hi=>⟨(h1 i hi).1,(h1 i hi).2.1⟩,h2,h⟩,fun h=>h.2.2⟩
def allV (v:List Int) (lo h n:Nat):List Int:=(List.range n).map fun i=>v.getD (tau lo h i) 0
theorem allV_at {v:List Int} {lo h n i:Nat} (hi:i<n):(allV v lo h n).getD i 0=v.getD (tau lo h i) 0:=by
 unfold allV
 rw [List.getD_eq_getElem?_getD,List.getElem?_map,List.getElem?_range hi];rfl
theorem allV_low {v:List Int} {lo h n:Nat} (hh:h<n):∀ i,i≤h→mxV (allV v lo h n) i=mxV v i
 | 0,_=>rfl
 | i+1,hi=>by
  rw [mxV,mxV,allV_low hh i (by omega),allV_at (by omega)]
  unfold tau
  rw [if_neg (by omega),if_neg (by omega)]
theorem allV_high {v:List Int} {lo h n:Nat} (hlo:lo<h) (hh:h<n):∀ i,h≤i→i<n→mxV (allV v lo h n) (i+1)=mxV v i:=by
 intro i hi
 induction hi with
 | refl =>
  intro _
  rw [mxV,allV_low hh _ (Nat.le_refl _),allV_at hh]
  unfold tau
  rw [if_pos rfl]
  have:=mxV_at v hlo
  omega
 | step hi ih =>
  rename_i m
  intro hm
  have hi':h≤m:=hi
  rw [mxV,ih (by omega),allV_at hm,mxV]
  unfold tau
  rw [if_neg (by omega),if_pos (by omega)]
  simp only [Nat.succ_eq_add_one,Nat.add_sub_cancel]
theorem merged_assign {ps:List Prt} {a b n:Nat} {lim:Int} {v:List Int} (hn:ps.length=n) (ha:a<n) (hb:b<n) (hab:a≠b) (hcl:clN ps a b=false) (h:isAB (jntL ps a b) lim v=true):v.length=n-1∧isAB ps lim (allV v (min a b) (max a b) n)=true:=by
 have hm:max a b<n:=by omega
 have hlo:min a b<max a b:=by omega
 rw [isAB_iff (jnt_len hn hm)] at h
 obtain ⟨h1,h2,h3,h4⟩:=h
 refine ⟨h1,?_⟩
 rw [isAB_iff hn]
 refine ⟨by unfold allV;simp,fun i hi=>?_,fun i j hi hj he hij=>?_,?_⟩
 · rw [allV_at hi]
   have ht:=h2 _ (tau_lt hm hab hi)
   refine ⟨ht.1,Int.le_trans ht.2 ?_⟩
   by_cases e:i≤max a b
   · rw [allV_low hm i e]
     refine mxV_mono v ?_
     unfold tau;split
     · omega
     · split<;>omega
   · obtain ⟨j,rfl⟩:∃ j,i=j+1:=⟨i-1,by omega⟩
     rw [allV_high hlo hm j (by omega) (by omega)]
     refine mxV_mono v ?_
     unfold tau;split
     · omega
     · split<;>omega
 · rw [allV_at hi,allV_at hj] at he
   exact jnt_two hn ha hb hab hcl (f:=fun i=>v.getD i 0) h3 hi hj hij he
 · refine h4.imp_right fun h5=>?_
   obtain ⟨m,rfl⟩:∃ m,n=m+1:=⟨n-1,by omega⟩
   rw [allV_high hlo hm m (by omega) (by omega)]
   exact h5
theorem uniL_asc2 {a b:List Int} {lo hi:Int} (h:∀ x,x∈a∨x∈b→lo≤x∧x≤hi):ascN (uniL a b) lo hi=true:=by
 have h1:=uniL_asc a b
 have h2:∀ x∈uniL a b,lo≤x∧x≤hi:=fun x hx=>h x (mem_uniL.1 hx)
 generalize uniL a b=l at h1 h2
 clear h
 induction l generalizing lo with
 | nil=>rfl
 | cons x l ih =>
  obtain ⟨p1,p2⟩:=List.pairwise_cons.1 h1
  have hx:=h2 x List.mem_cons_self
  unfold ascN inR
  rw [decide_eq_true hx.1,decide_eq_true hx.2,ih p2 (fun y hy=>⟨by have:=p1 y hy;omega,(h2 y (List.mem_cons_of_mem _ hy)).2⟩)]
  rfl
theorem prtB_all {p:Prt}:prtB p=true ↔ (1≤p.sh.length∧p.sh.length≤40)∧ascN p.sh 1 1000000=true∧p.rs.length≤200∧ascN p.rs 1 1000000=true∧0≤p.lo∧p.lo≤p.hi∧p.hi≤1000∧byB p.lb (p.lo != 0)=true∧byB p.hb (p.hi != 1000)=true∧byB p.fb p.ft=true:=by
 simp only [prtB,Bool.and_eq_true,inR,decide_eq_true_eq]
 constructor
 · rintro ⟨⟨⟨⟨⟨⟨⟨⟨⟨⟨h1,h1'⟩,h2⟩,h3⟩,h4⟩,h5⟩,h6⟩,h7⟩,h8⟩,h9⟩,h10⟩
   exact ⟨⟨by omega,by omega⟩,h2,h3,h4,h5,h6,h7,h8,h9,h10⟩
 · rintro ⟨⟨h1,h1'⟩,h2,h3,h4,h5,h6,h7,h8,h9,h10⟩
   exact ⟨⟨⟨⟨⟨⟨⟨⟨⟨⟨by omega,by omega⟩,h2⟩,h3⟩,h4⟩,h5⟩,h6⟩,h7⟩,h8⟩,h9⟩,h10⟩
theorem prt_mrg {p q:Prt} (hp:prtB p=true) (hq:prtB q=true) (hcl:apB p q=false) (h1:(mrgP p q).sh.length≤40) (h2:(mrgP p q).rs.length≤200):prtB (mrgP p q)=true:=by
 rw [prtB_all] at hp hq ⊢
 obtain ⟨⟨p1,p1'⟩,p2,p3,p4,p5,p6,p7,p8,p9,p10⟩:=hp
 obtain ⟨⟨q1,q1'⟩,q2,q3,q4,q5,q6,q7,q8,q9,a0⟩:=hq
 obtain ⟨-,c2,c3⟩:=apB_no.1 hcl
 refine ⟨⟨?_,h1⟩,uniL_asc2 fun x hx=>hx.elim (ascN_mem p2 x) (ascN_mem q2 x),h2,uniL_asc2 fun x hx=>hx.elim (ascN_mem p4 x) (ascN_mem q4 x),?_,?_,?_,?_,?_,?_⟩
 · show 1≤(uniL p.sh q.sh).length
   match hsh:p.sh,p1 with
   | x::l,_=>exact List.length_pos_of_mem (mem_uniL.2 (.inl (List.mem_cons_self (a:=x) (l:=l))))
 · unfold mrgP;dsimp only;split<;>omega
 · unfold mrgP;dsimp only;split<;>split<;>omega
 · unfold mrgP;dsimp only;split<;>omega
 · unfold mrgP;dsimp only;split
   · exact q8
   · exact p8
 · unfold mrgP;dsimp only;split
   · exact q9
   · exact p9
 · unfold mrgP;dsimp only
   cases hf:q.ft
   · rw [if_neg (by simp),Bool.or_false];exact p10
   · rw [if_pos rfl,Bool.or_true];rw [hf] at a0;exact a0
theorem ids_nodup {l:List Prt}:(idsP l).Nodup ↔ (∀ p∈l,p.sh.Nodup)∧∀ i j,i<l.length→j<l.length→i≠j→∀ x∈(l.getD i default).sh,x ∉ (l.getD j default).sh:=by
 unfold idsP List.Nodup
 rw [List.pairwise_flatMap]
 refine and_congr_right fun _=>?_
 rw [List.pairwise_iff_getElem]
 have hg:∀ i (h:i<l.length),l.getD i default=l[i]:=fun i h=>by rw [List.getD_eq_getElem?_getD,List.getElem?_eq_getElem h];rfl
 constructor
 · intro h i j hi hj hij x hx hx2
   rw [hg i hi] at hx
   rw [hg j hj] at hx2
   rcases Nat.lt_or_gt_of_ne hij with h1|h1
   · exact h i j hi hj h1 x hx x hx2 rfl
   · exact h j i hj hi h1 x hx2 x hx rfl
 · intro h i j hi hj hij x hx y hy e
   subst e
   refine h i j hi hj (by omega) x ?_ ?_
   · rw [hg i hi];exact hx
   · rw [hg j hj];exact hy
theorem chk_jnt {ware:ByteArray} {lim by_:Int} {ps:List Prt} {a b n:Nat} (hn:ps.length=n) (ha:a<n) (hb:b<n) (hab:a≠b) (hcl:clN ps a b=false) (hc:chkC ⟨ware,lim,by_,ps⟩=0)
 (h1:(mrgP (ps.getD (min a b) default) (ps.getD (max a b) default)).sh.length≤40) (h2:(mrgP (ps.getD (min a b) default) (ps.getD (max a b) default)).rs.length≤200):chkC ⟨ware,lim,by_,jntL ps a b⟩=0:=by
 have hm:max a b<n:=by omega
 have hl:=jnt_len hn hm
 obtain ⟨c1,c2,c3,c4,c5,c6,c7⟩:=chkC_ok hc
 dsimp only at c1 c2 c3 c4 c5 c6 c7
 have hap:apB (ps.getD (min a b) default) (ps.getD (max a b) default)=false:=by
  unfold clN at hcl
  rw [decide_eq_true hab,Bool.true_and] at hcl
  rcases Nat.lt_or_gt_of_ne hab with h|h
  · rw [show min a b=a by omega,show max a b=b by omega];exact hcl
  · rw [show min a b=b by omega,show max a b=a by omega,apB_comm];exact hcl
 have hgm:∀ i,i<n→ps.getD i default∈ps:=fun i hi=>List.mem_of_getElem? (getD_some (by omega))
 have hpm:=prt_mrg (c6 _ (hgm _ (by omega))) (c6 _ (hgm _ hm)) hap h1 h2
 have hall:∀ p∈jntL ps a b,prtB p=true:=jntL_mem (P:=fun p=>prtB p=true) c6 hpm
 have hnd:(idsP (jntL ps a b)).Nodup:=by
  rw [ids_nodup] at c7 ⊢
  obtain ⟨d1,d2⟩:=c7
  refine ⟨fun p hp=>nodup_sh (hall p hp),fun i j hi hj hij x hx hx2=>?_⟩
  rw [hl] at hi hj
  have hsub:∀ i,i<n-1→x∈((jntL ps a b).getD i default).sh→∃ k,k<n∧tau (min a b) (max a b) k=i∧x∈(ps.getD k default).sh:=by
   intro i hi hx
   rw [jnt_at hn hm hab hi] at hx
   by_cases e:i=min a b
   · rw [if_pos e] at hx
     rcases mem_uniL.1 hx with hx|hx
     · exact ⟨min a b,by omega,by unfold tau;rw [if_neg (by omega),if_neg (by omega),e],hx⟩
     · exact ⟨max a b,hm,by unfold tau;rw [if_pos rfl,e],hx⟩
   · rw [if_neg e] at hx
     refine ⟨sgm (max a b) i,by unfold sgm;split<;>omega,?_,hx⟩
     unfold tau sgm
     split<;>(try split)<;>(try split)<;>omega
  obtain ⟨k1,e1,t1,x1⟩:=hsub i hi hx
  obtain ⟨k2,e2,t2,x2⟩:=hsub j hj hx2
  exact d2 k1 k2 (by omega) (by omega) (fun e=>hij (by rw [← t1,← t2,e])) x x1 x2
 unfold chkC
 dsimp only
 rw [if_neg (by omega),c2,show inR lim 0 40=true by unfold inR;rw [decide_eq_true c3,decide_eq_true c4];rfl,c5]
 rw [if_pos (show (true&&true&&true)=true from rfl),goodP_ok hall hnd]
 rfl
end Go.Proofs.YtokpblmgdmokoaaGreat
