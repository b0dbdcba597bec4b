import Derived.DeepKeys4
import Derived.Maps.OwnIn
import Derived.Test.YtokpblmgdmokoaaGreatAVMem
import Derived.Laws.AppendOwnNone
import Derived.Shelf.Slices.Cells
import Derived.Shelf.Slices.Clone
import Derived.Shelf.Slices.In.SortNone
import Derived.Shelf.SlicesE.Clone
import Derived.Shelf.Sort.Plain
import Derived.Shelf.Spec.SlicesGrow
import Derived.Sort.OwnSortedInts
import Derived.Test.YtokpblmgdmokoaaGreatAVSeq
set_option linter.unusedSimpArgs false
set_option linter.unusedVariables false
namespace Go.Proofs.YtokpblmgdmokoaaGreat
open Go.RowKit
theorem ptA_at {ps:List Prt} {a:Nat} {p:Prt} (h:ps[a]?=some p):ptA ps (a:Int)=p:=by
 unfold ptA;rw [Int.toNat_natCast,List.getD_eq_getElem?_getD,h];rfl
theorem clB_self (ps:List Prt) (x:Int):clB ps x x=false:=by simp [clB]
theorem apB_comm (p q:Prt):apB p q=apB q p:=by
 unfold apB
 cases p.ft<;>cases q.ft<;>simp [Bool.or_comm]
theorem clB_comm (ps:List Prt) (x y:Int):clB ps x y=clB ps y x:=by
 unfold clB
 rw [apB_comm,show decide (x≠y)=decide (y≠x) from decide_eq_decide.2 ⟨Ne.symm,Ne.symm⟩]
theorem ptA_mem {ps:List Prt} {a:Nat} (h:a<ps.length):ptA ps (a:Int)∈ps:=by
 rw [ptA_at (List.getElem?_eq_getElem h)];exact List.getElem_mem h
def Col (ps:List Prt) (l:List Int) (k:Nat):Prop:=∃ f:Int→Nat,(∀ x∈l,f x<k)∧∀ x∈l,∀ y∈l,f x=f y→clB ps x y=false
def hiP (ps:List Prt) (x:Int):Int:=(ptA ps x).hi
def ByHi (ps:List Prt) (l:List Int):Prop:=l.Pairwise fun x y=>hiP ps x≤hiP ps y
theorem hitL_no {ps:List Prt} {p:Int} {v:List Int} (h:hitL ps p v=false):∀ q∈v,clB ps p q=false:=by
 intro q hq
 unfold hitL at h
 rw [List.any_eq_false] at h
 simpa using h q hq
theorem hitL_yes {ps:List Prt} {p:Int} {v:List Int} (h:hitL ps p v=true):∃ q∈v,clB ps p q=true:=by
 unfold hitL at h
 exact List.any_eq_true.1 h
structure TkI (ps:List Prt) (s v r:List Int):Prop where
 mem:∀ x,x∈s ↔ (x∈v∨x∈r)
 free:∀ x∈v,∀ y∈v,clB ps x y=false
 hit:∀ y∈r,∃ u∈v,clB ps u y=true∧hiP ps u≤hiP ps y
 ord:ByHi ps r
theorem tk_inv (ps:List Prt) (l:List Int):∀ (s v r:List Int),ByHi ps (s++l)→TkI ps s v r→TkI ps (s++l) (l.foldl (tkS ps) (v,r)).1 (l.foldl (tkS ps) (v,r)).2∧(∀ x∈v,x∈(l.foldl (tkS ps) (v,r)).1):=by
 induction l with
 | nil =>
  intro s v r _ h
  rw [List.append_nil]
  exact ⟨h,fun x hx=>hx⟩
 | cons p l ih =>
  intro s v r hs h
  have hs':ByHi ps ((s++[p])++l):=by rw [List.append_assoc];exact hs
  have hle:∀ x∈s,hiP ps x≤hiP ps p:=fun x hx=>(List.pairwise_append.1 hs).2.2 x hx p List.mem_cons_self
  rw [List.foldl_cons,show s++p::l=(s++[p])++l by rw [List.append_assoc];rfl]
  cases hh:hitL ps p v
  · have e:tkS ps (v,r) p=(v++[p],r):=by unfold tkS;rw [hh];rfl
    rw [e]
    have hno:=hitL_no hh
    obtain ⟨a1,a2⟩:=ih (s++[p]) (v++[p]) r hs' ⟨fun x=>by
     rw [List.mem_append,List.mem_append,h.mem x,List.mem_singleton]
     constructor
     · rintro ((h|h)|h)
       · exact .inl (.inl h)
       · exact .inr h
       · exact .inl (.inr h)
     · rintro ((h|h)|h)
       · exact .inl (.inl h)
       · exact .inr h
       · exact .inl (.inr h),
     fun x hx y hy=>by
      rcases List.mem_append.1 hx with hx|hx<;>rcases List.mem_append.1 hy with hy|hy
      · exact h.free x hx y hy
      · rw [List.mem_singleton.1 hy,clB_comm];exact hno x hx
      · rw [List.mem_singleton.1 hx];exact hno y hy
      · rw [List.mem_singleton.1 hx,List.mem_singleton.1 hy];exact clB_self _ _,
     fun y hy=>by obtain ⟨u,hu,h1⟩:=h.hit y hy;exact ⟨u,List.mem_append_left _ hu,h1⟩,h.ord⟩
    exact ⟨a1,fun x hx=>a2 x (List.mem_append_left _ hx)⟩
  · have e:tkS ps (v,r) p=(v,r++[p]):=by unfold tkS;rw [hh];rfl
    rw [e]
    obtain ⟨q,hq,hcl⟩:=hitL_yes hh
    refine ih (s++[p]) v (r++[p]) hs' ⟨fun x=>by
     rw [List.mem_append,List.mem_append,h.mem x,List.mem_singleton,or_assoc],h.free,fun y hy=>?_,?_⟩
    · rcases List.mem_append.1 hy with hy|hy
      · exact h.hit y hy
      · obtain rfl:=List.mem_singleton.1 hy
        exact ⟨q,hq,by rw [clB_comm];exact hcl,hle q ((h.mem q).2 (.inl hq))⟩
    · unfold ByHi
      rw [List.pairwise_append]
      refine ⟨h.ord,List.pairwise_singleton _ _,fun x hx y hy=>?_⟩
      obtain rfl:=List.mem_singleton.1 hy
      exact hle x ((h.mem x).2 (.inr hx))
theorem takeL_inv {ps:List Prt} {l:List Int} (h:ByHi ps l):TkI ps l (takeL ps l).1 (takeL ps l).2:=by
 have:=(tk_inv ps l [] [] [] h ⟨by simp,by simp,by simp,List.Pairwise.nil⟩).1
 simpa [takeL] using this
theorem takeL_head {ps:List Prt} {p:Int} {l:List Int} (h:ByHi ps (p::l)):p∈(takeL ps (p::l)).1:=by
 unfold takeL
 rw [List.foldl_cons]
 have e:tkS ps ([],[]) p=([p],[]):=by unfold tkS hitL;simp
 rw [e]
 refine (tk_inv ps l [p] [p] [] h ⟨by simp,?_,by simp,List.Pairwise.nil⟩).2 p (by simp)
 intro x hx y hy
 obtain rfl:=List.mem_singleton.1 hx
 obtain rfl:=List.mem_singleton.1 hy
 exact clB_self _ _
theorem clB_no {ps:List Prt} {x y:Int} (hne:x≠y) (h:clB ps x y=false):¬ ((ptA ps x).ft=true∧(ptA ps y).ft=true)∧(ptA ps y).lo≤hiP ps x∧(ptA ps x).lo≤hiP ps y:=by
 unfold clB apB at h
 rw [decide_eq_true hne,Bool.true_and,Bool.or_eq_false_iff,Bool.or_eq_false_iff,decide_eq_false_iff_not,decide_eq_false_iff_not] at h
 unfold hiP
 refine ⟨fun ⟨a,b⟩=>?_,by omega,by omega⟩
 rw [a,b] at h
 exact absurd h.1.1 (by decide)
theorem clB_of {ps:List Prt} {x y:Int} (h:¬ ((ptA ps x).ft=true∧(ptA ps y).ft=true)) (h1:(ptA ps y).lo≤hiP ps x) (h2:(ptA ps x).lo≤hiP ps y):clB ps x y=false:=by
 unfold clB apB
 unfold hiP at h1 h2
 rw [decide_eq_false (show ¬ (ptA ps x).hi<(ptA ps y).lo by omega),decide_eq_false (show ¬ (ptA ps y).hi<(ptA ps x).lo by omega)]
 cases ha:(ptA ps x).ft<;>cases hb:(ptA ps y).ft<;>simp
 exact absurd ⟨ha,hb⟩ h
theorem Col.step {ps:List Prt} {p:Int} {l:List Int} {k:Nat} (hs:ByHi ps (p::l)) (hw:∀ x∈p::l,(ptA ps x).lo≤hiP ps x) (hc:Col ps (p::l) (k+1)):Col ps (takeL ps (p::l)).2 k:=by
 have hI:=takeL_inv hs
 have hp:=takeL_head hs
 generalize (takeL ps (p::l)).1=V at hI hp
 generalize (takeL ps (p::l)).2=R at hI
 obtain ⟨f,hf1,hf2⟩:=hc
 have hpl:p∈p::l:=List.mem_cons_self
 have hge:∀ x∈p::l,hiP ps p≤hiP ps x:=by
  intro x hx
  rcases List.mem_cons.1 hx with rfl|hx
  · exact Int.le_refl _
  · exact (List.pairwise_cons.1 hs).1 x hx
 have hVl:∀ x∈V,x∈p::l:=fun x hx=>(hI.mem x).2 (.inl hx)
 have hRl:∀ x∈R,x∈p::l:=fun x hx=>(hI.mem x).2 (.inr hx)
 -- what does not clash with the first part has its last colour
 have hlo:∀ x∈p::l,clB ps p x=false→(ptA ps x).lo≤hiP ps p:=by
  intro x hx h
  by_cases e:p=x
  · subst e;exact hw p hpl
  · exact (clB_no e h).2.1
 have hVlo:∀ x∈V,(ptA ps x).lo≤hiP ps p:=fun x hx=>hlo x (hVl x hx) (hI.free p hp x hx)
 have hfoot:∀ x∈R,f x=f p→∃ u∈V,(ptA ps u).ft=true∧(ptA ps x).ft=true∧u≠x:=by
  intro x hx hfx
  obtain ⟨u,hu,hcl,-⟩:=hI.hit x hx
  have hux:u≠x:=fun e=>by rw [e,clB_self] at hcl;cases hcl
  by_cases h:(ptA ps u).ft=true∧(ptA ps x).ft=true
  · exact ⟨u,hu,h.1,h.2,hux⟩
  · have a1:=hge u (hVl u hu)
    have a2:=hge x (hRl x hx)
    have a3:=hVlo u hu
    have a4:=hlo x (hRl x hx) (hf2 p hpl x (hRl x hx) hfx.symm)
    rw [clB_of h (by omega) (by omega)] at hcl;cases hcl
 -- a way in which all of V has the colour of p, and nothing that V leaves has it
 have key:∃ g:Int→Nat,(∀ x∈R,g x<k+1)∧(∀ x∈R,g x≠f p)∧∀ x∈R,∀ y∈R,g x=g y→clB ps x y=false:=by
  by_cases hX:∃ v∈V,∃ y∈R,(ptA ps v).ft=true∧(ptA ps y).ft=true∧f y=f p∧v≠y
  · obtain ⟨v,hv,y,hy,fv,fy,hfy,hvy⟩:=hX
    have hvl:=hVl v hv
    have hyl:=hRl y hy
    have hcvy:clB ps v y=true:=by
     cases h:clB ps v y
     · exact absurd ⟨fv,fy⟩ (clB_no hvy h).1
     · rfl
    have hfv:f v≠f p:=fun e=>by rw [hf2 v hvl y hyl (by rw [e,hfy])] at hcvy;cases hcvy
    have hylo:(ptA ps y).lo≤hiP ps p:=hlo y hyl (hf2 p hpl y hyl hfy.symm)
    have hvlo:=hVlo v hv
    have hvhi:hiP ps v≤hiP ps y:=by
     obtain ⟨u,hu,hcl,hle⟩:=hI.hit y hy
     have huy:u≠y:=fun e=>by rw [e,clB_self] at hcl;cases hcl
     have hft:(ptA ps u).ft=true∧(ptA ps y).ft=true:=by
      by_cases h:(ptA ps u).ft=true∧(ptA ps y).ft=true
      · exact h
      · have a1:=hge u (hVl u hu)
        have a2:=hge y hyl
        have a3:=hVlo u hu
        rw [clB_of h (by omega) (by omega)] at hcl;cases hcl
     have huv:u=v:=by
      by_cases e:u=v
      · exact e
      · exact absurd ⟨hft.1,fv⟩ (clB_no e (hI.free u hu v hv)).1
     rw [← huv];exact hle
    have hpv:p≠v:=fun e=>hfv (by rw [e])
    have huq:∀ x∈R,f x=f p→x=y:=by
     intro x hx hfx
     obtain ⟨u,hu,fu,fx,-⟩:=hfoot x hx hfx
     by_cases e:x=y
     · exact e
     · exact absurd ⟨fx,fy⟩ (clB_no e (hf2 x (hRl x hx) y hyl (by rw [hfx,hfy]))).1
    have hyz:∀ z∈R,z≠y→f v=f z→clB ps y z=false:=by
     intro z hz hzy hvz
     have hzv:v≠z:=by
      rintro rfl
      obtain ⟨u,hu,hcl,-⟩:=hI.hit v hz
      rw [hI.free u hu v hv] at hcl;cases hcl
     obtain ⟨c1,c2,c3⟩:=clB_no hzv (hf2 v hvl z (hRl z hz) hvz)
     have:=hge z (hRl z hz)
     exact clB_of (fun ⟨_,b⟩=>c1 ⟨fv,b⟩) (by omega) (by omega)
    refine ⟨fun x=>if x=y then f v else f x,fun x hx=>?_,fun x hx=>?_,fun x hx z hz h=>?_⟩
    · dsimp only
      split
      · exact hf1 v hvl
      · exact hf1 x (hRl x hx)
    · dsimp only
      split
      · exact hfv
      · rename_i e;exact fun h=>e (huq x hx h)
    · dsimp only at h
      split at h<;>split at h
      · rename_i e1 e2;rw [e1,e2];exact clB_self _ _
      · rename_i e1 e2;rw [e1];exact hyz z hz e2 h
      · rename_i e1 e2;rw [e2,clB_comm];exact hyz x hx e1 h.symm
      · exact hf2 x (hRl x hx) z (hRl z hz) h
  · refine ⟨f,fun x hx=>hf1 x (hRl x hx),fun x hx hfx=>?_,fun x hx y hy=>hf2 x (hRl x hx) y (hRl y hy)⟩
    obtain ⟨u,hu,fu,fx,hux⟩:=hfoot x hx hfx
    exact hX ⟨u,hu,x,hx,fu,fx,hfx,hux⟩
 obtain ⟨g,g1,g2,g3⟩:=key
 refine ⟨fun x=>if g x=k then f p else g x,fun x hx=>?_,fun x hx y hy h=>?_⟩
 · have:=g1 x hx
   have:=g2 x hx
   have:=hf1 p hpl
   dsimp only
   split<;>omega
 · refine g3 x hx y hy ?_
   have:=g2 x hx
   have:=g2 y hy
   dsimp only at h
   split at h<;>split at h<;>omega
theorem vesF_least {ps:List Prt}:∀ (f:Nat) (l:List Int),l.length≤f→ByHi ps l→(∀ x∈l,(ptA ps x).lo≤hiP ps x)→∀ k,Col ps l k→(vesF ps f l).length≤k
 | 0,l,_,_,_,k,_=>Nat.zero_le _
 | f+1,[],_,_,_,k,_=>by simp [vesF]
 | f+1,p::l,hl,hs,hw,k,hc=>by
  have hI:=takeL_inv hs
  have hne:p::l≠[]:=by simp
  rw [vesF,if_neg hne,List.length_cons]
  have h1:=takeL_len ps (p::l)
  have h2:=takeL_pos ps hne
  cases k with
  | zero=>obtain ⟨g,hg,-⟩:=hc;exact absurd (hg p List.mem_cons_self) (Nat.not_lt_zero _)
  | succ k =>
   have:=vesF_least f (takeL ps (p::l)).2 (by omega) hI.ord (fun x hx=>hw x ((hI.mem x).2 (.inr hx))) k (Col.step hs hw hc)
   omega
theorem vesF_col {ps:List Prt}:∀ (f:Nat) (l:List Int),l.length≤f→ByHi ps l→Col ps l (vesF ps f l).length
 | 0,l,hl,_=>by
  obtain rfl:l=[]:=List.length_eq_zero_iff.1 (by omega)
  exact ⟨fun _=>0,by simp,by simp⟩
 | f+1,[],_,_=>⟨fun _=>0,by simp,by simp⟩
 | f+1,p::l,hl,hs=>by
  have hI:=takeL_inv hs
  have hne:p::l≠[]:=by simp
  rw [vesF,if_neg hne,List.length_cons]
  have h1:=takeL_len ps (p::l)
  have h2:=takeL_pos ps hne
  obtain ⟨g,g1,g2⟩:=vesF_col f (takeL ps (p::l)).2 (by omega) hI.ord
  generalize (takeL ps (p::l)).1=V at *
  generalize (takeL ps (p::l)).2=R at *
  generalize (vesF ps f R).length=m at *
  refine ⟨fun x=>if x∈V then m else g x,fun x hx=>?_,fun x hx y hy h=>?_⟩
  · dsimp only
    split
    · omega
    · rename_i e
      have:=g1 x (((hI.mem x).1 hx).resolve_left e)
      omega
  · dsimp only at h
    split at h<;>split at h
    · rename_i e1 e2;exact hI.free x e1 y e2
    · rename_i e1 e2
      have:=g1 y (((hI.mem y).1 hy).resolve_left e2)
      omega
    · rename_i e1 e2
      have:=g1 x (((hI.mem x).1 hx).resolve_left e1)
      omega
    · rename_i e1 e2
      exact g2 x (((hI.mem x).1 hx).resolve_left e1) y (((hI.mem y).1 hy).resolve_left e2) h
end Go.Proofs.YtokpblmgdmokoaaGreat
