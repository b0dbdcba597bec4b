import Derived.Test.YtokpblmgdmokoaaGreatAVDem
import Derived.Test.YtokpblmgdmokoaaGreatAVMge
import Derived.Test.YtokpblmgdmokoaaGreatDVT7
set_option linter.unusedSimpArgs false
set_option linter.unusedVariables false
namespace Go.Proofs.YtokpblmgdmokoaaGreat
def sgm (h i:Nat):Nat:=if i<h then i else i+1
def tau (lo h i:Nat):Nat:=if i=h then lo else if h<i then i-1 else i
theorem getD_some {α:Type} [Inhabited α] {l:List α} {i:Nat} (h:i<l.length):l[i]?=some (l.getD i default):=by
 rw [List.getD_eq_getElem?_getD,List.getElem?_eq_getElem h];rfl
section
variable {ps:List Prt} {a b n:Nat}
theorem jnt_len (hn:ps.length=n) (hb:max a b<n):(jntL ps a b).length=n-1:=by
 unfold jntL;rw [List.length_eraseIdx,List.length_set,if_pos (by omega),hn]
theorem jnt_at (hn:ps.length=n) (hb:max a b<n) (hab:a≠b) {i:Nat} (hi:i<n-1):(jntL ps a b).getD i default=if i=min a b then mrgP (ps.getD (min a b) default) (ps.getD (max a b) default) else ps.getD (sgm (max a b) i) default:=by
 unfold jntL sgm
 rw [List.getD_eq_getElem?_getD,List.getElem?_eraseIdx]
 by_cases h:i<max a b
 · rw [if_pos h,if_pos h]
   by_cases e:i=min a b
   · rw [if_pos e,e,List.getElem?_set_self (by omega)];rfl
   · rw [if_neg e,List.getElem?_set_ne (by omega),List.getD_eq_getElem?_getD]
 · rw [if_neg h,if_neg h,if_neg (by omega),List.getElem?_set_ne (by omega),List.getD_eq_getElem?_getD]
def Cov (p m:Prt):Prop:=∀ q,apB q m=false→apB q p=false
theorem apB_no {p q:Prt}:apB p q=false ↔ ¬ (p.ft=true∧q.ft=true)∧q.lo≤p.hi∧p.lo≤q.hi:=by
 unfold apB
 rw [Bool.or_eq_false_iff,Bool.or_eq_false_iff,decide_eq_false_iff_not,decide_eq_false_iff_not,Bool.and_eq_false_iff]
 constructor
 · rintro ⟨⟨h1,h2⟩,h3⟩
   refine ⟨fun ⟨x,y⟩=>?_,by omega,by omega⟩
   rcases h1 with h1|h1
   · rw [x] at h1;cases h1
   · rw [y] at h1;cases h1
 · rintro ⟨h1,h2,h3⟩
   refine ⟨⟨?_,by omega⟩,by omega⟩
   cases hp:p.ft
   · exact .inl rfl
   · cases hq:q.ft
     · exact .inr rfl
     · exact absurd ⟨hp,hq⟩ h1
theorem Cov.refl (p:Prt):Cov p p:=fun _ h=>h
theorem cov_left (p q:Prt):Cov p (mrgP p q):=by
 intro r h
 rw [apB_no] at h ⊢
 obtain ⟨h1,h2,h3⟩:=h
 unfold mrgP at h1 h2 h3
 dsimp only at h1 h2 h3
 refine ⟨fun ⟨x,y⟩=>h1 ⟨x,by rw [y];rfl⟩,?_,?_⟩
 · split at h2<;>omega
 · split at h3<;>omega
theorem cov_right (p q:Prt):Cov q (mrgP p q):=by
 intro r h
 rw [apB_no] at h ⊢
 obtain ⟨h1,h2,h3⟩:=h
 unfold mrgP at h1 h2 h3
 dsimp only at h1 h2 h3
 refine ⟨fun ⟨x,y⟩=>h1 ⟨x,by rw [y,Bool.or_true]⟩,?_,?_⟩
 · split at h2<;>omega
 · split at h3<;>omega
theorem cov_two {p p2 m m2:Prt} (h:Cov p m) (h2:Cov p2 m2) (hm:apB m m2=false):apB p p2=false:=by
 rw [apB_comm]
 refine h p2 ?_
 rw [apB_comm]
 exact h2 m hm
theorem tau_lt (hb:max a b<n) (hab:a≠b) {i:Nat} (hi:i<n):tau (min a b) (max a b) i<n-1:=by
 unfold tau;split
 · omega
 · split<;>omega
theorem jnt_cov (hn:ps.length=n) (hb:max a b<n) (hab:a≠b) {i:Nat} (hi:i<n):Cov (ps.getD i default) ((jntL ps a b).getD (tau (min a b) (max a b) i) default):=by
 rw [jnt_at hn hb hab (tau_lt hb hab hi)]
 unfold tau sgm
 by_cases h:i=max a b
 · subst h;rw [if_pos rfl,if_pos rfl];exact cov_right _ _
 · rw [if_neg h]
   by_cases h2:max a b<i
   · rw [if_pos h2,if_neg (by omega),if_neg (by omega),show i-1+1=i by omega];exact Cov.refl _
   · rw [if_neg h2]
     by_cases h3:i=min a b
     · rw [if_pos h3,h3];exact cov_left _ _
     · rw [if_neg h3,if_pos (by omega)];exact Cov.refl _
theorem tau_eq (hab:a≠b) {i j:Nat} (hij:i≠j) (h:tau (min a b) (max a b) i=tau (min a b) (max a b) j):(i=a∧j=b)∨(i=b∧j=a):=by
 unfold tau at h
 split at h<;>split at h<;>(try split at h)<;>(try split at h)<;>omega
theorem jnt_two (hn:ps.length=n) (ha:a<n) (hb:b<n) (hab:a≠b) (hcl:clN ps a b=false) {f:Nat→Int} (h:∀ i j,i<n-1→j<n-1→f i=f j→i≠j→apB ((jntL ps a b).getD i default) ((jntL ps a b).getD j default)=false)
 {i j:Nat} (hi:i<n) (hj:j<n) (hij:i≠j) (hf:f (tau (min a b) (max a b) i)=f (tau (min a b) (max a b) j)):apB (ps.getD i default) (ps.getD j default)=false:=by
 have hm:max a b<n:=by omega
 by_cases e:tau (min a b) (max a b) i=tau (min a b) (max a b) j
 · have hc:apB (ps.getD a default) (ps.getD b default)=false:=by
    unfold clN at hcl;rw [decide_eq_true hab,Bool.true_and] at hcl;exact hcl
   rcases tau_eq hab hij e with ⟨rfl,rfl⟩|⟨rfl,rfl⟩
   · exact hc
   · rw [apB_comm];exact hc
 · exact cov_two (jnt_cov hn hm hab hi) (jnt_cov hn hm hab hj) (h _ _ (tau_lt hm hab hi) (tau_lt hm hab hj) hf e)
theorem jnt_more (hn:ps.length=n) (ha:a<n) (hb:b<n) (hab:a≠b) (hcl:clN ps a b=false) {k:Nat} (h:ColA (jntL ps a b) k):ColA ps k:=by
 have hm:max a b<n:=by omega
 obtain ⟨f,h1,h2⟩:=h
 rw [jnt_len hn hm] at h1 h2
 refine ⟨fun i=>f (tau (min a b) (max a b) i),fun i hi=>h1 _ (tau_lt hm hab (by omega)),fun i j hi hj hf hij=>?_⟩
 exact jnt_two hn ha hb hab hcl (f:=fun i=>(f i:Int)) (fun i j hi hj hf=>h2 i j hi hj (by exact_mod_cast hf)) (by omega) (by omega) hij (by dsimp only at hf;exact_mod_cast hf)
theorem jnt_one (hn:ps.length=n) (ha:a<n) (hb:b<n) (hab:a≠b) {k:Nat} (h:ColA ps k):ColA (jntL ps a b) (k+1):=by
 have hm:max a b<n:=by omega
 obtain ⟨f,h1,h2⟩:=h
 refine ⟨fun i=>if i=min a b then k else f (sgm (max a b) i),fun i hi=>?_,fun i j hi hj hf hij=>?_⟩
 · rw [jnt_len hn hm] at hi
   have:=h1 (sgm (max a b) i) (by unfold sgm;split<;>omega)
   dsimp only
   split<;>omega
 · rw [jnt_len hn hm] at hi hj
   have k1:=h1 (sgm (max a b) i) (by unfold sgm;split<;>omega)
   have k2:=h1 (sgm (max a b) j) (by unfold sgm;split<;>omega)
   rw [jnt_at hn hm hab hi,jnt_at hn hm hab hj]
   dsimp only at hf
   by_cases e1:i=min a b
   · by_cases e2:j=min a b
     · omega
     · rw [if_pos e1,if_neg e2] at hf;omega
   · by_cases e2:j=min a b
     · rw [if_neg e1,if_pos e2] at hf;omega
     · rw [if_neg e1,if_neg e2] at hf ⊢
       exact h2 _ _ (by unfold sgm;split<;>omega) (by unfold sgm;split<;>omega) hf (by unfold sgm;split<;>split<;>omega)
end
end Go.Proofs.YtokpblmgdmokoaaGreat
