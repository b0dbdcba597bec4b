import Derived.Test.YtjjmifcjailpaaaGreatProg
set_option linter.unusedSimpArgs false
set_option linter.unusedVariables false
namespace Go.Proofs.YtjjmifcjailpaaaGreat
structure Bnd where
 f:Int
 t:Int
 m:Int
 b:Int
deriving DecidableEq,Inhabited
def okBnd (p1:Int) (x:Bnd):Bool:=decide ((0≤x.f∧x.f≤p1)∧(0≤x.t∧x.t≤p1)∧x.f≠x.t∧(-1000000≤x.m∧x.m≤1000000)∧(0≤x.b∧x.b≤1000000))
def chk (p:Int) (l:List Bnd):Int:=if 60<p∨400<l.length then 2 else if p<1 then 1 else if l.all (okBnd (p-1)) then 0 else 1
theorem chk_ok {p:Int} {l:List Bnd} (h:chk p l=0):1≤p∧p≤60∧l.length≤400∧∀ x∈l,okBnd (p-1) x=true:=by
 unfold chk at h
 split at h
 · cases h
 · split at h
   · cases h
   · split at h
     · rename_i h1 h2 h3
       exact ⟨by omega,by omega,by omega,List.all_eq_true.1 h3⟩
     · cases h
def Inf:Int:=9223372036854775807
def look (x:List Int) (i:Int):Int:=x.getD i.toNat 0
def relax (x:List Int) (y:List Int) (b:Bnd):List Int :=
 if look x b.f=Inf then y else y.set b.t.toNat (min (look y b.t) (look x b.f+b.m))
def longer (l:List Bnd) (x:List Int):List Int:=l.foldl (relax x) x
def rounds (l:List Bnd):Nat→List Int→List Int
 | 0,x=>x
 | n+1,x=>longer l (rounds l n x)
def settle (l:List Bnd):Nat→List Int→Option (List Int)
 | 0,_=>none
 | n+1,x=>if longer l x=x then some x else settle l n (longer l x)
def rrelax (far:Int) (y:List Int) (b:Bnd):List Int :=
 if look y b.f<far∧look y b.f+b.m<look y b.t then y.set b.t.toNat (look y b.f+b.m) else y
def rround (far:Int) (l:List Bnd) (y:List Int):List Int:=l.foldl (rrelax far) y
def rsums (far:Int) (l:List Bnd):Nat→List Int→Option (List Int)
 | 0,_=>none
 | n+1,y=>if rround far l y=y then some y else rsums far l n (rround far l y)
end Go.Proofs.YtjjmifcjailpaaaGreat
/- Least sums of paths: plain facts on lists of numbers; nothing of the program is named here. -/
namespace Go.Proofs.YtjjmifcjailpaaaGreat
def at_ (x:List Int) (i:Nat):Int:=x.getD i 0
theorem look_eq (x:List Int) (i:Int):look x i=at_ x i.toNat:=rfl
theorem at_set (y:List Int) (i j:Nat) (v:Int) (h:i<y.length):at_ (y.set i v) j=if i=j then v else at_ y j:=by
 unfold at_
 rw [List.getD_eq_getElem?_getD,List.getD_eq_getElem?_getD,List.getElem?_set]
 split
 · rename_i e;subst e;simp [h]
 · rfl
theorem ext_at {x y:List Int} (hl:x.length=y.length) (h:∀ i,i<x.length→at_ x i=at_ y i):x=y:=by
 apply List.ext_getElem hl
 intro i h1 h2
 have:=h i h1
 simpa [at_,List.getD_eq_getElem?_getD,List.getElem?_eq_getElem h1,List.getElem?_eq_getElem h2] using this
theorem relax_length (x y:List Int) (b:Bnd):(relax x y b).length=y.length:=by
 unfold relax;split<;>simp
theorem foldr_length (x:List Int):∀ (l:List Bnd) (y:List Int),(l.foldl (relax x) y).length=y.length
 | [],_=>rfl
 | b::l,y=>by rw [List.foldl_cons,foldr_length x l,relax_length]
theorem longer_length (l:List Bnd) (x:List Int):(longer l x).length=x.length:=foldr_length x l x
theorem relax_le (x y:List Int) (b:Bnd) (v:Nat):at_ (relax x y b) v≤at_ y v:=by
 unfold relax
 split
 · exact Int.le_refl _
 · by_cases h:b.t.toNat<y.length
   · rw [at_set _ _ _ _ h]
     split
     · rename_i e;subst e;exact Int.min_le_left _ _
     · exact Int.le_refl _
   · rw [List.set_eq_of_length_le (by omega)];exact Int.le_refl _
theorem fold_le (x:List Int) (v:Nat):∀ (l:List Bnd) (y:List Int),at_ (l.foldl (relax x) y) v≤at_ y v
 | [],_=>Int.le_refl _
 | b::l,y=>by rw [List.foldl_cons];exact Int.le_trans (fold_le x v l _) (relax_le x y b v)
theorem fold_edge (x:List Int) {c:Bnd} (hx:look x c.f≠Inf):∀ (l:List Bnd) (y:List Int),c∈l→c.t.toNat<y.length→at_ (l.foldl (relax x) y) c.t.toNat≤look x c.f+c.m
 | b::l,y,hm,hy=>by
  rw [List.foldl_cons]
  rcases List.mem_cons.1 hm with h|h
  · subst h
    refine Int.le_trans (fold_le x _ l _) ?_
    unfold relax
    rw [if_neg hx,at_set _ _ _ _ hy,if_pos rfl]
    exact Int.min_le_right _ _
  · exact fold_edge x hx l _ h (by rw [relax_length];exact hy)
theorem fold_cases (x:List Int) (v:Nat):∀ (l:List Bnd) (y:List Int),at_ (l.foldl (relax x) y) v=at_ y v∨∃ c∈l,look x c.f≠Inf∧c.t.toNat=v∧at_ (l.foldl (relax x) y) v=look x c.f+c.m
 | [],_=>.inl rfl
 | b::l,y=>by
  rw [List.foldl_cons]
  rcases fold_cases x v l (relax x y b) with h|⟨c,hc,h1,h2,h3⟩
  · by_cases hb:look x b.f=Inf
    · left;rw [h];unfold relax;rw [if_pos hb]
    · by_cases hl:b.t.toNat<y.length
      · by_cases hv:b.t.toNat=v
        · rw [h]
          unfold relax
          rw [if_neg hb,at_set _ _ _ _ hl,if_pos hv]
          by_cases hm:look y b.t≤look x b.f+b.m
          · left;rw [Int.min_eq_left hm,← hv];rfl
          · right
            exact ⟨b,List.mem_cons_self,hb,hv,Int.min_eq_right (by omega)⟩
        · left;rw [h];unfold relax;rw [if_neg hb,at_set _ _ _ _ hl,if_neg hv]
      · left;rw [h];unfold relax;rw [if_neg hb,List.set_eq_of_length_le (by omega)]
  · exact .inr ⟨c,List.mem_cons_of_mem _ hc,h1,h2,h3⟩
theorem longer_le (l:List Bnd) (x:List Int) (v:Nat):at_ (longer l x) v≤at_ x v:=fold_le x v l x
theorem longer_edge {l:List Bnd} {x:List Int} {c:Bnd} (hc:c∈l) (hx:look x c.f≠Inf) (ht:c.t.toNat<x.length):at_ (longer l x) c.t.toNat≤look x c.f+c.m :=
 fold_edge x hx l x hc ht
theorem longer_cases (l:List Bnd) (x:List Int) (v:Nat):at_ (longer l x) v=at_ x v∨∃ c∈l,look x c.f≠Inf∧c.t.toNat=v∧at_ (longer l x) v=look x c.f+c.m :=
 fold_cases x v l x
def Stable (l:List Bnd) (y:List Int):Prop:=∀ c∈l,look y c.f≠Inf→look y c.t≤look y c.f+c.m
theorem stable_of_same {l:List Bnd} {x:List Int} (ht:∀ c∈l,c.t.toNat<x.length) (h:longer l x=x):Stable l x:=by
 intro c hc hx
 have:=longer_edge hc hx (ht c hc)
 rw [h] at this
 exact this
theorem longer_ge {l:List Bnd} {x y:List Int} (hs:Stable l y) (hxy:∀ v,at_ y v≤at_ x v) (hI:∀ v,at_ x v≤Inf) (v:Nat):at_ y v≤at_ (longer l x) v:=by
 rcases longer_cases l x v with h|⟨c,hc,h1,h2,h3⟩
 · rw [h];exact hxy v
 · rw [h3,← h2]
   have hy:look y c.f≠Inf:=by
    intro e
    have h4:=hxy c.f.toNat
    have h5:=hI c.f.toNat
    rw [look_eq] at e h1
    omega
   have:=hs c hc hy
   have h4:=hxy c.f.toNat
   rw [look_eq] at this ⊢
   rw [look_eq] at this
   omega
theorem rounds_longer (l:List Bnd) (x:List Int):∀ k,rounds l k (longer l x)=longer l (rounds l k x)
 | 0=>rfl
 | k+1=>by show longer l (rounds l k (longer l x))=_;rw [rounds_longer l x k];rfl
theorem rounds_length (l:List Bnd) (x:List Int):∀ k,(rounds l k x).length=x.length
 | 0=>rfl
 | k+1=>by show (longer l (rounds l k x)).length=_;rw [longer_length,rounds_length l x k]
theorem settle_some {l:List Bnd}:∀ {n:Nat} {x y:List Int},settle l n x=some y→∃ k,k<n∧y=rounds l k x∧longer l y=y
 | n+1,x,y,h=>by
  unfold settle at h
  split at h
  · rename_i e
    injection h with h
    subst h
    exact ⟨0,by omega,rfl,e⟩
  · obtain ⟨k,hk,e,hs⟩:=settle_some h
    exact ⟨k+1,by omega,by rw [e,rounds_longer];rfl,hs⟩
theorem settle_none {l:List Bnd}:∀ {n:Nat} {x:List Int},settle l n x=none→∀ k,k<n→longer l (rounds l k x)≠rounds l k x
 | n+1,x,h,k,hk=>by
  unfold settle at h
  split at h
  · cases h
  · rename_i e
    cases k with
    | zero=>exact e
    | succ k =>
     have:=settle_none h k (by omega)
     rw [rounds_longer] at this
     exact this
theorem rounds_le_step (l:List Bnd) (x:List Int) (k v:Nat):at_ (rounds l (k+1) x) v≤at_ (rounds l k x) v:=longer_le l _ v
theorem rounds_le (l:List Bnd) (x:List Int) (v k:Nat):∀ j,at_ (rounds l (k+j) x) v≤at_ (rounds l k x) v
 | 0=>Int.le_refl _
 | j+1=>Int.le_trans (rounds_le_step l x (k+j) v) (rounds_le l x v k j)
theorem rounds_le0 (l:List Bnd) (x:List Int) (v k:Nat):at_ (rounds l k x) v≤at_ x v:=by
 have:=rounds_le l x v 0 k
 rw [Nat.zero_add] at this
 exact this
theorem rounds_stay {l:List Bnd} {x:List Int} {k:Nat} (h:longer l (rounds l k x)=rounds l k x):∀ j,rounds l (k+j) x=rounds l k x
 | 0=>rfl
 | j+1=>by show longer l (rounds l (k+j) x)=_;rw [rounds_stay h j,h]
theorem rounds_ge {l:List Bnd} {x y:List Int} (hs:Stable l y) (hxy:∀ v,at_ y v≤at_ x v) (hI:∀ v,at_ x v≤Inf):∀ k v,at_ y v≤at_ (rounds l k x) v
 | 0,v=>hxy v
 | k+1,v=>longer_ge hs (rounds_ge hs hxy hI k) (fun v=>Int.le_trans (rounds_le0 l x v k) (hI v)) v
theorem countP_lt {f g:Nat→Bool}:∀ {l:List Nat} {u:Nat},(∀ v∈l,f v=true→g v=true)→u∈l→g u=true→f u=false→l.countP f<l.countP g
 | a::l,u,h,hu,hg,hf=>by
  have hle:l.countP f≤l.countP g:=List.countP_mono_left fun v hv=>h v (List.mem_cons_of_mem _ hv)
  rw [List.countP_cons,List.countP_cons]
  rcases List.mem_cons.1 hu with e|hu'
  · subst e;simp [hg,hf];omega
  · have:=countP_lt (fun v hv=>h v (List.mem_cons_of_mem _ hv)) hu' hg hf
    have ha:=h a List.mem_cons_self
    cases hfa:f a
    · simp;split<;>omega
    · simp [ha hfa];omega
theorem limit_soon {l:List Bnd} {p:Nat} {x:List Int} (hp:1≤p) (hg:∀ c∈l,c.f.toNat<p∧c.t.toNat<p) (hl:p≤x.length) (hI:∀ v,at_ x v≤Inf) {n:Nat} (hn:longer l (rounds l n x)=rounds l n x) :
 rounds l (p-1) x=rounds l n x:=by
 have hX:∀ k v,at_ (rounds l n x) v≤at_ (rounds l k x) v:=by
  intro k v
  by_cases h:k≤n
  · have:=rounds_le l x v k (n-k)
    rwa [Nat.add_sub_cancel' h] at this
  · have:=rounds_stay hn (k-n)
    rw [Nat.add_sub_cancel' (by omega)] at this
    rw [this];exact Int.le_refl _
 have hkeep:∀ k v,at_ (rounds l k x) v=at_ (rounds l n x) v→at_ (rounds l (k+1) x) v=at_ (rounds l n x) v:=by
  intro k v h
  have h1:=rounds_le_step l x k v
  have h2:=hX (k+1) v
  omega
 -- what is late by one round comes of what was late by one round less
 have hback:∀ k v,at_ (rounds l (k+1) x) v=at_ (rounds l n x) v→at_ (rounds l k x) v≠at_ (rounds l n x) v →
  ∃ u,u<p∧at_ (rounds l k x) u=at_ (rounds l n x) u∧(∀ j,j+1=k→at_ (rounds l j x) u≠at_ (rounds l n x) u):=by
  intro k v h1 h2
  rcases longer_cases l (rounds l k x) v with h|⟨c,hc,hf,ht,hv⟩
  · exact absurd (h.symm.trans h1) h2
  · have hlen:=rounds_length l x
    have hst:Stable l (rounds l n x):=stable_of_same (fun c hc=>by rw [hlen];exact Nat.lt_of_lt_of_le (hg c hc).2 hl) hn
    have hle:at_ (rounds l k x) c.f.toNat≤Inf:=Int.le_trans (rounds_le0 l x c.f.toNat k) (hI _)
    have hXf:=hX k c.f.toNat
    have hfin:look (rounds l n x) c.f≠Inf:=by rw [look_eq] at hf ⊢;omega
    have hs:=hst c hc hfin
    rw [look_eq,look_eq,ht] at hs
    rw [look_eq] at hv hf
    have hv':at_ (rounds l (k+1) x) v=at_ (rounds l k x) c.f.toNat+c.m:=hv
    refine ⟨c.f.toNat,(hg c hc).1,by omega,?_⟩
    rintro j rfl e
    have hj:look (rounds l j x) c.f≠Inf:=by rw [look_eq];omega
    have h3:=longer_edge (x:=rounds l j x) hc hj (by rw [hlen];exact Nat.lt_of_lt_of_le (hg c hc).2 hl)
    rw [ht,look_eq] at h3
    have h4:at_ (rounds l (j+1) x) v≤at_ (rounds l j x) c.f.toNat+c.m:=h3
    have h5:=hX (j+1) v
    have h6:=rounds_le_step l x j c.f.toNat
    omega
 -- at each round one more has come to its limit, or all have
 have hgo:∀ k d v,at_ (rounds l (k+d) x) v=at_ (rounds l n x) v→at_ (rounds l k x) v≠at_ (rounds l n x) v →
  ∃ u,u<p∧at_ (rounds l (k+1) x) u=at_ (rounds l n x) u∧at_ (rounds l k x) u≠at_ (rounds l n x) u:=by
  intro k d
  induction d with
  | zero=>intro v h1 h2;exact absurd h1 h2
  | succ d ih =>
   intro v h1 h2
   by_cases h3:at_ (rounds l (k+d) x) v=at_ (rounds l n x) v
   · exact ih v h3 h2
   · cases d with
     | zero =>
      -- v itself came just now; it lies below p, for else it would never have turned
      refine ⟨v,?_,h1,h2⟩
      rcases longer_cases l (rounds l k x) v with h|⟨c,hc,_,ht,_⟩
      · exact absurd (h.symm.trans h1) h2
      · rw [← ht];exact (hg c hc).2
     | succ d =>
      obtain ⟨u,_,hu1,hu2⟩:=hback (k+(d+1)) v h1 h3
      have h4:=hu2 (k+d) rfl
      -- u came at round k + d + 1: later than k
      refine ih u hu1 ?_
      intro h5
      have:∀ e,at_ (rounds l (k+e) x) u=at_ (rounds l n x) u:=by
       intro e
       induction e with
       | zero=>exact h5
       | succ e ihe=>exact hkeep _ _ ihe
      exact h4 (this d)
 have hzero:∀ d v,v<p→at_ (rounds l d x) v=at_ (rounds l n x) v→∃ u,u<p∧at_ (rounds l 0 x) u=at_ (rounds l n x) u:=by
  intro d
  induction d with
  | zero=>intro v hv h;exact ⟨v,hv,h⟩
  | succ d ih =>
   intro v hv h
   by_cases h3:at_ (rounds l d x) v=at_ (rounds l n x) v
   · exact ih v hv h3
   · obtain ⟨u,hup,hu,_⟩:=hback d v h h3
     exact ih u hup hu
 have hcount:∀ k,(∀ v,at_ (rounds l k x) v=at_ (rounds l n x) v)∨k+1≤(List.range p).countP (fun u=>at_ (rounds l k x) u == at_ (rounds l n x) u):=by
  intro k
  induction k with
  | zero =>
   obtain ⟨u,hu,h⟩:=hzero n 0 (by omega) rfl
   right
   exact List.countP_pos_iff.2 ⟨u,List.mem_range.2 hu,by simpa using h⟩
  | succ k ih =>
   rcases ih with h|h
   · left;exact fun v=>hkeep k v (h v)
   · by_cases hall:∀ v,at_ (rounds l k x) v=at_ (rounds l n x) v
     · left;exact fun v=>hkeep k v (hall v)
     · obtain ⟨v,hv⟩:=Classical.not_forall.1 hall
       obtain ⟨u,hu,h1,h2⟩:=hgo k n v (by rw [Nat.add_comm,rounds_stay hn]) hv
       right
       have:=countP_lt (l:=List.range p) (f:=fun u=>at_ (rounds l k x) u == at_ (rounds l n x) u) (g:=fun u=>at_ (rounds l (k+1) x) u == at_ (rounds l n x) u) (u:=u)
        (fun v _ h=>by simp only [beq_iff_eq] at h ⊢;exact hkeep k v h) (List.mem_range.2 hu) (by simpa using h1) (by simpa using h2)
       omega
 have hfix:∀ k v,p≤v→at_ (rounds l k x) v=at_ x v:=by
  intro k v hv
  induction k with
  | zero=>rfl
  | succ k ih =>
   rcases longer_cases l (rounds l k x) v with h|⟨c,hc,_,ht,_⟩
   · exact h.trans ih
   · have:=(hg c hc).2;omega
 apply ext_at (by rw [rounds_length,rounds_length])
 intro v _
 rcases hcount (p-1) with h|h
 · exact h v
 · by_cases hv:v<p
   · have h2:(List.range p).countP (fun u=>at_ (rounds l (p-1) x) u == at_ (rounds l n x) u)=(List.range p).length:=by
      have:=List.countP_le_length (p:=fun u=>at_ (rounds l (p-1) x) u == at_ (rounds l n x) u) (l:=List.range p)
      simp only [List.length_range] at this ⊢
      omega
     have:=List.countP_eq_length.1 h2 v (List.mem_range.2 hv)
     simpa using this
   · rw [hfix _ v (by omega),hfix _ v (by omega)]
theorem limit_exists {l:List Bnd} {x y:List Int} (hs:Stable l y) (hxy:∀ v,at_ y v≤at_ x v) (hI:∀ v,at_ x v≤Inf):∃ n,longer l (rounds l n x)=rounds l n x:=by
 have hstep:∀ k,longer l (rounds l k x)=rounds l k x ∨
  ((List.range x.length).map fun v=>(at_ (rounds l (k+1) x) v-at_ y v).toNat).sum<((List.range x.length).map fun v=>(at_ (rounds l k x) v-at_ y v).toNat).sum:=by
  intro k
  by_cases h:longer l (rounds l k x)=rounds l k x
  · exact .inl h
  · right
    have:∃ v,v<x.length∧at_ (rounds l (k+1) x) v≠at_ (rounds l k x) v:=by
     apply Classical.byContradiction
     intro hno
     apply h
     apply ext_at (by rw [longer_length])
     intro v hv
     rw [longer_length,rounds_length] at hv
     apply Classical.byContradiction
     intro hne
     exact hno ⟨v,hv,hne⟩
    obtain ⟨v,hv,hne⟩:=this
    have hle:=rounds_le_step l x k
    have hge:=rounds_ge hs hxy hI (k+1)
    have key:∀ (L:List Nat),v∈L→(L.map fun v=>(at_ (rounds l (k+1) x) v-at_ y v).toNat).sum<(L.map fun v=>(at_ (rounds l k x) v-at_ y v).toNat).sum:=by
     have hle':∀ (L:List Nat),(L.map fun v=>(at_ (rounds l (k+1) x) v-at_ y v).toNat).sum≤(L.map fun v=>(at_ (rounds l k x) v-at_ y v).toNat).sum:=by
      intro L
      induction L with
      | nil=>simp
      | cons a L ih =>
       simp only [List.map_cons,List.sum_cons]
       have:=hle a
       omega
     intro L hL
     induction L with
     | nil=>cases hL
     | cons a L ih =>
      simp only [List.map_cons,List.sum_cons]
      rcases List.mem_cons.1 hL with e|h'
      · subst e
        have h1:=hle v
        have h2:=hge v
        have h3:=hle' L
        omega
      · have h1:=hle a
        have h3:=ih h'
        omega
    exact key _ (List.mem_range.2 hv)
 apply Classical.byContradiction
 intro hno
 have hall:∀ k,((List.range x.length).map fun v=>(at_ (rounds l k x) v-at_ y v).toNat).sum+k≤((List.range x.length).map fun v=>(at_ (rounds l 0 x) v-at_ y v).toNat).sum:=by
  intro k
  induction k with
  | zero=>omega
  | succ k ih =>
   rcases hstep k with h|h
   · exact absurd ⟨k,h⟩ hno
   · omega
 have:=hall (((List.range x.length).map fun v=>(at_ (rounds l 0 x) v-at_ y v).toNat).sum+1)
 omega
theorem settle_of_stable {l:List Bnd} {p:Nat} {x y:List Int} (hp:1≤p) (hg:∀ c∈l,c.f.toNat<p∧c.t.toNat<p) (hl:p≤x.length) (hI:∀ v,at_ x v≤Inf) (hs:Stable l y) (hxy:∀ v,at_ y v≤at_ x v) :
 settle l p x=some (rounds l (p-1) x)∧longer l (rounds l (p-1) x)=rounds l (p-1) x:=by
 obtain ⟨n,hn⟩:=limit_exists hs hxy hI
 have h:=limit_soon hp hg hl hI hn
 have h2:longer l (rounds l (p-1) x)=rounds l (p-1) x:=by rw [h];exact hn
 refine ⟨?_,h2⟩
 cases hst:settle l p x with
 | none=>exact absurd h2 (settle_none hst (p-1) (by omega))
 | some z =>
  obtain ⟨k,hk,e,hz⟩:=settle_some hst
  subst e
  have:=rounds_stay hz (p-1-k)
  rw [Nat.add_sub_cancel' (by omega)] at this
  rw [this]
theorem stable_settle {l:List Bnd} {p:Nat} {x z:List Int} (hg:∀ c∈l,c.f.toNat<p∧c.t.toNat<p) (hl:p≤x.length) (h:settle l p x=some z):Stable l z∧longer l z=z∧z.length=x.length∧∀ v,at_ z v≤at_ x v:=by
 obtain ⟨k,_,e,hz⟩:=settle_some h
 have hlen:z.length=x.length:=by rw [e,rounds_length]
 refine ⟨stable_of_same (fun c hc=>by have:=(hg c hc).2;omega) hz,hz,hlen,fun v=>?_⟩
 rw [e]
 exact rounds_le0 l x v k
theorem rrelax_length (far:Int) (y:List Int) (b:Bnd):(rrelax far y b).length=y.length:=by
 unfold rrelax;split<;>simp
theorem rfold_length (far:Int):∀ (l:List Bnd) (y:List Int),(l.foldl (rrelax far) y).length=y.length
 | [],_=>rfl
 | b::l,y=>by rw [List.foldl_cons,rfold_length far l,rrelax_length]
theorem rrelax_le (far:Int) (y:List Int) (b:Bnd) (v:Nat):at_ (rrelax far y b) v≤at_ y v:=by
 unfold rrelax
 split
 · rename_i h
   by_cases hl:b.t.toNat<y.length
   · rw [at_set _ _ _ _ hl]
     split
     · rename_i e;subst e
       have h2:=h.2
       rw [look_eq y b.t] at h2
       omega
     · exact Int.le_refl _
   · rw [List.set_eq_of_length_le (by omega)];exact Int.le_refl _
 · exact Int.le_refl _
theorem rfold_le (far:Int) (v:Nat):∀ (l:List Bnd) (y:List Int),at_ (l.foldl (rrelax far) y) v≤at_ y v
 | [],_=>Int.le_refl _
 | b::l,y=>by rw [List.foldl_cons];exact Int.le_trans (rfold_le far v l _) (rrelax_le far y b v)
theorem rfold_edge (far:Int) {c:Bnd} {A:Int} (hA:A<far):∀ (l:List Bnd) (y:List Int),c∈l→at_ y c.f.toNat≤A→c.t.toNat<y.length→at_ (l.foldl (rrelax far) y) c.t.toNat≤A+c.m
 | b::l,y,hm,hy,ht=>by
  rw [List.foldl_cons]
  rcases List.mem_cons.1 hm with h|h
  · subst h
    refine Int.le_trans (rfold_le far _ l _) ?_
    unfold rrelax
    split
    · rw [at_set _ _ _ _ ht,if_pos rfl,look_eq];omega
    · rename_i h
      have h1:look y c.f<far:=by rw [look_eq];omega
      have h2:¬ look y c.f+c.m<look y c.t:=fun h3=>h ⟨h1,h3⟩
      rw [look_eq,look_eq] at h2
      omega
  · exact rfold_edge far hA l _ h (Int.le_trans (rrelax_le far y b _) hy) (by rw [rrelax_length];exact ht)
theorem rfold_ge (far:Int) {z:List Int}:∀ (l:List Bnd) (y:List Int),(∀ c∈l,look z c.f<far→look z c.t≤look z c.f+c.m)→(∀ v,at_ z v≤at_ y v)→∀ v,at_ z v≤at_ (l.foldl (rrelax far) y) v
 | [],_,_,h,v=>h v
 | b::l,y,hs,h,v=>by
  rw [List.foldl_cons]
  refine rfold_ge far l _ (fun c hc=>hs c (List.mem_cons_of_mem _ hc)) (fun v=>?_) v
  unfold rrelax
  split
  · rename_i h2
    by_cases hl:b.t.toNat<y.length
    · rw [at_set _ _ _ _ hl]
      split
      · rename_i e;subst e
        have h3:=h b.f.toNat
        have h4:=h2.1
        rw [look_eq] at h4 ⊢
        have h5:=hs b List.mem_cons_self (by rw [look_eq];omega)
        rw [look_eq,look_eq] at h5
        omega
      · exact h v
    · rw [List.set_eq_of_length_le (by omega)];exact h v
  · exact h v
theorem rround_length (far:Int) (l:List Bnd) (y:List Int):(rround far l y).length=y.length:=rfold_length far l y
def rrounds (far:Int) (l:List Bnd):Nat→List Int→List Int
 | 0,y=>y
 | n+1,y=>rround far l (rrounds far l n y)
theorem rrounds_round (far:Int) (l:List Bnd) (y:List Int):∀ k,rrounds far l k (rround far l y)=rround far l (rrounds far l k y)
 | 0=>rfl
 | k+1=>by show rround far l (rrounds far l k (rround far l y))=_;rw [rrounds_round far l y k];rfl
theorem rrounds_length (far:Int) (l:List Bnd) (y:List Int):∀ k,(rrounds far l k y).length=y.length
 | 0=>rfl
 | k+1=>by show (rround far l (rrounds far l k y)).length=_;rw [rround_length,rrounds_length far l y k]
theorem rsums_some {far:Int} {l:List Bnd}:∀ {n:Nat} {y z:List Int},rsums far l n y=some z→∃ k,k<n∧z=rrounds far l k y∧rround far l z=z
 | n+1,y,z,h=>by
  unfold rsums at h
  split at h
  · rename_i e
    injection h with h
    subst h
    exact ⟨0,by omega,rfl,e⟩
  · obtain ⟨k,hk,e,hs⟩:=rsums_some h
    exact ⟨k+1,by omega,by rw [e,rrounds_round];rfl,hs⟩
theorem rsums_none {far:Int} {l:List Bnd}:∀ {n:Nat} {y:List Int},rsums far l n y=none→∀ k,k<n→rround far l (rrounds far l k y)≠rrounds far l k y
 | n+1,y,h,k,hk=>by
  unfold rsums at h
  split at h
  · cases h
  · rename_i e
    cases k with
    | zero=>exact e
    | succ k =>
     have:=rsums_none h k (by omega)
     rw [rrounds_round] at this
     exact this
theorem rrounds_stay {far:Int} {l:List Bnd} {y:List Int} {k:Nat} (h:rround far l (rrounds far l k y)=rrounds far l k y):∀ j,rrounds far l (k+j) y=rrounds far l k y
 | 0=>rfl
 | j+1=>by show rround far l (rrounds far l (k+j) y)=_;rw [rrounds_stay h j,h]
def conv (far:Int) (a:Int):Int:=if a=Inf then far else a
theorem rsums_eq {far:Int} {l:List Bnd} {p:Nat} {x y:List Int} (hp:1≤p) (hg:∀ c∈l,c.f.toNat<p∧c.t.toNat<p) (hl:p≤x.length) (hy:y.length=p)
 (hxy:∀ v,v<p→at_ y v=conv far (at_ x v)) (hfar:∀ k v,v<p→at_ (rounds l k x) v≠Inf→k<p→at_ (rounds l k x) v<far) (hfI:far≤Inf)
 (hst:longer l (rounds l (p-1) x)=rounds l (p-1) x) :
 ∃ z,rsums far l (p+1) y=some z∧z.length=p∧∀ v,v<p→at_ z v=conv far (at_ (rounds l (p-1) x) v):=by
 let X:=rounds l (p-1) x
 have hXs:Stable l X:=stable_of_same (fun c hc=>by rw [rounds_length];exact Nat.lt_of_lt_of_le (hg c hc).2 hl) hst
 -- ours, with far for none, as a list of p numbers
 let Z:List Int:=(List.range p).map fun v=>conv far (at_ X v)
 have hZ:∀ v,v<p→at_ Z v=conv far (at_ X v):=by
  intro v hv
  simp [Z,at_,List.getD_eq_getElem?_getD,hv]
 have hXfin:∀ v,v<p→at_ X v≠Inf→at_ X v<far:=fun v hv h=>hfar (p-1) v hv h (by omega)
 have hZs:∀ c∈l,look Z c.f<far→look Z c.t≤look Z c.f+c.m:=by
  intro c hc h
  have ⟨h1,h2⟩:=hg c hc
  rw [look_eq,hZ _ h1] at h
  rw [look_eq,look_eq,hZ _ h1,hZ _ h2]
  unfold conv at h ⊢
  split at h
  · omega
  · rename_i hf
    have h3:=hXs c hc (by rw [look_eq];exact hf)
    rw [look_eq,look_eq] at h3
    rw [if_neg hf]
    split
    · rename_i e
      omega
    · exact h3
 have hle:∀ k,k<p→∀ v,v<p→at_ (rrounds far l k y) v≤conv far (at_ (rounds l k x) v):=by
  intro k
  induction k with
  | zero=>intro _ v hv;exact Int.le_of_eq (hxy v hv)
  | succ k ih =>
   intro hk v hv
   have hmono:at_ (rrounds far l (k+1) y) v≤at_ (rrounds far l k y) v:=rfold_le far v l _
   have ihv:=ih (by omega) v hv
   rcases longer_cases l (rounds l k x) v with h|⟨c,hc,hf,ht,he⟩
   · have h':at_ (rounds l (k+1) x) v=at_ (rounds l k x) v:=h
     rw [h']
     omega
   · have ⟨h1,h2⟩:=hg c hc
     rw [look_eq] at hf he
     have he':at_ (rounds l (k+1) x) v=at_ (rounds l k x) c.f.toNat+c.m:=he
     have ihf:=ih (by omega) c.f.toNat h1
     unfold conv at ihf
     rw [if_neg hf] at ihf
     have hA:=hfar k c.f.toNat h1 hf (by omega)
     have h3:=rfold_edge far hA l (rrounds far l k y) hc ihf (by rw [rrounds_length];omega)
     rw [ht] at h3
     have h4:at_ (rrounds far l (k+1) y) v≤at_ (rounds l k x) c.f.toNat+c.m:=h3
     rw [he']
     unfold conv
     split
     · rename_i e
       have:=ihv
       unfold conv at this
       have hd:=rounds_le_step l x k v
       split at this
       · omega
       · rename_i e2
         have hB:=hfar k v hv e2 (by omega)
         omega
     · exact h4
 have hge:∀ k v,at_ Z v≤at_ (rrounds far l k y) v:=by
  intro k
  induction k with
  | zero =>
   intro v
   by_cases hv:v<p
   · rw [hZ v hv]
     show _≤at_ y v
     rw [hxy v hv]
     have h1:=rounds_le l x v 0 (p-1)
     rw [Nat.zero_add] at h1
     have h1:at_ X v≤at_ x v:=h1
     unfold conv
     split
     · split
       · exact Int.le_refl _
       · rename_i e e2
         have:=hfar 0 v hv e2 (by omega)
         have:at_ x v<far:=this
         omega
     · rename_i e
       have h2:=hXfin v hv e
       split<;>omega
   · have e1:at_ Z v=0:=by
      unfold at_
      rw [List.getD_eq_getElem?_getD,List.getElem?_eq_none (by simp [Z];omega)];rfl
     have e2:at_ (rrounds far l 0 y) v=0:=by
      show at_ y v=0
      unfold at_
      rw [List.getD_eq_getElem?_getD,List.getElem?_eq_none (by omega)];rfl
     omega
  | succ k ih=>exact rfold_ge far l _ hZs ih
 have hlim:∀ v,v<p→at_ (rrounds far l (p-1) y) v=conv far (at_ X v):=by
  intro v hv
  have h1:=hle (p-1) (by omega) v hv
  have h2:=hge (p-1) v
  rw [hZ v hv] at h2
  have h3:conv far (at_ X v)=conv far (at_ (rounds l (p-1) x) v):=rfl
  omega
 have hsame:rround far l (rrounds far l (p-1) y)=rrounds far l (p-1) y:=by
  apply ext_at (by rw [rround_length])
  intro v hv
  rw [rround_length,rrounds_length,hy] at hv
  have h1:at_ (rround far l (rrounds far l (p-1) y)) v≤at_ (rrounds far l (p-1) y) v:=rfold_le far v l _
  have h2:at_ Z v≤at_ (rround far l (rrounds far l (p-1) y)) v:=hge (p-1+1) v
  rw [hZ v hv,← hlim v hv] at h2
  omega
 cases hr:rsums far l (p+1) y with
 | none=>exact absurd hsame (rsums_none hr (p-1) (by omega))
 | some z =>
  obtain ⟨k,hk,e,hz⟩:=rsums_some hr
  refine ⟨z,rfl,by rw [e,rrounds_length,hy],fun v hv=>?_⟩
  have hez:z=rrounds far l (p-1) y:=by
   subst e
   by_cases h:k≤p-1
   · have:=rrounds_stay hz (p-1-k)
     rw [Nat.add_sub_cancel' h] at this
     exact this.symm
   · have:=rrounds_stay hsame (k-(p-1))
     rw [Nat.add_sub_cancel' (by omega)] at this
     exact this
  rw [hez]
  exact hlim v hv
end Go.Proofs.YtjjmifcjailpaaaGreat
