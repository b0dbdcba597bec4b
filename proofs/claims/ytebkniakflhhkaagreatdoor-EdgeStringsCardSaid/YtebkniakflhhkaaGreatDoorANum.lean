import Derived.Test.YtebkniakflhhkaaGreatDoorProg
set_option linter.unusedSimpArgs false
set_option linter.unusedVariables false
namespace Go.Proofs.YtebkniakflhhkaaGreatDoor
structure Bnd where
 f:Int
 t:Int
 m:Int
 b:Int
deriving DecidableEq,Inhabited
def okBnd (p1:Int) (x:Bnd):Bool:=decide ((0≤x.f∧x.f≤p1)∧(0≤x.t∧x.t≤p1)∧x.f≠x.t∧(-1000000≤x.m∧x.m≤1000000)∧(0≤x.b∧x.b≤1000000))
def chk (p:Int) (l:List Bnd):Int:=if 60<p∨400<l.length then 2 else if p<1 then 1 else if l.all (okBnd (p-1)) then 0 else 1
theorem chk_ok {p:Int} {l:List Bnd} (h:chk p l=0):1≤p∧p≤60∧l.length≤400∧∀ x∈l,okBnd (p-1) x=true:=by
 unfold chk at h
 split at h
 · cases h
 · split at h
   · cases h
   · split at h
     · rename_i h1 h2 h3
       exact ⟨by omega,by omega,by omega,List.all_eq_true.1 h3⟩
     · cases h
def Inf:Int:=9223372036854775807
def look (x:List Int) (i:Int):Int:=x.getD i.toNat 0
def relax (x:List Int) (y:List Int) (b:Bnd):List Int :=
 if look x b.f=Inf then y else y.set b.t.toNat (min (look y b.t) (look x b.f+b.m))
def longer (l:List Bnd) (x:List Int):List Int:=l.foldl (relax x) x
def rounds (l:List Bnd):Nat→List Int→List Int
 | 0,x=>x
 | n+1,x=>longer l (rounds l n x)
def settle (l:List Bnd):Nat→List Int→Option (List Int)
 | 0,_=>none
 | n+1,x=>if longer l x=x then some x else settle l n (longer l x)
end Go.Proofs.YtebkniakflhhkaaGreatDoor
/- Least sums of paths: plain facts on lists of numbers; nothing of the program is named here. -/
namespace Go.Proofs.YtebkniakflhhkaaGreatDoor
def at_ (x:List Int) (i:Nat):Int:=x.getD i 0
theorem look_eq (x:List Int) (i:Int):look x i=at_ x i.toNat:=rfl
theorem at_set (y:List Int) (i j:Nat) (v:Int) (h:i<y.length):at_ (y.set i v) j=if i=j then v else at_ y j:=by
 unfold at_
 rw [List.getD_eq_getElem?_getD,List.getD_eq_getElem?_getD,List.getElem?_set]
 split
 · rename_i e;subst e;simp [h]
 · rfl
theorem relax_length (x y:List Int) (b:Bnd):(relax x y b).length=y.length:=by
 unfold relax;split<;>simp
theorem foldr_length (x:List Int):∀ (l:List Bnd) (y:List Int),(l.foldl (relax x) y).length=y.length
 | [],_=>rfl
 | b::l,y=>by rw [List.foldl_cons,foldr_length x l,relax_length]
theorem longer_length (l:List Bnd) (x:List Int):(longer l x).length=x.length:=foldr_length x l x
theorem relax_le (x y:List Int) (b:Bnd) (v:Nat):at_ (relax x y b) v≤at_ y v:=by
 unfold relax
 split
 · exact Int.le_refl _
 · by_cases h:b.t.toNat<y.length
   · rw [at_set _ _ _ _ h]
     split
     · rename_i e;subst e;exact Int.min_le_left _ _
     · exact Int.le_refl _
   · rw [List.set_eq_of_length_le (by omega)];exact Int.le_refl _
theorem fold_le (x:List Int) (v:Nat):∀ (l:List Bnd) (y:List Int),at_ (l.foldl (relax x) y) v≤at_ y v
 | [],_=>Int.le_refl _
 | b::l,y=>by rw [List.foldl_cons];exact Int.le_trans (fold_le x v l _) (relax_le x y b v)
theorem fold_edge (x:List Int) {c:Bnd} (hx:look x c.f≠Inf):∀ (l:List Bnd) (y:List Int),c∈l→c.t.toNat<y.length→at_ (l.foldl (relax x) y) c.t.toNat≤look x c.f+c.m
 | b::l,y,hm,hy=>by
  rw [List.foldl_cons]
  rcases List.mem_cons.1 hm with h|h
  · subst h
    refine Int.le_trans (fold_le x _ l _) ?_
    unfold relax
    rw [if_neg hx,at_set _ _ _ _ hy,if_pos rfl]
    exact Int.min_le_right _ _
  · exact fold_edge x hx l _ h (by rw [relax_length];exact hy)
theorem fold_cases (x:List Int) (v:Nat):∀ (l:List Bnd) (y:List Int),at_ (l.foldl (relax x) y) v=at_ y v∨∃ c∈l,look x c.f≠Inf∧c.t.toNat=v∧at_ (l.foldl (relax x) y) v=look x c.f+c.m
 | [],_=>.inl rfl
 | b::l,y=>by
  rw [List.foldl_cons]
  rcases fold_cases x v l (relax x y b) with h|⟨c,hc,h1,h2,h3⟩
  · by_cases hb:look x b.f=Inf
    · left;rw [h];unfold relax;rw [if_pos hb]
    · by_cases hl:b.t.toNat<y.length
      · by_cases hv:b.t.toNat=v
        · rw [h]
          unfold relax
          rw [if_neg hb,at_set _ _ _ _ hl,if_pos hv]
          by_cases hm:look y b.t≤look x b.f+b.m
          · left;rw [Int.min_eq_left hm,← hv];rfl
          · right
            exact ⟨b,List.mem_cons_self,hb,hv,Int.min_eq_right (by omega)⟩
        · left;rw [h];unfold relax;rw [if_neg hb,at_set _ _ _ _ hl,if_neg hv]
      · left;rw [h];unfold relax;rw [if_neg hb,List.set_eq_of_length_le (by omega)]
  · exact .inr ⟨c,List.mem_cons_of_mem _ hc,h1,h2,h3⟩
theorem longer_le (l:List Bnd) (x:List Int) (v:Nat):at_ (longer l x) v≤at_ x v:=fold_le x v l x
theorem longer_edge {l:List Bnd} {x:List Int} {c:Bnd} (hc:c∈l) (hx:look x c.f≠Inf) (ht:c.t.toNat<x.length):at_ (longer l x) c.t.toNat≤look x c.f+c.m :=
 fold_edge x hx l x hc ht
theorem longer_cases (l:List Bnd) (x:List Int) (v:Nat):at_ (longer l x) v=at_ x v∨∃ c∈l,look x c.f≠Inf∧c.t.toNat=v∧at_ (longer l x) v=look x c.f+c.m :=
 fold_cases x v l x
theorem rounds_longer (l:List Bnd) (x:List Int):∀ k,rounds l k (longer l x)=longer l (rounds l k x)
 | 0=>rfl
 | k+1=>by show longer l (rounds l k (longer l x))=_;rw [rounds_longer l x k];rfl
theorem rounds_length (l:List Bnd) (x:List Int):∀ k,(rounds l k x).length=x.length
 | 0=>rfl
 | k+1=>by show (longer l (rounds l k x)).length=_;rw [longer_length,rounds_length l x k]
theorem settle_some {l:List Bnd}:∀ {n:Nat} {x y:List Int},settle l n x=some y→∃ k,k<n∧y=rounds l k x∧longer l y=y
 | n+1,x,y,h=>by
  unfold settle at h
  split at h
  · rename_i e
    injection h with h
    subst h
    exact ⟨0,by omega,rfl,e⟩
  · obtain ⟨k,hk,e,hs⟩:=settle_some h
    exact ⟨k+1,by omega,by rw [e,rounds_longer];rfl,hs⟩
theorem rounds_le_step (l:List Bnd) (x:List Int) (k v:Nat):at_ (rounds l (k+1) x) v≤at_ (rounds l k x) v:=longer_le l _ v
def conv (far:Int) (a:Int):Int:=if a=Inf then far else a
end Go.Proofs.YtebkniakflhhkaaGreatDoor
