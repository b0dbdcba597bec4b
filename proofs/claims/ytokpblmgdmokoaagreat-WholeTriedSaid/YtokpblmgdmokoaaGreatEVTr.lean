import Derived.Test.YtokpblmgdmokoaaGreatAVShw
import Derived.Test.YtokpblmgdmokoaaGreatEVT7
set_option linter.unusedSimpArgs false
set_option linter.unusedVariables false
namespace Go.Proofs.YtokpblmgdmokoaaGreat
def fitB (ps:List Prt) (l:List Int) (x:Int):Bool:=(List.range l.length).all fun k=>decide (l.getD k 0≠x) || !clN ps k l.length
def fewR (ps:List Prt):Nat→List Int→Nat→Int
 | 0,_,many=>many
 | r+1,l,many=>(List.range (many+1)).foldl (fun (b:Int) (x:Nat)=>if fitB ps l x then min b (fewR ps r (l++[(x:Int)]) (max many (x+1))) else b) ((ps.length:Int)+1)
theorem fold_min {f:Nat→Bool} {g:Nat→Int}:∀ (xs:List Nat) (b:Int),let r:=xs.foldl (fun b x=>if f x then min b (g x) else b) b
 r≤b∧(∀ x∈xs,f x=true→r≤g x)∧(r=b∨∃ x∈xs,f x=true∧r=g x)
 | [],b=>by simp
 | x::xs,b=>by
  have ih:=fold_min (f:=f) (g:=g) xs (if f x then min b (g x) else b)
  rw [List.foldl_cons]
  obtain ⟨h1,h2,h3⟩:=ih
  generalize xs.foldl (fun b x=>if f x then min b (g x) else b) (if f x then min b (g x) else b)=r at h1 h2 h3
  dsimp only
  by_cases hf:f x=true
  · rw [if_pos hf] at h1 h3
    refine ⟨by omega,fun y hy hfy=>?_,?_⟩
    · rcases List.mem_cons.1 hy with rfl|hy
      · omega
      · exact h2 y hy hfy
    · rcases h3 with h3|⟨y,hy,h4,h5⟩
      · by_cases hm:b≤g x
        · exact .inl (by omega)
        · exact .inr ⟨x,List.mem_cons_self,hf,by omega⟩
      · exact .inr ⟨y,List.mem_cons_of_mem _ hy,h4,h5⟩
  · rw [if_neg hf] at h1 h3
    refine ⟨h1,fun y hy hfy=>?_,?_⟩
    · rcases List.mem_cons.1 hy with rfl|hy
      · exact absurd hfy hf
      · exact h2 y hy hfy
    · rcases h3 with h3|⟨y,hy,h4,h5⟩
      · exact .inl h3
      · exact .inr ⟨y,List.mem_cons_of_mem _ hy,h4,h5⟩
theorem fit_iff {ps:List Prt} {l:List Int} {x:Int}:fitB ps l x=true ↔ ∀ k,k<l.length→l.getD k 0=x→clN ps k l.length=false:=by
 unfold fitB
 rw [List.all_eq_true]
 constructor
 · intro h k hk he
   have:=h k (List.mem_range.2 hk)
   rw [decide_eq_false (by simpa using he),Bool.false_or] at this
   simpa using this
 · intro h k hk
   by_cases he:l.getD k 0=x
   · rw [h k (List.mem_range.1 hk) he];simp
   · rw [decide_eq_true he];rfl
theorem getD_snoc {l:List Int} {x:Int} {i:Nat} (hi:i<l.length+1):(l++[x]).getD i 0=if i=l.length then x else l.getD i 0:=by
 rw [List.getD_eq_getElem?_getD,List.getD_eq_getElem?_getD]
 by_cases h:i=l.length
 · subst h;rw [if_pos rfl];simp
 · rw [if_neg h,List.getElem?_append_left (by omega)]
def PreA (ps:List Prt) (l:List Int) (many:Nat):Prop:=(∀ i,i<l.length→0≤l.getD i 0∧l.getD i 0<many)∧∀ i j,j<i→i<l.length→l.getD j 0=l.getD i 0→clN ps j i=false
theorem PreA.snoc {ps:List Prt} {l:List Int} {many x:Nat} (h:PreA ps l many) (hf:fitB ps l x=true):PreA ps (l++[(x:Int)]) (max many (x+1)):=by
 obtain ⟨h1,h2⟩:=h
 rw [fit_iff] at hf
 constructor
 · intro i hi
   rw [List.length_append,List.length_singleton] at hi
   rw [getD_snoc hi]
   split
   · omega
   · rename_i e
     have:=h1 i (by omega)
     omega
 · intro i j hji hi he
   rw [List.length_append,List.length_singleton] at hi
   rw [getD_snoc hi,getD_snoc (by omega)] at he
   by_cases e:i=l.length
   · subst e
     rw [if_neg (by omega),if_pos rfl] at he
     exact hf j hji he
   · rw [if_neg e,if_neg (by omega)] at he
     exact h2 i j hji (by omega) he
theorem few_low {ps:List Prt} (hw:∀ p∈ps,p.lo≤p.hi):∀ (r:Nat) (l:List Int) (many:Nat),l.length+r=ps.length→PreA ps l many→((vesL ps).length:Int)≤fewR ps r l many
 | 0,l,many,hl,⟨h1,h2⟩=>by
  show ((vesL ps).length:Int)≤(many:Int)
  have:(vesL ps).length≤many:=by
   refine ves_least hw ⟨fun i=>(l.getD i 0).toNat,fun i hi=>?_,fun i j hi hj he hij=>?_⟩
   · have:=h1 i (by omega);show (l.getD i 0).toNat<many;omega
   · have k1:=h1 i (by omega)
     have k2:=h1 j (by omega)
     have he':l.getD i 0=l.getD j 0:=by dsimp only at he;omega
     rcases Nat.lt_or_gt_of_ne hij with h|h
     · have:=h2 j i h (by omega) he'
       unfold clN at this
       rwa [decide_eq_true (by omega),Bool.true_and] at this
     · have:=h2 i j h (by omega) he'.symm
       unfold clN at this
       rw [decide_eq_true (by omega),Bool.true_and] at this
       rw [apB_comm];exact this
  omega
 | r+1,l,many,hl,hp=>by
  obtain ⟨-,-,h3⟩:=fold_min (f:=fun x=>fitB ps l x) (g:=fun x=>fewR ps r (l++[(x:Int)]) (max many (x+1))) (List.range (many+1)) ((ps.length:Int)+1)
  unfold fewR
  rcases h3 with h3|⟨x,-,hf,h3⟩
  · rw [h3]
    have:=(vesL_ok (ps:=ps) rfl).1
    omega
  · rw [h3]
    exact few_low hw r _ _ (by rw [List.length_append,List.length_singleton];omega) (hp.snoc hf)
theorem pigeon:∀ (K M:Nat) (g:Nat→Nat),(∀ y,y<M→g y<K)→(∀ y z,y<M→z<M→g y=g z→y=z)→M≤K
 | 0,M,g,h,_=>by
  cases M with
  | zero=>omega
  | succ M=>exact absurd (h 0 (by omega)) (by omega)
 | K+1,0,g,_,_=>by omega
 | K+1,M+1,g,h,hi=>by
  have:=pigeon K M (fun y=>if g y=K then g M else g y) (fun y hy=>by
   have k1:=h y (by omega)
   have k2:=h M (by omega)
   try dsimp only
   split
   · rename_i e
     have:g M≠K:=fun e2=>by have:=hi y M (by omega) (by omega) (by rw [e,e2]);omega
     omega
   · omega) (fun y z hy hz he=>by
   try dsimp only at he
   split at he<;>split at he
   · rename_i e1 e2;exact hi y z (by omega) (by omega) (by rw [e1,e2])
   · rename_i e1 e2;have:=hi M z (by omega) (by omega) he;omega
   · rename_i e1 e2;have:=hi y M (by omega) (by omega) he;omega
   · exact hi y z (by omega) (by omega) he)
  omega
structure Ren (f:Nat→Nat) (l:List Int) (many:Nat):Prop where
 same:∀ i j,i<l.length→j<l.length→(l.getD i 0=l.getD j 0 ↔ f i=f j)
 low:∀ i,i<l.length→0≤l.getD i 0∧l.getD i 0<many
 all:∀ y,y<many→∃ i,i<l.length∧l.getD i 0=(y:Int)
theorem Ren.many_le {f:Nat→Nat} {l:List Int} {many K:Nat} (h:Ren f l many) (hf:∀ i,i<l.length→f i<K):many≤K:=by
 have hc:∃ rep:Nat→Nat,∀ y,y<many→rep y<l.length∧l.getD (rep y) 0=(y:Int):=by
  refine ⟨fun y=>if hy:y<many then Classical.choose (h.all y hy) else 0,fun y hy=>?_⟩
  dsimp only
  rw [dif_pos hy]
  exact Classical.choose_spec (h.all y hy)
 obtain ⟨rep,hr⟩:=hc
 refine pigeon K many (fun y=>f (rep y)) (fun y hy=>hf _ (hr y hy).1) (fun y z hy hz he=>?_)
 have:=(h.same _ _ (hr y hy).1 (hr z hz).1).2 he
 rw [(hr y hy).2,(hr z hz).2] at this
 omega
theorem few_high {ps:List Prt} {f:Nat→Nat} {K:Nat} (h1:∀ i,i<ps.length→f i<K) (h2:∀ i j,i<ps.length→j<ps.length→f i=f j→i≠j→apB (ps.getD i default) (ps.getD j default)=false) :
 ∀ (r:Nat) (l:List Int) (many:Nat),l.length+r=ps.length→Ren f l many→fewR ps r l many≤K
 | 0,l,many,hl,hr=>by
  show (many:Int)≤K
  have:=hr.many_le (K:=K) (fun i hi=>h1 i (by omega))
  omega
 | r+1,l,many,hl,hr=>by
  have key:∃ x:Nat,x≤many∧fitB ps l x=true∧Ren f (l++[(x:Int)]) (max many (x+1)):=by
   by_cases hs:∃ i,i<l.length∧f i=f l.length
   · obtain ⟨i,hi,hfi⟩:=hs
     have hlow:=hr.low i hi
     obtain ⟨x,hx⟩:∃ x:Nat,l.getD i 0=(x:Int):=⟨(l.getD i 0).toNat,by omega⟩
     have hiff:∀ k,k<l.length→(l.getD k 0=(x:Int) ↔ f k=f l.length):=fun k hk=>by rw [← hx,← hfi];exact hr.same k i hk hi
     refine ⟨x,by omega,?_,?_,?_,?_⟩
     · rw [fit_iff]
       intro k hk he
       unfold clN
       rw [decide_eq_true (by omega),Bool.true_and]
       exact h2 k l.length (by omega) (by omega) ((hiff k hk).1 he) (by omega)
     · intro a b ha hb
       rw [List.length_append,List.length_singleton] at ha hb
       rw [getD_snoc ha,getD_snoc hb]
       by_cases ea:a=l.length
       · by_cases eb:b=l.length
         · rw [if_pos ea,if_pos eb,ea,eb];simp
         · rw [if_pos ea,if_neg eb,ea]
           exact ⟨fun h=>((hiff b (by omega)).1 h.symm).symm,fun h=>((hiff b (by omega)).2 h.symm).symm⟩
       · by_cases eb:b=l.length
         · rw [if_neg ea,if_pos eb,eb];exact hiff a (by omega)
         · rw [if_neg ea,if_neg eb];exact hr.same a b (by omega) (by omega)
     · intro a ha
       rw [List.length_append,List.length_singleton] at ha
       rw [getD_snoc ha]
       split
       · omega
       · have:=hr.low a (by omega);omega
     · intro y hy
       obtain ⟨a,ha,he⟩:=hr.all y (by omega)
       exact ⟨a,by rw [List.length_append,List.length_singleton];omega,by rw [getD_snoc (by omega),if_neg (by omega)];exact he⟩
   · have hno:∀ i,i<l.length→f i≠f l.length:=fun i hi h=>hs ⟨i,hi,h⟩
     refine ⟨many,Nat.le_refl _,?_,?_,?_,?_⟩
     · rw [fit_iff]
       intro k hk he
       have:=(hr.low k hk).2
       omega
     · intro a b ha hb
       rw [List.length_append,List.length_singleton] at ha hb
       rw [getD_snoc ha,getD_snoc hb]
       by_cases ea:a=l.length
       · by_cases eb:b=l.length
         · rw [if_pos ea,if_pos eb,ea,eb];simp
         · rw [if_pos ea,if_neg eb,ea]
           have k1:=(hr.low b (by omega)).2
           have k2:=hno b (by omega)
           exact ⟨fun h=>by omega,fun h=>absurd h.symm k2⟩
       · by_cases eb:b=l.length
         · rw [if_neg ea,if_pos eb,eb]
           have k1:=(hr.low a (by omega)).2
           have k2:=hno a (by omega)
           exact ⟨fun h=>by omega,fun h=>absurd h k2⟩
         · rw [if_neg ea,if_neg eb];exact hr.same a b (by omega) (by omega)
     · intro a ha
       rw [List.length_append,List.length_singleton] at ha
       rw [getD_snoc ha]
       split
       · omega
       · have:=hr.low a (by omega);omega
     · intro y hy
       by_cases e:y=many
       · exact ⟨l.length,by rw [List.length_append,List.length_singleton];omega,by rw [getD_snoc (by omega),if_pos rfl,e]⟩
       · obtain ⟨a,ha,he⟩:=hr.all y (by omega)
         exact ⟨a,by rw [List.length_append,List.length_singleton];omega,by rw [getD_snoc (by omega),if_neg (by omega)];exact he⟩
  obtain ⟨x,hx,hf,hr2⟩:=key
  have ih:=few_high h1 h2 r (l++[(x:Int)]) (max many (x+1)) (by rw [List.length_append,List.length_singleton];omega) hr2
  obtain ⟨-,h4,-⟩:=fold_min (f:=fun x=>fitB ps l x) (g:=fun x=>fewR ps r (l++[(x:Int)]) (max many (x+1))) (List.range (many+1)) ((ps.length:Int)+1)
  have:=h4 x (List.mem_range.2 (by omega)) hf
  unfold fewR
  omega
theorem few_all {ps:List Prt} (hw:∀ p∈ps,p.lo≤p.hi):fewR ps ps.length [] 0=((vesL ps).length:Int):=by
 have h1:=few_low hw ps.length [] 0 (by simp) ⟨by simp,by simp⟩
 obtain ⟨f,hf1,hf2⟩:=ves_col ps
 have h2:=few_high hf1 hf2 ps.length [] 0 (by simp) ⟨by simp,by simp,by simp⟩
 omega
end Go.Proofs.YtokpblmgdmokoaaGreat
