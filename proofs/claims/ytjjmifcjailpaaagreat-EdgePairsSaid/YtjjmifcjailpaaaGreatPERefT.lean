import Derived.Test.YtjjmifcjailpaaaGreatPESort
import Derived.Test.YtjjmifcjailpaaaGreatPELongest
import Derived.Test.YtjjmifcjailpaaaGreatPERefR
set_option linter.unusedSimpArgs false
set_option linter.unusedVariables false
namespace Go.Proofs.YtjjmifcjailpaaaGreat
open Go.RowKit
def ltP (p q:Prg):Prop:=p.af<q.af∨(p.af=q.af∧(p.at2<q.at2∨(p.at2=q.at2∧p.bf<q.bf)))
theorem strB_iff (p q:Prg):strB p q=true ↔ ltP p q:=by
 unfold strB ltP
 split
 · simp only [decide_eq_true_eq];omega
 · split
   · simp only [decide_eq_true_eq];omega
   · simp only [decide_eq_true_eq];omega
theorem ltP_trans {p q r:Prg} (h1:ltP p q) (h2:ltP q r):ltP p r:=by unfold ltP at *;omega
theorem ltP_asym {p q:Prg} (h1:ltP p q) (h2:ltP q p):False:=by unfold ltP at *;omega
theorem ltP_ne {p q:Prg} (h1:ltP p q):p≠q:=fun e=>ltP_asym h1 (e ▸ h1)
theorem ltP_tot {a b:Otl} {p q:Prg} (hp:chkP a b p=0) (hq:chkP a b q=0) (h:p≠q):ltP p q∨ltP q p:=by
 have h1:=(chkP_ok hp).2.2.2.2
 have h2:=(chkP_ok hq).2.2.2.2
 obtain ⟨x1,x2,x3,x4⟩:=p
 obtain ⟨y1,y2,y3,y4⟩:=q
 unfold ltP
 dsimp only at *
 simp only [ne_eq,Prg.mk.injEq] at h
 omega
def insL (p:Prg) (S:List Prg):List Prg:=S.takeWhile (fun x=>strB x p)++p::S.dropWhile (fun x=>strB x p)
def stepM (M l S:List Prg):List Prg:=l.foldl (fun S p=>if longB M p then S else insL p S) S
def maxD (a b:Otl):Nat→List Prg
 | 0=>[]
 | k+1=>stepM (meetL a b (((16-k:Nat):Int)+1)) (meetL a b ((16-k:Nat):Int)) (maxD a b k)
theorem mem_insL {p x:Prg} {S:List Prg}:x∈insL p S ↔ x=p∨x∈S:=by
 have h:x∈S ↔ x∈S.takeWhile (fun x=>strB x p)∨x∈S.dropWhile (fun x=>strB x p):=by
  rw [← List.mem_append,List.takeWhile_append_dropWhile]
 unfold insL
 rw [List.mem_append,List.mem_cons,h]
 constructor
 · rintro (h|h|h)
   · exact .inr (.inl h)
   · exact .inl h
   · exact .inr (.inr h)
 · rintro (h|h|h)
   · exact .inr (.inl h)
   · exact .inl h
   · exact .inr (.inr h)
theorem insL_cons_lt {p y:Prg} {S:List Prg} (h:strB y p=true):insL p (y::S)=y::insL p S:=by
 unfold insL
 rw [List.takeWhile_cons_of_pos (p:=fun x=>strB x p) h,List.dropWhile_cons_of_pos (p:=fun x=>strB x p) h]
 rfl
theorem insL_cons_ge {p y:Prg} {S:List Prg} (h:¬ strB y p=true):insL p (y::S)=p::y::S:=by
 unfold insL
 rw [List.takeWhile_cons_of_neg (p:=fun x=>strB x p) h,List.dropWhile_cons_of_neg (p:=fun x=>strB x p) h]
 rfl
theorem sorted_insL {p:Prg}:∀ {S:List Prg},S.Pairwise ltP→(∀ x∈S,ltP x p∨ltP p x)→(insL p S).Pairwise ltP
 | [],_,_=>by simp [insL]
 | y::S,hS,ht=>by
  obtain ⟨h1,h2⟩:=List.pairwise_cons.1 hS
  by_cases h:strB y p=true
  · rw [insL_cons_lt h,List.pairwise_cons]
    refine ⟨fun z hz=>?_,sorted_insL h2 (fun x hx=>ht x (List.mem_cons_of_mem _ hx))⟩
    rcases mem_insL.1 hz with rfl|hz
    · exact (strB_iff _ _).1 h
    · exact h1 z hz
  · rw [insL_cons_ge h,List.pairwise_cons]
    have hy:ltP p y:=(ht y (List.mem_cons_self ..)).resolve_left (fun e=>h ((strB_iff _ _).2 e))
    refine ⟨fun z hz=>?_,hS⟩
    rcases List.mem_cons.1 hz with rfl|hz
    · exact hy
    · exact ltP_trans hy (h1 z hz)
theorem step_ok {a b:Otl} (M:List Prg):∀ (l S:List Prg),S.Pairwise ltP→l.Pairwise ltP→(∀ p∈l,p ∉ S)→(∀ x∈S,chkP a b x=0)→(∀ x∈l,chkP a b x=0) →
 (stepM M l S).Pairwise ltP∧∀ x,x∈stepM M l S ↔ x∈S∨(x∈l∧longB M x=false)
 | [],S,hS,_,_,_,_=>⟨hS,fun x=>by simp [stepM]⟩
 | p::l,S,hS,hl,hd,c1,c2=>by
  obtain ⟨l1,l2⟩:=List.pairwise_cons.1 hl
  have hp:=c2 p (List.mem_cons_self ..)
  show (stepM M l (if longB M p then S else insL p S)).Pairwise ltP∧∀ x,x∈stepM M l (if longB M p then S else insL p S) ↔ _
  by_cases hL:longB M p=true
  · rw [if_pos hL]
    obtain ⟨r1,r2⟩:=step_ok M l S hS l2 (fun q hq=>hd q (List.mem_cons_of_mem _ hq)) c1 (fun q hq=>c2 q (List.mem_cons_of_mem _ hq))
    refine ⟨r1,fun x=>?_⟩
    rw [r2,List.mem_cons]
    constructor
    · rintro (h|⟨h,h'⟩)
      · exact .inl h
      · exact .inr ⟨.inr h,h'⟩
    · rintro (h|⟨rfl|h,h'⟩)
      · exact .inl h
      · rw [hL] at h';cases h'
      · exact .inr ⟨h,h'⟩
  · rw [if_neg hL]
    have hn:=hd p (List.mem_cons_self ..)
    have hS2:=sorted_insL hS (fun x hx=>ltP_tot (c1 x hx) hp (fun e=>hn (e ▸ hx)))
    obtain ⟨r1,r2⟩:=step_ok M l (insL p S) hS2 l2
     (fun q hq hm=>by
      rcases mem_insL.1 hm with rfl|hm
      · exact ltP_asym (l1 _ hq) (l1 _ hq)
      · exact hd q (List.mem_cons_of_mem _ hq) hm)
     (fun x hx=>by
      rcases mem_insL.1 hx with rfl|hx
      · exact hp
      · exact c1 x hx) (fun q hq=>c2 q (List.mem_cons_of_mem _ hq))
    refine ⟨r1,fun x=>?_⟩
    rw [r2,mem_insL,List.mem_cons]
    have hL2:longB M p=false:=Bool.eq_false_iff.2 hL
    constructor
    · rintro ((rfl|h)|⟨h,h'⟩)
      · exact .inr ⟨.inl rfl,hL2⟩
      · exact .inl h
      · exact .inr ⟨.inr h,h'⟩
    · rintro (h|⟨rfl|h,h'⟩)
      · exact .inl (.inr h)
      · exact .inl (.inl rfl)
      · exact .inr ⟨h,h'⟩
theorem pairsL_sorted (c d s:Int):(pairsL c d s).Pairwise ltP:=by
 unfold pairsL
 split
 · exact List.Pairwise.nil
 · rw [List.pairwise_flatMap]
   refine ⟨fun i _=>?_,?_⟩
   · rw [List.pairwise_map]
     refine List.Pairwise.imp (fun {x y} h=>?_) List.pairwise_lt_range
     unfold ltP prAt
     dsimp only
     omega
   · refine List.Pairwise.imp (fun {x y} h=>?_) List.pairwise_lt_range
     intro p hp q hq
     rw [List.mem_map] at hp hq
     obtain ⟨j,-,rfl⟩:=hp
     obtain ⟨j2,-,rfl⟩:=hq
     unfold ltP prAt
     dsimp only
     omega
theorem meetL_sorted (a b:Otl) (s:Int):(meetL a b s).Pairwise ltP:=List.Pairwise.filter _ (pairsL_sorted ..)
theorem maxD_ok {a b:Otl} (h:both a b=0):∀ k,k≤16→(maxD a b k).Pairwise ltP∧∀ x,x∈maxD a b k ↔ ∃ s:Nat,16-k<s∧s≤16∧x∈meetL a b (s:Int)∧longB (meetL a b ((s:Int)+1)) x=false
 | 0,_=>⟨List.Pairwise.nil,fun x=>⟨fun h=>(by cases h),fun ⟨s,h1,h2,_⟩=>(by omega)⟩⟩
 | k+1,hk=>by
  obtain ⟨i1,i2⟩:=maxD_ok h k (by omega)
  obtain ⟨oa,ob,-,-⟩:=both_ok h
  have hc:∀ (s:Int) x,x∈meetL a b s→chkP a b x=0:=fun s x hx=>pairsL_chkP oa ob (mem_meetL.1 hx).1
  obtain ⟨r1,r2⟩:=step_ok (a:=a) (b:=b) (meetL a b (((16-k:Nat):Int)+1)) (meetL a b ((16-k:Nat):Int)) (maxD a b k) i1 (meetL_sorted ..)
   (fun p hp hm=>by
    obtain ⟨s,h1,h2,h3,-⟩:=(i2 p).1 hm
    obtain ⟨-,-,e1,-⟩:=mem_pairsL.1 (mem_meetL.1 hp).1
    obtain ⟨-,-,e2,-⟩:=mem_pairsL.1 (mem_meetL.1 h3).1
    omega)
   (fun x hx=>by obtain ⟨s,-,-,h3,-⟩:=(i2 x).1 hx;exact hc _ _ h3) (fun x hx=>hc _ _ hx)
  refine ⟨r1,fun x=>?_⟩
  show x∈stepM _ _ _ ↔ _
  rw [r2,i2]
  constructor
  · rintro (⟨s,h1,h2,h3⟩|⟨h1,h2⟩)
    · exact ⟨s,by omega,h2,h3⟩
    · exact ⟨16-k,by omega,by omega,h1,h2⟩
  · rintro ⟨s,h1,h2,h3,h4⟩
    by_cases e:s=16-k
    · subst e;exact .inr ⟨h3,h4⟩
    · exact .inl ⟨s,by omega,h2,h3,h4⟩
theorem front_iff (x p:Prg):frontB x p=true ↔ x=befP p:=by
 obtain ⟨x1,x2,x3,x4⟩:=x
 unfold frontB befP
 simp [and_assoc]
theorem back_iff (x p:Prg):backB x p=true ↔ x=behP p:=by
 obtain ⟨x1,x2,x3,x4⟩:=x
 unfold backB behP
 simp [and_assoc]
theorem long_iff (l:List Prg) (p:Prg):longB l p=true ↔ befP p∈l∨behP p∈l:=by
 unfold longB
 rw [List.any_eq_true]
 constructor
 · rintro ⟨x,hx,h⟩
   rw [Bool.or_eq_true,front_iff,back_iff] at h
   rcases h with rfl|rfl
   · exact .inl hx
   · exact .inr hx
 · rintro (h|h)
   · exact ⟨_,h,by rw [Bool.or_eq_true,front_iff];exact .inl rfl⟩
   · exact ⟨_,h,by rw [Bool.or_eq_true,back_iff];exact .inr rfl⟩
theorem all_meet {a b:Otl} (h:both a b=0) {x:Prg} {s:Nat} (hs:x.at2-x.af=(s:Int)):x∈allL a b (mostN a b) ↔ x∈meetL a b (s:Int):=by
 obtain ⟨oa,ob,-,-⟩:=both_ok h
 rw [mem_allL oa ob,mem_meetL]
 constructor
 · rintro ⟨h1,-,h3⟩
   have:=pairsL_of_chkP h1
   rw [hs] at this
   exact ⟨this,h3⟩
 · rintro ⟨h1,h3⟩
   obtain ⟨g1,g2,g3,g4,g5,g6,g7⟩:=mem_pairsL.1 h1
   exact ⟨pairsL_chkP oa ob h1,by unfold mostN;omega,h3⟩
theorem top_long_iff {a b:Otl} (h:both a b=0) {x:Prg} {s:Nat} (hs:x.at2-x.af=(s:Int)):topB (allL a b (mostN a b)) x=true ↔ longB (meetL a b ((s:Int)+1)) x=false:=by
 have e1:=all_meet h (x:=befP x) (s:=s+1) (by unfold befP;dsimp only;omega)
 have e2:=all_meet h (x:=behP x) (s:=s+1) (by unfold behP;dsimp only;omega)
 rw [show (((s+1:Nat):Int))=(s:Int)+1 by omega] at e1 e2
 unfold topB
 rw [Bool.and_eq_true,decide_eq_true_eq,decide_eq_true_eq,e1,e2,Bool.eq_false_iff,ne_eq,long_iff,not_or]
theorem maxD_mem {a b:Otl} (h:both a b=0) (x:Prg):x∈maxD a b 16 ↔ x∈allL a b (mostN a b)∧topB (allL a b (mostN a b)) x=true:=by
 rw [(maxD_ok h 16 (Nat.le_refl _)).2]
 obtain ⟨oa,ob,-,-⟩:=both_ok h
 constructor
 · rintro ⟨s,h1,h2,h3,h4⟩
   obtain ⟨-,-,e1,-⟩:=mem_pairsL.1 (mem_meetL.1 h3).1
   have hs:x.at2-x.af=(s:Int):=by omega
   exact ⟨(all_meet h hs).2 h3,(top_long_iff h hs).2 h4⟩
 · rintro ⟨h1,h2⟩
   obtain ⟨c1,-,-⟩:=(mem_allL oa ob).1 h1
   obtain ⟨c2,c3,c4,c5,c6⟩:=chkP_ok c1
   obtain ⟨a1,a2,-,-⟩:=chkO_ok oa
   have hs:x.at2-x.af=((x.at2-x.af).toNat:Int):=by omega
   exact ⟨(x.at2-x.af).toNat,by omega,by omega,(all_meet h hs).1 h1,(top_long_iff h hs).1 h2⟩
theorem sortedP_ext:∀ {l m:List Prg},l.Pairwise ltP→m.Pairwise ltP→(∀ x,x∈l ↔ x∈m)→l=m
 | [],[],_,_,_=>rfl
 | [],y::m,_,_,h=>by have:=(h y).2 (List.mem_cons_self ..);cases this
 | x::l,[],_,_,h=>by have:=(h x).1 (List.mem_cons_self ..);cases this
 | x::l,y::m,hl,hm,h=>by
  obtain ⟨l1,l2⟩:=List.pairwise_cons.1 hl
  obtain ⟨m1,m2⟩:=List.pairwise_cons.1 hm
  have e:x=y:=by
   rcases List.mem_cons.1 ((h x).1 (List.mem_cons_self ..)) with e|e
   · exact e
   · rcases List.mem_cons.1 ((h y).2 (List.mem_cons_self ..)) with e2|e2
     · exact e2.symm
     · exact (ltP_asym (m1 _ e) (l1 _ e2)).elim
  subst e
  congr 1
  refine sortedP_ext l2 m2 fun z=>⟨fun hz=>?_,fun hz=>?_⟩
  · rcases List.mem_cons.1 ((h z).1 (List.mem_cons_of_mem _ hz)) with e|e
    · exact (ltP_ne (l1 _ hz) e.symm).elim
    · exact e
  · rcases List.mem_cons.1 ((h z).2 (List.mem_cons_of_mem _ hz)) with e|e
    · exact (ltP_ne (m1 _ hz) e.symm).elim
    · exact e
theorem sortY_sorted {a b:Otl} (L:List (Yp a b)) (hn:(prs (sortY L)).Nodup):(prs (sortY L)).Pairwise ltP:=by
 have h1:(sortY L).Pairwise fun x y=>(!(ltOf cfY y x))=true:=List.pairwise_mergeSort (fun x y z h1 h2=>by
  rw [Bool.not_eq_true'] at *
  exact (swoY a b).ntrans _ _ _ h2 h1) (fun x y=>by
  cases e:ltOf cfY x y
  · simp
  · have:=(ltY x y).1 e
    have e2:ltOf cfY y x=false:=by rw [ltY_no];omega
    simp [e2]) L
 unfold prs at hn ⊢
 unfold List.Nodup at hn
 rw [List.pairwise_map] at hn ⊢
 refine List.Pairwise.imp (fun {x y} h=>?_) (h1.and hn)
 obtain ⟨g1,g2⟩:=h
 rw [Bool.not_eq_true'] at g1
 cases e:ltOf cfY x y
 · exact (g2 (congrArg (·.1) (totY x y e g1))).elim
 · exact (ltY x y).1 e
theorem maxD_eq {a b:Otl} (h:both a b=0) (L:List (Yp a b)) (hn:(prs (sortY L)).Nodup) (hm:∀ p,p∈prs (sortY L) ↔ both a b=0∧p∈allL a b (mostN a b)∧topB (allL a b (mostN a b)) p=true):maxD a b 16=prs (sortY L) :=
 sortedP_ext (maxD_ok h 16 (Nat.le_refl _)).1 (sortY_sorted L hn) fun x=>by rw [maxD_mem h,hm];exact ⟨fun e=>⟨h,e⟩,fun e=>e.2⟩
end Go.Proofs.YtjjmifcjailpaaaGreat
