import Derived.Test.YtjjmifcjailpaaaGreatUSums
import Derived.Test.YtjjmifcjailpaaaGreatUEPlace
import Derived.Deep.AppendLies
import Derived.Test.YtjjmifcjailpaaaGreatUEWays
import Derived.Test.YtjjmifcjailpaaaGreatUESols
import Derived.Test.YtjjmifcjailpaaaGreatUEShared
set_option linter.unusedSimpArgs false
set_option linter.unusedVariables false
namespace Go.Proofs.YtjjmifcjailpaaaGreat
open Go.Lib (hid)
open Go.RowKit
def farF:Int:=1000000000
def frelax (x y:List Int) (b:Bnd):List Int:=if look x b.f<farF then y.set b.t.toNat (min (look y b.t) (look x b.f+b.m)) else y
def fars (p:Nat):List Int:=List.replicate p farF
def fstep (l:List Bnd) (p:Nat) (x:List Int):List Int:=l.foldl (frelax x) (fars p)
def fstart (p a:Nat):List Int:=(fars p).set a 0
def frounds (l:List Bnd) (p a:Nat):Nat→List Int
 | 0=>fstart p a
 | k+1=>fstep l p (frounds l p a k)
def hitF (l:List Bnd) (p a k:Nat):Bool:=decide (at_ (frounds l p a k) a<0)
def scanB (l:List Bnd) (p a:Nat):Nat→Nat→Nat→Nat
 | 0,_,best=>best
 | n+1,many,best=>if best=0∨many<best then scanB l p a n (many+1) (if hitF l p a many=true then many else best) else best
def fewA (l:List Bnd) (p:Nat):Nat→Nat
 | 0=>0
 | a+1=>scanB l p a p 1 (fewA l p a)
theorem fars_length (p:Nat):(fars p).length=p:=by simp [fars]
theorem frelax_length (x y:List Int) (b:Bnd):(frelax x y b).length=y.length:=by unfold frelax;split<;>simp
theorem at_fars {p v:Nat} (hv:v<p):at_ (fars p) v=farF:=at_repl hv
theorem at_fstart {p a v:Nat} (ha:a<p) (hv:v<p):at_ (fstart p a) v=if a=v then 0 else farF:=by
 unfold fstart
 rw [at_set _ _ _ _ (by rw [fars_length];exact ha),at_fars hv]
theorem ffold_le (x:List Int) (v:Nat):∀ (l:List Bnd) (y:List Int),(∀ c∈l,c.t.toNat<y.length)→at_ (l.foldl (frelax x) y) v≤at_ y v
 | [],_,_=>Int.le_refl _
 | b::l,y,h=>by
  rw [List.foldl_cons]
  refine Int.le_trans (ffold_le x v l _ (fun c hc=>by rw [frelax_length];exact h c (List.mem_cons_of_mem _ hc))) ?_
  unfold frelax
  split
  · rw [at_set _ _ _ _ (h b (List.mem_cons_self ..))]
    split
    · rename_i e;subst e;rw [look_eq];omega
    · exact Int.le_refl _
  · exact Int.le_refl _
theorem ffold_edge (x:List Int) {c:Bnd} (hx:look x c.f<farF):∀ (l:List Bnd) (y:List Int),(∀ b∈l,b.t.toNat<y.length)→c∈l→at_ (l.foldl (frelax x) y) c.t.toNat≤look x c.f+c.m
 | b::l,y,h,hc=>by
  rw [List.foldl_cons]
  have hl:∀ b'∈l,b'.t.toNat<(frelax x y b).length:=fun b' hb'=>by rw [frelax_length];exact h b' (List.mem_cons_of_mem _ hb')
  rcases List.mem_cons.1 hc with e|hc
  · subst e
    refine Int.le_trans (ffold_le x _ l _ hl) ?_
    unfold frelax
    rw [if_pos hx,at_set _ _ _ _ (h c (List.mem_cons_self ..)),if_pos rfl]
    omega
  · exact ffold_edge x hx l _ hl hc
theorem ffold_cases (x:List Int) (v:Nat):∀ (l:List Bnd) (y:List Int),(∀ b∈l,b.t.toNat<y.length)→at_ (l.foldl (frelax x) y) v=at_ y v∨∃ c∈l,look x c.f<farF∧c.t.toNat=v∧at_ (l.foldl (frelax x) y) v=look x c.f+c.m
 | [],_,_=>.inl rfl
 | b::l,y,h=>by
  rw [List.foldl_cons]
  rcases ffold_cases x v l (frelax x y b) (fun b' hb'=>by rw [frelax_length];exact h b' (List.mem_cons_of_mem _ hb')) with e|⟨c,hc,h1,h2,h3⟩
  · rw [e]
    unfold frelax
    split
    · rename_i hx
      rw [at_set _ _ _ _ (h b (List.mem_cons_self ..))]
      split
      · rename_i hv
        subst hv
        rcases Int.le_total (look y b.t) (look x b.f+b.m) with hm|hm
        · left;rw [Int.min_eq_left hm,look_eq]
        · right
          have hb:look x b.f<farF:=hx
          refine ⟨b,List.mem_cons_self ..,hb,rfl,by rw [Int.min_eq_right hm]⟩
      · exact .inl rfl
    · exact .inl rfl
  · exact .inr ⟨c,List.mem_cons_of_mem _ hc,h1,h2,h3⟩
section
variable {l:List Bnd} {p:Nat} (he:∀ c∈l,0≤c.f∧c.f<p∧0≤c.t∧c.t<p∧-1000000≤c.m∧c.m≤1000000)
include he
theorem frounds_walk {a:Nat} (ha:a<p):∀ (k v:Nat),v<p→at_ (frounds l p a k) v<farF→k≤60→∃ r,r.length=k∧IsWalk l r a v (at_ (frounds l p a k) v)∧-(k * 1000000:Int)≤at_ (frounds l p a k) v∧at_ (frounds l p a k) v≤k * 1000000
 | 0,v,hv,h,_=>by
  have e:at_ (frounds l p a 0) v=if a=v then 0 else farF:=at_fstart ha hv
  rw [e] at h ⊢
  by_cases hav:a=v
  · rw [if_pos hav];subst hav;exact ⟨[],rfl,⟨rfl,rfl⟩,by omega,by omega⟩
  · rw [if_neg hav] at h;omega
 | k+1,v,hv,h,hk=>by
  rcases ffold_cases (frounds l p a k) v l (fars p) (fun b hb=>by rw [fars_length];have:=he b hb;omega) with e|⟨c,hc,h1,h2,h3⟩
  · have e':at_ (frounds l p a (k+1)) v=farF:=e.trans (at_fars hv)
    rw [e'] at h;omega
  · have e':at_ (frounds l p a (k+1)) v=look (frounds l p a k) c.f+c.m:=h3
    have hcb:=he c hc
    rw [look_eq] at h1 e'
    obtain ⟨r,hr,hw,b1,b2⟩:=frounds_walk ha k c.f.toNat (by omega) h1 (by omega)
    obtain ⟨i,hi⟩:=List.getElem?_of_mem hc
    refine ⟨r++[i],by simp [hr],?_,by omega,by omega⟩
    rw [e']
    have hw':IsWalk l r a c.f (at_ (frounds l p a k) c.f.toNat):=by rw [Int.toNat_of_nonneg (by omega)] at hw;exact hw
    have:=hw'.snoc hi
    rw [show c.t=(v:Int) from by omega] at this
    exact this
theorem walk_frounds {a:Nat} (ha:a<p):∀ (k:Nat) (r:List Nat) (v:Int) (s:Int),IsWalk l r a v s→r.length=k→0≤v→v<p→k≤60→at_ (frounds l p a k) v.toNat≤s∧s≤k * 1000000:=by
 intro k
 induction k with
 | zero =>
  intro r v s h hr h0 h1 _
  have:r=[]:=List.length_eq_zero_iff.1 hr
  subst this
  obtain ⟨rfl,rfl⟩:=h
  have e:at_ (frounds l p a 0) ((a:Int)).toNat=if a=((a:Int)).toNat then 0 else farF:=at_fstart ha (by omega)
  rw [e,if_pos (by omega)]
  omega
 | succ k ih =>
  intro r v s h hr h0 h1 hk
  have hne:r≠[]:=fun e=>by rw [e] at hr;simp at hr
  obtain ⟨r',i,rfl⟩:∃ r' i,r=r'++[i]:=⟨r.dropLast,r.getLast hne,(List.dropLast_concat_getLast hne).symm⟩
  obtain ⟨c0,s1,w1,w2⟩:=h.split
  obtain ⟨c,hc,e1,e2,e3⟩:=w2
  have hcb:=he c (List.mem_of_getElem? hc)
  subst e1
  have hr':r'.length=k:=by simp at hr;exact hr
  obtain ⟨i1,i2⟩:=ih r' c.f s1 w1 hr' (by omega) (by omega) (by omega)
  have hlt:look (frounds l p a k) c.f<farF:=by rw [look_eq];unfold farF;omega
  have:=ffold_edge (frounds l p a k) hlt l (fars p) (fun b hb=>by rw [fars_length];have:=he b hb;omega) (List.mem_of_getElem? hc)
  have e:at_ (frounds l p a (k+1)) c.t.toNat≤look (frounds l p a k) c.f+c.m:=this
  rw [look_eq] at e
  rw [← e2]
  omega
end
theorem scanB_spec (l:List Bnd) (p a:Nat):∀ (n m best:Nat),(∀ k,1≤k→k<m→(best=0∨k<best)→hitF l p a k=false)→1≤m→
 (scanB l p a n m best=best∧∀ k,1≤k→k<m+n→(best=0∨k<best)→hitF l p a k=false) ∨
 (m≤scanB l p a n m best∧scanB l p a n m best<m+n∧hitF l p a (scanB l p a n m best)=true∧(best=0∨scanB l p a n m best<best)∧∀ k,1≤k→k<scanB l p a n m best→hitF l p a k=false)
 | 0,m,best,h,_=>.inl ⟨rfl,fun k h1 h2 h3=>h k h1 (by omega) h3⟩
 | n+1,m,best,h,hm=>by
  unfold scanB
  by_cases hb:best=0∨m<best
  · rw [if_pos hb]
    cases hh:hitF l p a m with
    | true =>
     rw [if_pos rfl]
     right
     have e:scanB l p a n (m+1) m=m:=by
      cases n with
      | zero=>rfl
      | succ n=>unfold scanB;rw [if_neg (by omega)]
     rw [e]
     exact ⟨Nat.le_refl _,by omega,hh,hb,fun k h1 h2=>h k h1 h2 (by omega)⟩
    | false =>
     rw [if_neg (by simp)]
     rcases scanB_spec l p a n (m+1) best (fun k h1 h2 h3=>by
      by_cases e:k=m
      · subst e;exact hh
      · exact h k h1 (by omega) h3) (by omega) with ⟨g1,g2⟩|⟨g1,g2,g3,g4,g5⟩
     · exact .inl ⟨g1,fun k h1 h2 h3=>g2 k h1 (by omega) h3⟩
     · exact .inr ⟨by omega,by omega,g3,g4,g5⟩
  · rw [if_neg hb]
    exact .inl ⟨rfl,fun k h1 h2 h3=>h k h1 (by omega) h3⟩
theorem fewA_spec (l:List Bnd) (p:Nat):∀ A,(fewA l p A=0∧∀ a,a<A→∀ k,1≤k→k≤p→hitF l p a k=false) ∨
 (1≤fewA l p A∧fewA l p A≤p∧(∃ a,a<A∧hitF l p a (fewA l p A)=true)∧∀ a,a<A→∀ k,1≤k→k<fewA l p A→hitF l p a k=false)
 | 0=>.inl ⟨rfl,fun a h=>absurd h (Nat.not_lt_zero a)⟩
 | A+1=>by
  have ih:=fewA_spec l p A
  have hs:=scanB_spec l p A p 1 (fewA l p A) (fun k h1 h2 _=>by omega) (Nat.le_refl _)
  have e:fewA l p (A+1)=scanB l p A p 1 (fewA l p A):=rfl
  rw [← e] at hs
  rcases hs with ⟨s1,s2⟩|⟨s1,s2,s3,s4,s5⟩
  · rw [s1]
    rcases ih with ⟨i1,i2⟩|⟨i1,i2,⟨a,ia,ih⟩,i4⟩
    · left
      refine ⟨i1,fun a ha k h1 h2=>?_⟩
      by_cases h:a=A
      · subst h;exact s2 k h1 (by omega) (.inl i1)
      · exact i2 a (by omega) k h1 h2
    · right
      refine ⟨i1,i2,⟨a,by omega,ih⟩,fun a ha k h1 h2=>?_⟩
      by_cases h:a=A
      · subst h;exact s2 k h1 (by omega) (.inr h2)
      · exact i4 a (by omega) k h1 h2
  · right
    refine ⟨s1,by omega,⟨A,by omega,s3⟩,fun a ha k h1 h2=>?_⟩
    by_cases h:a=A
    · subst h;exact s5 k h1 h2
    · rcases ih with ⟨i1,i2⟩|⟨i1,i2,-,i4⟩
      · exact i2 a (by omega) k h1 (by omega)
      · exact i4 a (by omega) k h1 (by omega)
theorem few_circle {p:Int} {l:List Bnd} (hk:chk p l=0):(circleO l p.toNat=none→fewA l p.toNat p.toNat=0)∧∀ r,circleO l p.toNat=some r→fewA l p.toNat p.toNat=r.length∧1≤r.length:=by
 obtain ⟨hp1,hp2,-,-⟩:=chk_ok hk
 have hok:=okB_of hk
 have he0:=edges60 hk
 have he:∀ c∈l,0≤c.f∧c.f<p.toNat∧0≤c.t∧c.t<p.toNat∧-1000000≤c.m∧c.m≤1000000:=fun c hc=>by have:=he0 c hc;omega
 have hn:∀ a k,a<p.toNat→k≤60→hitF l p.toNat a k=true→neg l k a=true:=fun a k ha hk h=>by
  have h:=of_decide_eq_true h
  obtain ⟨r,hr,hw,-,-⟩:=frounds_walk he ha k a ha (by unfold farF;omega) hk
  have:=neg_of_walk hok hw h (by omega) (by omega)
  rw [hr,Int.toNat_natCast] at this
  exact this
 constructor
 · intro hc
   have hsc:scanR l p.toNat p.toNat 0=none:=by unfold circleO at hc;simpa using hc
   rcases fewA_spec l p.toNat p.toNat with ⟨h,-⟩|⟨h1,h2,⟨a,ha,hh⟩,-⟩
   · exact h
   · have:=hn a _ ha (by omega) hh
     rw [scanR_none hsc _ h1 (by omega) a ha] at this
     cases this
 · intro r hc
   obtain ⟨z,hz,hr⟩:∃ z,scanR l p.toNat p.toNat 0=some z∧backL l (startL z.2) z.1 z.2=r:=by
    unfold circleO at hc
    rw [Option.map_eq_some_iff] at hc
    exact hc
   obtain ⟨z1,z2,z3,z4,z5⟩:=scanR_some hz
   have hlen:r.length=z.1:=by rw [← hr];exact backL_length _ _ _ _
   rw [hlen]
   refine ⟨?_,z1⟩
   -- a walk of just so many bounds
   have hh:hitF l p.toNat z.2 z.1=true:=by
    have hneg:=of_decide_eq_true z4
    have hs0:=startL_length z.2
    obtain ⟨a',a0,a1,aI,hw⟩:=backL_spec hs0 hok z.1 z.2 (by omega) (by omega) (by rw [look_at];unfold Inf;omega) (fun j hj=>by
     rw [look_at,look_at]
     rcases Nat.eq_zero_or_pos j with h0|h0
     · subst h0
       rw [show rounds l 0 (startL z.2)=startL z.2 from rfl,at_startL (by omega) _ (by omega),if_pos rfl]
       exact hneg
     · have:=of_decide_eq_false (z5 j h0 (by omega) z.2 z3)
       omega)
    have haa:a'=(z.2:Int):=by
     rw [look_eq,at_startL (by omega) _ (by omega)] at aI
     by_cases e:z.2=a'.toNat
     · omega
     · rw [if_neg e] at aI;exact absurd rfl aI
    subst haa
    rw [look_at,look_at,at_startL (by omega) _ (by omega),if_pos rfl,Int.sub_zero] at hw
    have:=(walk_frounds he z3 z.1 _ _ _ hw (backL_length _ _ _ _) (by omega) (by omega) (by omega)).1
    rw [Int.toNat_natCast] at this
    exact decide_eq_true (by omega)
   rcases fewA_spec l p.toNat p.toNat with ⟨-,h⟩|⟨h1,h2,⟨a,ha,ha2⟩,h4⟩
   · rw [h _ z3 _ z1 (by omega)] at hh;cases hh
   · rcases Nat.lt_trichotomy (fewA l p.toNat p.toNat) z.1 with h|h|h
     · have:=hn a _ ha (by omega) ha2
       rw [z5 _ h1 h a ha] at this;cases this
     · exact h
     · rw [h4 _ z3 _ z1 h] at hh;cases hh
theorem circ_cases {P:Int} {l:List Bnd} (hk:chk P l=0):(slv P l=true∧circleV P l=([],false,0)) ∨
 (slv P l=false∧∃ Z,circleV P l=(Z,true,0)∧fewA l P.toNat P.toNat=Z.length∧1≤Z.length∧Z.length≤60∧checkCircleV P l Z=(true,0)):=by
 have hg:gcode P l []=0:=by unfold gcode;rw [hk];simp
 obtain ⟨f1,f2⟩:=few_circle hk
 cases ho:circleO l P.toNat with
 | none =>
  refine .inl ⟨solution_of hk ho,?_⟩
  unfold circleV circleL
  rw [if_pos hg,ho]
  rfl
 | some r =>
  obtain ⟨f3,f4⟩:=f2 r ho
  have hlz:(r.map Int.ofNat).length=r.length:=List.length_map ..
  have hp:=(chk_ok hk).2.1
  have hr60:r.length≤60:=by rw [← f3];rcases fewA_spec l P.toNat P.toNat with ⟨h,-⟩|⟨-,h,-⟩<;>omega
  refine .inr ⟨?_,r.map Int.ofNat,?_,f3.trans hlz.symm,by omega,by omega,circle_ok hk ho⟩
  · unfold slv
    cases hs:settle l P.toNat zeros with
    | none=>rfl
    | some z=>rw [no_circle hk hs] at ho;cases ho
  · unfold circleV circleL
    rw [if_pos hg,ho]
    rfl
def fewJ (a b:Otl) (p:Prg):Int × Bool :=
 if wayS a b p=false then ((fewA (wayL a b p) (wayP a b p).toNat (wayP a b p).toNat:Nat),false) else if turnS a b p=false then ((fewA (turnL a b p) (turnP a b p).toNat (turnP a b p).toNat:Nat),true) else (0,false)
theorem clash_cases {a b:Otl} {p:Prg} (h:asked a b p=0):(meetsB a b p=true∧clashV a b p=(([],false,false),0)∧fewJ a b p=(0,false)) ∨
 (meetsB a b p=false∧∃ Z tn,clashV a b p=((Z,tn,true),0)∧fewJ a b p=((Z.length:Int),tn)∧1≤Z.length∧Z.length≤60∧checkClashV tn a b p Z=(true,0)):=by
 have k1:=wayL_chk h
 have k2:=turnL_chk h
 unfold clashV checkClashV fewJ flawV meetsB wayS turnS
 rw [if_pos h]
 rcases circ_cases k1 with ⟨s1,c1⟩|⟨s1,Z,c1,f1,z1,z2,z3⟩
 · rcases circ_cases k2 with ⟨s2,c2⟩|⟨s2,Z,c2,f2,z1,z2,z3⟩
   · left
     rw [c1,c2,s1,s2]
     simp
   · right
     refine ⟨by rw [s2];simp,Z,true,?_,?_,z1,z2,?_⟩
     · rw [c1,c2];simp
     · rw [s1,s2,f2];simp
     · rw [if_pos h];exact z3
 · right
   refine ⟨by rw [s1];simp,Z,false,?_,?_,z1,z2,?_⟩
   · rw [c1];simp
   · rw [s1,f1];simp
   · rw [if_pos h];exact z3
theorem meets_noclash {a b:Otl} {p:Prg} (h:asked a b p=0) (hm:meetsB a b p=true) (u:Bool) (x:List Int):checkClashV u a b p x=(false,0):=by
 unfold checkClashV
 rw [if_pos h]
 unfold meetsB at hm
 rw [Bool.and_eq_true] at hm
 have hs:slv (jP u a b p) (jL u a b p)=true:=by
  cases u
  · exact hm.1
  · exact hm.2
 obtain ⟨z,hz⟩:=Option.isSome_iff_exists.1 hs
 exact circle_no x (jL_chk h u) hz
theorem noplace {a b:Otl} {p:Prg} (h:asked a b p=0) (hm:meetsB a b p=false) (xa xb ya yb:List Int):checkPlaceV a b p xa xb ya yb=(false,0):=by
 unfold checkPlaceV
 rw [if_pos h]
 cases hp:plB a b p xa xb ya yb
 · rfl
 · rw [placed_meets h hp] at hm;cases hm
def placeV (a b:Otl) (p:Prg):Bool × Int × List Int × List Int × List Int × List Int :=
 if asked a b p=0 then (if meetsB a b p then (true,0,mkA a (solveV (wayP a b p) (wayL a b p)).1,mkB a b p (solveV (wayP a b p) (wayL a b p)).1,mkC a (solveV (turnP a b p) (turnL a b p)).1,mkD a b p (solveV (turnP a b p) (turnL a b p)).1) else (false,0,[],[],[],[]))
 else (false,asked a b p,[],[],[],[])
theorem Place_any (c:Int) (A B:Option Addr) (n k m j:Nat) (ws ts:List Bnd) (d:Int) (C D:Option Addr) (n2 k2 m2 j2:Nat) (ws2 ts2:List Bnd) (p1 p2 p3 p4:Int) (w:World) (h1:RdB w A n k ws) (h2:RdB w B m j ts) (hn:n≤maxLen) (hm:m≤maxLen) (h3:RdB w C n2 k2 ws2) (h4:RdB w D m2 j2 ts2) (hn2:n2≤maxLen) (hm2:m2≤maxLen) (V:Bool × Int × List Int × List Int × List Int × List Int) (hV:placeV ⟨c,ws,ts⟩ ⟨d,ws2,ts2⟩ ⟨p1,p2,p3,p4⟩=V):Calls Tryz.prog 11 #[.agg #[.int .i64 c,.slice A n k,.slice B m j],.agg #[.int .i64 d,.slice C n2 k2,.slice D m2 j2],.agg #[.int .i64 p1,.int .i64 p2,.int .i64 p3,.int .i64 p4]] w (RetPl V.1 V.2.1 V.2.2.1 V.2.2.2.1 V.2.2.2.2.1 V.2.2.2.2.2 w):=by
 subst hV
 unfold placeV
 by_cases hq:asked ⟨c,ws,ts⟩ ⟨d,ws2,ts2⟩ ⟨p1,p2,p3,p4⟩=0
 · rw [if_pos hq]
   cases hmb:meetsB ⟨c,ws,ts⟩ ⟨d,ws2,ts2⟩ ⟨p1,p2,p3,p4⟩
   · rw [if_neg (by simp)]
     exact Place_no c A B n k m j ws ts d C D n2 k2 m2 j2 ws2 ts2 p1 p2 p3 p4 w h1 h2 hn hm h3 h4 hn2 hm2 hq (hid hmb)
   · rw [if_pos rfl]
     exact Place_yes c A B n k m j ws ts d C D n2 k2 m2 j2 ws2 ts2 p1 p2 p3 p4 w h1 h2 hn hm h3 h4 hn2 hm2 hq (hid hmb)
 · rw [if_neg hq]
   exact Place_err c A B n k m j ws ts d C D n2 k2 m2 j2 ws2 ts2 p1 p2 p3 p4 w h1 h2 hn hm h3 h4 hn2 hm2 _ rfl hq (by simpa using hq)
theorem either_cases {a b:Otl} {p:Prg} (h:asked a b p=0):∃ mb L1 L2 L3 L4 Z tn,meetsV a b p=(mb,0)∧placeV a b p=(mb,0,L1,L2,L3,L4)∧clashV a b p=((Z,tn,!mb),0)∧checkPlaceV a b p L1 L2 L3 L4=(mb,0)∧checkClashV tn a b p Z=(!mb,0)∧fewJ a b p=((Z.length:Int),tn)∧Z.length≤60 ∧
 (mb=true→Z=[]∧tn=false)∧(mb=false→L1=[]∧L2=[]∧L3=[]∧L4=[])∧(L1.length≤17):=by
 unfold meetsV placeV
 rw [if_pos h,if_pos h]
 rcases clash_cases h with ⟨hm,c1,c2⟩|⟨hm,Z,tn,c1,c2,z1,z2,z3⟩
 · refine ⟨true,_,_,_,_,[],false,by rw [hm],by rw [if_pos hm],c1,?_,meets_noclash h hm _ _,c2,by simp,fun _=>⟨rfl,rfl⟩,(fun e=>nomatch e),?_⟩
   · unfold checkPlaceV
     rw [if_pos h,mk_placed h hm]
   · obtain ⟨oa,ob,-⟩:=chkP_ok (asked_ok h).1
     obtain ⟨a1,a2,-,-⟩:=chkO_ok oa
     unfold mkA
     rw [made_length]
     omega
 · exact ⟨false,[],[],[],[],Z,tn,by rw [hm],by rw [if_neg (by rw [hm];simp)],c1,noplace h hm _ _ _ _,z3,c2,z2,(fun e=>nomatch e),(fun _=>⟨rfl,rfl,rfl,rfl⟩),by simp⟩
end Go.Proofs.YtjjmifcjailpaaaGreat
