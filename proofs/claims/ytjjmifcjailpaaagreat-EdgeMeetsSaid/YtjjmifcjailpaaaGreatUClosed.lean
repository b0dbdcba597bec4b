import Derived.Test.YtjjmifcjailpaaaGreatUEnds
import Derived.Test.YtjjmifcjailpaaaGreatUCircle
import Derived.Test.YtjjmifcjailpaaaGreatUSums
import Derived.Test.YtjjmifcjailpaaaGreatUChn
set_option linter.unusedSimpArgs false
set_option linter.unusedVariables false
namespace Go.Proofs.YtjjmifcjailpaaaGreat
open Go.Lib (hid)
open Go.RowKit
def circleV (p:Int) (l:List Bnd):List Int × Bool × Int :=
 if gcode p l []=0 then (circleL l p.toNat,(circleO l p.toNat).isSome,0) else ([],false,gcode p l [])
set_option maxHeartbeats 2000000 in
theorem Circle_any (p:Int) (A:Option Addr) (n c:Nat) (l:List Bnd) (w:World) (hr:RdB w A n c l) (hn:n≤maxLen) :
 Calls Tryz.prog 83 #[.agg #[.int .i64 p,.slice A n c]] w (RetI (circleV p l) w):=by
 have hB:Below w.heap.size w (w.alloc (.cells #[.int .i64 p,.slice A n c] 84)):=(Below.refl _ w).alloc (Nat.le_refl _) _
 have hc:=graphOf_any p A none n c 0 0 l [] _ (hr.below hB) hn (RdI.nil_ _) (by omega)
 have HC:=hid hc;have HR:=hid hr;clear hc hr
 unfold circleV
 by_cases hg:gcode p l []=0
 · obtain ⟨hk,-⟩:=gcode_ok hg
   obtain ⟨hp1,hp2,hlen,-⟩:=chk_ok hk
   have hok:=okB_of hk
   rw [if_pos hg]
   rw [hg,sysR_yes] at HC
   clear hg hk
   obtain ⟨p,rfl⟩:=Int.eq_ofNat_of_zero_le (show 0≤p by omega)
   rw [Int.toNat_natCast]
   have hn2:n≤402:=by have:=HR.out.len;omega
   have hci:=fun w' hw'=>circle_any p A n c l (by omega) hn2 hok w' (HR.out.below hw')
   unfold RetB at hci
   generalize circleL l p=V at *
   generalize (circleO l p).isSome=ok at *
   have HCI:=hid hci;clear hci hok
   go_enter Tryz.func83,Tryz.ntmps83
   go_wp2_with fail
   refine HC.out.mono ?_
   rintro e w1 ⟨rfl,hb1⟩
   have hB1:=hB.trans (hb1.mono hB.size)
   go_wp2_with fail
   refine (HCI.out _ (hB1.alloc hB1.size _)).mono ?_
   rintro e w2 ⟨A2,n2,c2,rfl,ho,hb2⟩
   have HO:=hid ho;clear ho
   have hB2:=(hB1.alloc hB1.size (.cells #[.int .i64 (p:Int),.slice A n c] 128)).trans (hb2.mono (hB1.alloc hB1.size _).size)
   go_wp2
   go_ret3
   exact ⟨A2,n2,c2,rfl,owns_base HO.out (hB1.alloc hB1.size _).size,hB2⟩
 · rw [if_neg hg]
   generalize gcode p l []=q at *
   rw [sysR_no hg] at HC
   have hne:(q != 0)=true:=by simpa using hg
   clear hg
   go_enter Tryz.func83,Tryz.ntmps83
   go_wp2_with fail
   refine HC.out.mono ?_
   rintro e w1 ⟨rfl,hb1⟩
   have hB1:=hB.trans (hb1.mono hB.size)
   go_wp2
   go_ret3
   exact ⟨none,0,0,rfl,OwnI.nil_ _ _,(by have hsz_:=Below.size hB1;repeat' (first|with_reducible exact hB1|with_reducible exact Below.refl _ _|with_reducible refine Below.alloc ?_ ?_ _|with_reducible refine Below.setCell ?_ ?_ _|with_reducible refine Below.drew ?_|with_reducible refine below_setRow ?_ ?_ _|omega | (simp;done) | (simp;omega)))⟩
theorem edges_of {p:Int} {l:List Bnd} (hk:chk p l=0):∀ c∈l,c.f.toNat<p.toNat∧c.t.toNat<p.toNat:=fun c hc=>by
 obtain ⟨_,_,_,h⟩:=chk_ok hk
 have:=h c hc
 unfold okBnd at this
 rw [decide_eq_true_eq] at this
 omega
theorem at_shift (z:List Int) (d:Int) {v:Nat} (hv:v<z.length):at_ (z.map (· - d)) v=at_ z v-d:=by
 simp [at_,List.getD_eq_getElem?_getD,hv]
theorem at_shift_out (z:List Int) (d:Int) {v:Nat} (hv:z.length≤v):at_ (z.map (· - d)) v=0:=by
 simp [at_,List.getD_eq_getElem?_getD,hv]
theorem at_out {z:List Int} {v:Nat} (hv:z.length≤v):at_ z v=0:=by
 simp [at_,List.getD_eq_getElem?_getD,hv]
theorem shift_ok {p:Int} {l:List Bnd} {a:Nat} (hk:chk p l=0) (hs:(settle l p.toNat zeros).isSome=true) (ha:a<60) :
 ∃ y,Stable l y∧(∀ v,at_ y v≤at_ (startL a) v)∧at_ y a=0:=by
 obtain ⟨hp1,hp2,-,-⟩:=chk_ok hk
 have hg:=edges_of hk
 have hok:=okB_of hk
 obtain ⟨z,hz⟩:=Option.isSome_iff_exists.1 hs
 obtain ⟨hst,-,hlen,hle⟩:=stable_settle hg (by rw [zeros_length];omega) hz
 rw [zeros_length] at hlen
 have hwd:=wd_setL (p:=p.toNat) (wd_zeros (Int.le_refl 0)) hok (Int.le_refl 0) (by omega)
 have hzz:setL l p.toNat zeros=z:=by unfold setL;rw [hz];rfl
 rw [hzz] at hwd
 have hfin:∀ v,at_ z v≤0:=fun v=>by have:=hle v;rw [at_zeros] at this;exact this
 have hlow:∀ v,v<60→-6000000000≤at_ z v:=fun v hv=>by
  rcases hwd.2 v hv with h|h
  · have:=hfin v;rw [h] at this;unfold Inf at this;omega
  · omega
 refine ⟨z.map (· - at_ z a),fun c hc hI=>?_,fun v=>?_,by rw [at_shift _ _ (by omega)];omega⟩
 · obtain ⟨f0,f1,t0,t1,-,-⟩:=hok c hc
   have h1:=hst c hc (by rw [look_eq];have:=hfin c.f.toNat;unfold Inf;omega)
   rw [look_eq,look_eq] at h1 ⊢
   rw [at_shift _ _ (by omega),at_shift _ _ (by omega)]
   omega
 · by_cases hv:v<60
   · rw [at_shift _ _ (by omega),at_startL ha v hv]
     split
     · rename_i h;subst h;omega
     · have:=hfin v;have:=hlow a ha;unfold Inf;omega
   · rw [at_shift_out _ _ (by omega),at_out (by rw [startL_length];omega)]
     exact Int.le_refl _
theorem startL_le {a:Nat} (ha:a<60) (v:Nat):at_ (startL a) v≤Inf:=by
 by_cases hv:v<60
 · rw [at_startL ha v hv];split<;>(unfold Inf;omega)
 · rw [at_out (by rw [startL_length];omega)];unfold Inf;omega
def IsWalk (l:List Bnd):List Nat→Int→Int→Int→Prop
 | [],a,b,s=>a=b∧s=0
 | i::r,a,b,s=>∃ c,l[i]?=some c∧c.f=a∧IsWalk l r c.t b (s-c.m)
theorem IsWalk.append {l:List Bnd}:∀ {r1 r2:List Nat} {a c b s1 s2:Int},IsWalk l r1 a c s1→IsWalk l r2 c b s2→IsWalk l (r1++r2) a b (s1+s2)
 | [],r2,a,c,b,s1,s2,h1,h2=>by
  obtain ⟨rfl,rfl⟩:=h1
  rw [List.nil_append,Int.zero_add];exact h2
 | i::r1,r2,a,c,b,s1,s2,h1,h2=>by
  obtain ⟨x,hx,hf,h1⟩:=h1
  have:=IsWalk.append h1 h2
  exact ⟨x,hx,hf,by rw [show s1+s2-x.m=s1-x.m+s2 from by omega];exact this⟩
theorem IsWalk.snoc {l:List Bnd} {r:List Nat} {a s:Int} {i:Nat} {c:Bnd} (h:IsWalk l r a c.f s) (hi:l[i]?=some c):IsWalk l (r++[i]) a c.t (s+c.m) :=
 h.append ⟨c,hi,rfl,rfl,by omega⟩
theorem IsWalk.split {l:List Bnd}:∀ {r1 r2:List Nat} {a b s:Int},IsWalk l (r1++r2) a b s→∃ c s1,IsWalk l r1 a c s1∧IsWalk l r2 c b (s-s1)
 | [],r2,a,b,s,h=>⟨a,0,⟨rfl,rfl⟩,by rw [Int.sub_zero];exact h⟩
 | i::r1,r2,a,b,s,h=>by
  obtain ⟨x,hx,hf,h⟩:=h
  obtain ⟨c,s1,h1,h2⟩:=IsWalk.split h
  exact ⟨c,s1+x.m,⟨x,hx,hf,by rw [show s1+x.m-x.m=s1 from by omega];exact h1⟩,by rw [show s-(s1+x.m)=s-x.m-s1 from by omega];exact h2⟩
theorem walk_le {l:List Bnd} {x0:List Int} (hx:x0.length=60) (hok:OkB l):∀ {r:List Nat} {a b s:Int} (k:Nat) (v:Int),IsWalk l r a b s→at_ (rounds l k x0) a.toNat≤v→v+r.length * 100000000<Inf →
 at_ (rounds l (k+r.length) x0) b.toNat≤v+s
 | [],a,b,s,k,v,h,hv,_=>by
  obtain ⟨rfl,rfl⟩:=h
  simpa using hv
 | i::r,a,b,s,k,v,h,hv,hI=>by
  obtain ⟨c,hc,rfl,h⟩:=h
  have hm:=List.mem_of_getElem? hc
  obtain ⟨f0,f1,t0,t1,m0,m1⟩:=hok c hm
  rw [List.length_cons] at hI
  have h1:at_ (rounds l (k+1) x0) c.t.toNat≤v+c.m:=by
   have:=longer_edge (l:=l) (x:=rounds l k x0) hm (by rw [look_eq];unfold Inf at *;omega) (by rw [rounds_length,hx];omega)
   rw [look_eq] at this
   show at_ (longer l (rounds l k x0)) _≤_
   omega
  have:=walk_le hx hok (k+1) (v+c.m) h h1 (by push_cast at hI;omega)
  rw [List.length_cons,show k+(r.length+1)=k+1+r.length from by omega]
  omega
theorem walk_kept {l:List Bnd} {y:List Int} (hs:∀ c∈l,look y c.t≤look y c.f+c.m):∀ {r:List Nat} {a b s:Int},IsWalk l r a b s→look y b≤look y a+s
 | [],a,b,s,h=>by obtain ⟨rfl,rfl⟩:=h;omega
 | i::r,a,b,s,h=>by
  obtain ⟨c,hc,rfl,h⟩:=h
  have h1:=walk_kept hs h
  have h2:=hs c (List.mem_of_getElem? hc)
  omega
theorem frm_of {l:List Bnd} {i:Nat} {c:Bnd} (h:l[i]?=some c):frm l i=c.f:=by unfold frm;rw [h]
theorem backL_spec {l:List Bnd} {x0:List Int} (hx:x0.length=60) (hok:OkB l):∀ (k:Nat) (b:Int),0≤b→b<60→look (rounds l k x0) b≠Inf→(∀ j,k=j+1→look (rounds l k x0) b<look (rounds l j x0) b) →
 ∃ a,0≤a∧a<60∧look x0 a≠Inf∧IsWalk l (backL l x0 k b) a b (look (rounds l k x0) b-look x0 a)
 | 0,b,h0,h1,hI,_=>⟨b,h0,h1,hI,rfl,by show look x0 b-look x0 b=0;omega⟩
 | k+1,b,h0,h1,hI,hlt=>by
  have hl:=hlt k rfl
  obtain ⟨c,hc,rfl,hfI,hv⟩:=step_spec (l:=l) (x:=rounds l k x0) hok h0 hl
  have hm:=List.mem_of_getElem? hc
  obtain ⟨f0,f1,t0,t1,m0,m1⟩:=hok c hm
  have hfr:=frm_of hc
  obtain ⟨a,a0,a1,aI,hw⟩:=backL_spec hx hok k c.f f0 f1 hfI (fun j hj=>by subst hj;exact strict_next hx hok hm hfI hv hl)
  refine ⟨a,a0,a1,aI,?_⟩
  unfold backL
  have e:stepL l (rounds l k x0) c.t (look (rounds l (k+1) x0) c.t)=stepL l (rounds l k x0) c.t (look (longer l (rounds l k x0)) c.t):=rfl
  rw [e,hfr]
  have:=hw.snoc hc
  rw [show look (rounds l (k+1) x0) c.t-look x0 a=look (rounds l k x0) c.f-look x0 a+c.m from by have:look (rounds l (k+1) x0) c.t=_:=hv.symm;omega]
  exact this
theorem walk_at {l:List Bnd} {q:Int} {e:List Int}:∀ {r:List Nat} {a b s:Int},IsWalk l r a b s→(e=[]∨e=[b])→q∈r.map (frm l)++e →
 ∃ r1 r2 s1,r=r1++r2∧IsWalk l r1 a q s1∧IsWalk l r2 q b (s-s1)∧(e=[]→r2≠[])
 | [],a,b,s,h,he,hq=>by
  obtain ⟨rfl,rfl⟩:=h
  rcases he with rfl|rfl
  · simp at hq
  · simp only [List.map_nil,List.nil_append,List.mem_singleton] at hq
    subst hq
    exact ⟨[],[],0,rfl,⟨rfl,rfl⟩,⟨rfl,rfl⟩,fun h=>by cases h⟩
 | i::r,a,b,s,h,he,hq=>by
  obtain ⟨c,hc,hf,h⟩:=h
  by_cases hqa:q=c.f
  · subst hqa
    exact ⟨[],i::r,0,rfl,⟨hf.symm,rfl⟩,⟨c,hc,rfl,by rw [Int.sub_zero];exact h⟩,fun _ h=>by cases h⟩
  · rw [List.map_cons,List.cons_append,List.mem_cons,frm_of hc] at hq
    obtain ⟨r1,r2,s1,rfl,h1,h2,h3⟩:=walk_at h he (hq.resolve_left hqa)
    exact ⟨i::r1,r2,s1+c.m,rfl,⟨c,hc,hf,by rw [show s1+c.m-c.m=s1 from by omega];exact h1⟩,by rw [show s-(s1+c.m)=s-c.m-s1 from by omega];exact h2,h3⟩
theorem walk_dup {l:List Bnd} {e:List Int}:∀ {r:List Nat} {a b s:Int},IsWalk l r a b s→(e=[]∨e=[b])→¬ (r.map (frm l)++e).Nodup →
 ∃ r1 r2 r3 c s1 s2,r=r1++r2++r3∧r2≠[]∧(e=[]→r3≠[])∧IsWalk l r1 a c s1∧IsWalk l r2 c c s2∧IsWalk l r3 c b (s-s1-s2)
 | [],a,b,s,h,he,hn=>by
  rcases he with rfl|rfl<;>simp at hn
 | i::r,a,b,s,h,he,hn=>by
  obtain ⟨c,hc,hf,h⟩:=h
  rw [List.map_cons,List.cons_append,List.nodup_cons,frm_of hc] at hn
  by_cases hd:(r.map (frm l)++e).Nodup
  · have hm:c.f∈r.map (frm l)++e:=by
     by_cases hm:c.f∈r.map (frm l)++e
     · exact hm
     · exact absurd ⟨hm,hd⟩ hn
    obtain ⟨r1,r2,s1,rfl,h1,h2,h3⟩:=walk_at h he hm
    exact ⟨[],i::r1,r2,c.f,0,c.m+s1,rfl,(fun h=>by cases h),h3,⟨hf.symm,rfl⟩,⟨c,hc,rfl,by rw [show c.m+s1-c.m=s1 from by omega];exact h1⟩,by rw [show s-0-(c.m+s1)=s-c.m-s1 from by omega];exact h2⟩
  · obtain ⟨r1,r2,r3,d,s1,s2,rfl,h2,h3,w1,w2,w3⟩:=walk_dup h he hd
    exact ⟨i::r1,r2,r3,d,s1+c.m,s2,rfl,h2,h3,⟨c,hc,hf,by rw [show s1+c.m-c.m=s1 from by omega];exact w1⟩,w2,by rw [show s-(s1+c.m)-s2=s-c.m-s1-s2 from by omega];exact w3⟩
theorem nodup_sub:∀ {L A:List Nat},L.Nodup→(∀ x∈L,x∈A)→L.length≤A.length
 | [],_,_,_=>Nat.zero_le _
 | x::L,A,hd,h=>by
  rw [List.nodup_cons] at hd
  have hx:=h x (List.mem_cons_self ..)
  have:=nodup_sub (L:=L) (A:=A.erase x) hd.2 (fun y hy=>(List.mem_erase_of_ne (fun e=>hd.1 (by rw [← e];exact hy))).2 (h y (List.mem_cons_of_mem _ hy)))
  rw [List.length_erase_of_mem hx] at this
  have:=List.length_pos_of_mem hx
  rw [List.length_cons]
  omega
theorem nodup_le {P:Nat} {L:List Int} (hd:L.Nodup) (h:∀ x∈L,0≤x∧x<P):L.length≤P:=by
 have h1:(L.map Int.toNat).Nodup:=by
  rw [List.nodup_iff_pairwise_ne,List.pairwise_map]
  exact (List.nodup_iff_pairwise_ne.1 hd).imp_of_mem (fun {a b} ha hb hab=>by have:=h a ha;have:=h b hb;omega)
 have h2:∀ x∈L.map Int.toNat,x∈List.range P:=fun x hx=>by
  obtain ⟨y,hy,rfl⟩:=List.mem_map.1 hx
  have:=h y hy
  rw [List.mem_range];omega
 have:=nodup_sub h1 h2
 simpa using this
theorem walk_end {l:List Bnd} {P:Nat} (hP:∀ c∈l,0≤c.f∧c.f<P∧0≤c.t∧c.t<P):∀ {r:List Nat} {a b s:Int},IsWalk l r a b s→(∀ q∈r.map (frm l),0≤q∧q<P)∧(r≠[]→(0≤a∧a<P)∧0≤b∧b<P)
 | [],a,b,s,h=>⟨by simp,fun h=>absurd rfl h⟩
 | i::r,a,b,s,h=>by
  obtain ⟨c,hc,rfl,h⟩:=h
  have h1:=hP c (List.mem_of_getElem? hc)
  obtain ⟨h2,h3⟩:=walk_end hP h
  refine ⟨fun q hq=>?_,fun _=>⟨⟨h1.1,h1.2.1⟩,?_⟩⟩
  · rw [List.map_cons,List.mem_cons,frm_of hc] at hq
    rcases hq with rfl|hq
    · exact ⟨h1.1,h1.2.1⟩
    · exact h2 q hq
  · by_cases hr:r=[]
    · subst hr
      obtain ⟨rfl,-⟩:=h
      exact ⟨h1.2.2.1,h1.2.2.2⟩
    · exact (h3 hr).2
theorem scanP_none {l:List Bnd} {r:Nat}:∀ {n p:Nat},scanP l r n p=none→∀ q,p≤q→q<p+n→neg l (r+1) q=false
 | 0,p,_,q,h1,h2=>by omega
 | n+1,p,h,q,h1,h2=>by
  unfold scanP at h
  split at h
  · cases h
  · rename_i hn
    by_cases e:q=p
    · subst e;simpa using hn
    · exact scanP_none h q (by omega) (by omega)
theorem scanP_some {l:List Bnd} {r:Nat}:∀ {n p q:Nat},scanP l r n p=some q→p≤q∧q<p+n∧neg l (r+1) q=true
 | n+1,p,q,h=>by
  unfold scanP at h
  split at h
  · rename_i hn
    injection h with h
    subst h
    exact ⟨Nat.le_refl _,by omega,hn⟩
  · have:=scanP_some h
    exact ⟨by omega,by omega,this.2.2⟩
theorem scanR_none {l:List Bnd} {P:Nat}:∀ {n r:Nat},scanR l P n r=none→∀ k,r<k→k≤r+n→∀ q,q<P→neg l k q=false
 | 0,r,_,k,h1,h2=>by omega
 | n+1,r,h,k,h1,h2=>by
  unfold scanR at h
  split at h
  · cases h
  · rename_i hn
    intro q hq
    by_cases e:k=r+1
    · subst e;exact scanP_none hn q (by omega) (by omega)
    · exact scanR_none h k (by omega) (by omega) q hq
theorem scanR_some {l:List Bnd} {P:Nat}:∀ {n r:Nat} {z:Nat × Nat},scanR l P n r=some z→r<z.1∧z.1≤r+n∧z.2<P∧neg l z.1 z.2=true∧∀ k,r<k→k<z.1→∀ q,q<P→neg l k q=false
 | n+1,r,z,h=>by
  unfold scanR at h
  split at h
  · rename_i p hp
    injection h with h
    subst h
    have:=scanP_some hp
    exact ⟨by show r<r+1;omega,by show r+1≤r+(n+1);omega,by show p<P;omega,this.2.2,fun k h1 h2=>by have h2:k<r+1:=h2;omega⟩
  · rename_i hn
    obtain ⟨h1,h2,h3,h4,h5⟩:=scanR_some h
    refine ⟨by omega,by omega,h3,h4,fun k k1 k2 q hq=>?_⟩
    by_cases e:k=r+1
    · subst e;exact scanP_none hn q (by omega) (by omega)
    · exact h5 k (by omega) k2 q hq
theorem neg_of_walk {l:List Bnd} (hok:OkB l) {r:List Nat} {a s:Int} (h:IsWalk l r a a s) (hs:s<0) (ha:0≤a∧a<60) (hr:r.length≤1000):neg l r.length a.toNat=true:=by
 have:=walk_le (x0:=startL a.toNat) (startL_length _) hok 0 0 h (by rw [show rounds l 0 (startL a.toNat)=startL a.toNat from rfl,at_startL (by omega) _ (by omega),if_pos rfl];omega) (by unfold Inf;omega)
 unfold neg
 rw [Nat.zero_add] at this
 rw [decide_eq_true_eq];omega
theorem edges60 {p:Int} {l:List Bnd} (hk:chk p l=0):∀ c∈l,0≤c.f∧c.f<p.toNat∧0≤c.t∧c.t<p.toNat∧c.f≠c.t∧-1000000≤c.m∧c.m≤1000000:=fun c hc=>by
 obtain ⟨h1,h2,_,h⟩:=chk_ok hk
 have:=of_decide_eq_true (h c hc)
 omega
theorem solution_of {p:Int} {l:List Bnd} (hk:chk p l=0) (hn:circleO l p.toNat=none):(settle l p.toNat zeros).isSome=true:=by
 obtain ⟨hp1,hp2,hlen,-⟩:=chk_ok hk
 have hok:=okB_of hk
 have he:=edges60 hk
 have hsc:scanR l p.toNat p.toNat 0=none:=by
  unfold circleO at hn
  simpa using hn
 have hno:=fun k h1 h2 q hq=>scanR_none hsc k h1 (by omega) q hq
 have hx:=zeros_length
 -- the last round changes nothing
 have hst:longer l (rounds l (p.toNat-1) zeros)=rounds l (p.toNat-1) zeros:=by
  apply ext_at (by rw [longer_length])
  intro v hv
  rw [longer_length,rounds_length,hx] at hv
  rcases Int.lt_or_eq_of_le (longer_le l (rounds l (p.toNat-1) zeros) v) with hlt|heq
  · exfalso
    have hP:p.toNat-1+1=p.toNat:=by omega
    have hR:longer l (rounds l (p.toNat-1) zeros)=rounds l p.toNat zeros:=by rw [← hP];rfl
    have hz:=rounds_le0 l zeros v p.toNat
    rw [at_zeros] at hz
    obtain ⟨a,a0,a1,aI,hw⟩:=backL_spec hx hok p.toNat v (by omega) (by omega) (by rw [look_at];unfold Inf;omega) (fun j hj=>by rw [show j=p.toNat-1 from by omega,look_at,look_at,← hR];exact hlt)
    have ha:look zeros a=0:=by rw [look_eq,at_zeros]
    rw [ha,Int.sub_zero,look_at] at hw
    have hwl:=backL_length l zeros p.toNat v
    obtain ⟨e1,e2⟩:=walk_end (P:=p.toNat) (fun c hc=>by have:=he c hc;omega) hw
    have hne:backL l zeros p.toNat v≠[]:=fun h=>by rw [h] at hwl;simp at hwl;omega
    have hnd:¬ ((backL l zeros p.toNat v).map (frm l)++[(v:Int)]).Nodup:=fun hd=>by
     have:=nodup_le (P:=p.toNat) hd (fun x hx=>by
      rcases List.mem_append.1 hx with h|h
      · exact e1 x h
      · rw [List.mem_singleton.1 h];exact (e2 hne).2)
     rw [List.length_append,List.length_map,hwl,List.length_singleton] at this
     omega
    obtain ⟨r1,r2,r3,c,s1,s2,hr,hr2,-,w1,w2,w3⟩:=walk_dup hw (.inr rfl) hnd
    have hlen3:r1.length+r2.length+r3.length=p.toNat:=by rw [← hwl,hr,List.length_append,List.length_append]
    have hl2:0<r2.length:=List.length_pos_iff.2 hr2
    obtain ⟨-,hc⟩:=walk_end (P:=p.toNat) (fun c hc=>by have:=he c hc;omega) w2
    have hc:=(hc hr2).1
    by_cases hs2:s2<0
    · have:=neg_of_walk hok w2 hs2 (by omega) (by omega)
      rw [hno _ hl2 (by omega) _ (by omega)] at this
      cases this
    · have h13:=w1.append w3
      have:=walk_le hx hok 0 0 h13 (by rw [show rounds l 0 zeros=zeros from rfl,at_zeros];omega) (by rw [List.length_append];unfold Inf;omega)
      rw [Nat.zero_add,List.length_append,Int.toNat_natCast] at this
      have h2:=rounds_le l zeros v (r1.length+r3.length) (p.toNat-1-(r1.length+r3.length))
      rw [show r1.length+r3.length+(p.toNat-1-(r1.length+r3.length))=p.toNat-1 from by omega] at h2
      rw [hR] at hlt
      omega
  · exact heq
 have hstab:Stable l (rounds l (p.toNat-1) zeros):=stable_of_same (fun c hc=>by rw [rounds_length,hx];have:=he c hc;omega) hst
 obtain ⟨h,-⟩:=settle_of_stable (p:=p.toNat) (x:=zeros) (by omega) (edges_of hk) (by rw [hx];omega) (fun v=>by rw [at_zeros];unfold Inf;omega) hstab (fun v=>rounds_le0 l zeros v _)
 rw [h];rfl
theorem sol_spec {p:Int} {l:List Bnd} {z:List Int} (hk:chk p l=0) (hz:settle l p.toNat zeros=some z) :
 z.length=60∧(∀ c∈l,look z c.t≤look z c.f+c.m)∧(∀ v,at_ z v≤0)∧∀ v,-60000000≤at_ z v:=by
 obtain ⟨hp1,hp2,hlen,-⟩:=chk_ok hk
 have he:=edges60 hk
 obtain ⟨hst,-,hl,hle⟩:=stable_settle (edges_of hk) (by rw [zeros_length];omega) hz
 rw [zeros_length] at hl
 have h0:∀ v,at_ z v≤0:=fun v=>by have:=hle v;rw [at_zeros] at this;exact this
 refine ⟨hl,fun c hc=>hst c hc (by rw [look_eq];have:=h0 c.f.toNat;unfold Inf;omega),h0,fun v=>?_⟩
 obtain ⟨k,hkp,rfl,-⟩:=settle_some hz
 have key:∀ j:Nat,∀ v,-((j:Int) * 1000000)≤at_ (rounds l j zeros) v:=by
  intro j
  induction j with
  | zero=>intro v;rw [show rounds l 0 zeros=zeros from rfl,at_zeros];omega
  | succ j ih =>
   intro v
   rcases longer_cases l (rounds l j zeros) v with h|⟨c,hc,_,_,h⟩
   · have:=ih v
     show _≤at_ (longer l (rounds l j zeros)) v
     rw [h];omega
   · have:=ih c.f.toNat
     have:=he c hc
     show _≤at_ (longer l (rounds l j zeros)) v
     rw [h,look_eq];omega
 have:=key k v
 omega
theorem no_circle {p:Int} {l:List Bnd} {z:List Int} (hk:chk p l=0) (hz:settle l p.toNat zeros=some z):circleO l p.toNat=none:=by
 obtain ⟨hp1,hp2,hlen,-⟩:=chk_ok hk
 have hok:=okB_of hk
 cases hsc:scanR l p.toNat p.toNat 0 with
 | none=>unfold circleO;rw [hsc];rfl
 | some q =>
  exfalso
  obtain ⟨h1,h2,h3,h4,h5⟩:=scanR_some hsc
  unfold neg at h4
  rw [decide_eq_true_eq] at h4
  obtain ⟨y,y1,y2,y3⟩:=shift_ok (a:=q.2) hk (by rw [hz];rfl) (by omega)
  have:=rounds_ge y1 y2 (startL_le (by omega)) q.1 q.2
  omega
theorem chain_walk {l:List Bnd}:∀ {x:List Int} {L:List Bool} {q:Option Int} {s z:Int},chainG l x L q s=(z,true)→x≠[] →
 IsWalk l (x.map Int.toNat) (bnd l (at_ x 0)).f (bnd l (at_ x (x.length-1))).t (z-s)∧(∀ t,q=some t→t=(bnd l (at_ x 0)).f)
 | [],_,_,_,_,_,h=>absurd rfl h
 | i::r,L,q,s,z,h,_=>by
  unfold chainG at h
  split at h
  · rename_i hi
    cases hc:l[i.toNat]? with
    | none=>rw [hc] at h;cases h
    | some c =>
     rw [hc] at h
     simp only at h
     have key:∀ (g:Bool) (u:Int × Bool),(if (atB L c.f.toNat || g)=true then ((0:Int),false) else u)=(z,true)→g=false∧u=(z,true):=fun g u hh=>by
      by_cases hg:(atB L c.f.toNat || g)=true
      · rw [if_pos hg] at hh;injection hh with _ hh;cases hh
      · rw [if_neg hg] at hh
        cases g
        · exact ⟨rfl,hh⟩
        · rw [Bool.or_true] at hg;exact absurd rfl hg
     obtain ⟨hcond,h⟩:=key _ _ h
     · skip
       have hb:bnd l i=c:=by unfold bnd;rw [List.getD_eq_getElem?_getD,hc];rfl
       have e0:at_ (i::r) 0=i:=rfl
       rw [e0,hb]
       refine ⟨?_,fun t ht=>?_⟩
       · by_cases hr:r=[]
         · subst hr
           unfold chainG at h
           injection h with h _
           rw [List.map_cons,List.map_nil]
           refine ⟨c,hc,rfl,?_⟩
           rw [show at_ [i] ([i].length-1)=i from rfl,hb]
           exact ⟨rfl,by omega⟩
         · obtain ⟨h1,h2⟩:=chain_walk h hr
           have:=h2 _ rfl
           refine ⟨c,hc,rfl,?_⟩
           rw [show z-s-c.m=z-(s+c.m) from by omega,this]
           have e1:at_ (i::r) ((i::r).length-1)=at_ r (r.length-1):=by
            obtain ⟨j,r',rfl⟩:=List.exists_cons_of_ne_nil hr
            simp [at_]
           rw [e1]
           exact h1
       · subst ht
         simpa using hcond
  · cases h
theorem atB_set (L:List Bool) (i j:Nat) (h:i≠j):atB (L.set i true) j=atB L j:=by
 simp [atB,List.getD_eq_getElem?_getD,List.getElem?_set_ne h]
theorem walk_chain {l:List Bnd} (hok:OkB l):∀ {r:List Nat} {a b s:Int} {L:List Bool} {q:Option Int} {z:Int},IsWalk l r a b s→(r.map (frm l)).Nodup→(∀ x∈r.map (frm l),atB L x.toNat=false)→(∀ t,q=some t→t=a) →
 chainG l (r.map Int.ofNat) L q z=(z+s,true)
 | [],a,b,s,L,q,z,h,_,_,_=>by
  obtain ⟨_,rfl⟩:=h
  simp [chainG]
 | i::r,a,b,s,L,q,z,h,hd,hL,hq=>by
  obtain ⟨c,hc,rfl,h⟩:=h
  obtain ⟨f0,f1,t0,t1,m0,m1⟩:=hok c (List.mem_of_getElem? hc)
  have hi:=(List.getElem?_eq_some_iff.1 hc).1
  rw [List.map_cons,List.nodup_cons,frm_of hc] at hd
  have hL0:=hL c.f (by rw [List.map_cons,frm_of hc];exact List.mem_cons_self ..)
  have ih:=walk_chain hok (L:=L.set c.f.toNat true) (q:=some c.t) (z:=z+c.m) h hd.2 (fun x hx=>by
   have hne:x≠c.f:=fun e=>hd.1 (e ▸ hx)
   have hx0:0≤x:=by
    obtain ⟨j,hj,rfl⟩:=List.mem_map.1 hx
    unfold frm
    split
    · rename_i d hd';exact (hok d (List.mem_of_getElem? hd')).1
    · omega
   rw [atB_set _ _ _ (by omega)]
   exact hL x (by rw [List.map_cons];exact List.mem_cons_of_mem _ hx)) (fun t ht=>by injection ht with ht;exact ht.symm)
  rw [List.map_cons]
  unfold chainG
  rw [if_pos (by show 0≤Int.ofNat i∧Int.ofNat i≤(l.length:Int)-1;simp;omega)]
  rw [show (Int.ofNat i).toNat=i from rfl,hc]
  simp only
  rw [hL0,if_neg (by
   cases q with
   | none=>simp
   | some t=>simp [hq t rfl])]
  rw [ih,show z+c.m+(s-c.m)=z+s from by omega]
theorem noB_at (i:Nat):atB noB i=false:=by
 unfold atB noB
 rw [List.getD_eq_getElem?_getD,List.getElem?_replicate]
 split<;>rfl
theorem walk_chainV {l:List Bnd} (hok:OkB l) {r:List Nat} {a b s:Int} (h:IsWalk l r a b s) (hd:(r.map (frm l)).Nodup):chainV l (r.map Int.ofNat)=(s,true):=by
 unfold chainV
 rw [walk_chain hok h hd (fun x _=>noB_at _) (fun t ht=>by cases ht),Int.zero_add]
theorem walk_ends {l:List Bnd} {r:List Nat} {a b s:Int} (h:IsWalk l r a b s) (hr:r≠[]):(bnd l (at_ (r.map Int.ofNat) 0)).f=a∧(bnd l (at_ (r.map Int.ofNat) (r.length-1))).t=b:=by
 induction r generalizing a s with
 | nil=>exact absurd rfl hr
 | cons i r ih =>
  obtain ⟨c,hc,rfl,h⟩:=h
  have hb:bnd l (Int.ofNat i)=c:=by unfold bnd;rw [show (Int.ofNat i).toNat=i from rfl,List.getD_eq_getElem?_getD,hc];rfl
  refine ⟨by rw [List.map_cons];show (bnd l (Int.ofNat i)).f=_;rw [hb],?_⟩
  by_cases hr:r=[]
  · subst hr
    obtain ⟨rfl,-⟩:=h
    show (bnd l (Int.ofNat i)).t=_
    rw [hb]
  · obtain ⟨j,r',rfl⟩:=List.exists_cons_of_ne_nil hr
    have:=(ih h hr).2
    rw [← this]
    simp [at_]
theorem circle_ok {p:Int} {l:List Bnd} {r:List Nat} (hk:chk p l=0) (hc:circleO l p.toNat=some r):checkCircleV p l (r.map Int.ofNat)=(true,0):=by
 obtain ⟨hp1,hp2,hlen,-⟩:=chk_ok hk
 have hok:=okB_of hk
 have he:=edges60 hk
 unfold circleO at hc
 cases hsc:scanR l p.toNat p.toNat 0 with
 | none=>rw [hsc] at hc;cases hc
 | some z =>
  rw [hsc] at hc
  obtain ⟨k,q⟩:=z
  simp only [Option.map_some,Option.some.injEq] at hc
  obtain ⟨h1,h2,h3,h4,h5⟩:=scanR_some hsc
  simp only at h1 h2 h3 h4 h5
  have h5':∀ j,j<k→∀ u,u<p.toNat→neg l j u=false:=fun j hj u hu=>by
   by_cases h0:j=0
   · subst h0;exact neg_zero l (by omega)
   · exact h5 j (by omega) hj u hu
  have hneg:at_ (rounds l k (startL q)) q<0:=by unfold neg at h4;rwa [decide_eq_true_eq] at h4
  obtain ⟨a,a0,a1,aI,hw⟩:=backL_spec (startL_length q) hok k q (by omega) (by omega) (by rw [look_at];unfold Inf;omega) (fun j hj=>by
   rw [look_at,look_at]
   have:=h5' j (by omega) q h3
   unfold neg at this
   rw [decide_eq_false_iff_not] at this
   omega)
  have haq:a=q:=by
   rw [look_eq,at_startL (by omega) _ (by omega)] at aI
   by_cases e:q=a.toNat
   · omega
   · rw [if_neg e] at aI;exact absurd rfl aI
  subst haq
  rw [show look (startL q) (q:Int)=0 from by rw [look_at,at_startL (by omega) _ (by omega),if_pos rfl],Int.sub_zero,look_at,hc] at hw
  have hrl:r.length=k:=by rw [← hc,backL_length]
  have hne:r≠[]:=fun h=>by rw [h] at hrl;simp at hrl;omega
  have hd:(r.map (frm l)).Nodup:=by
   by_cases hd:(r.map (frm l)).Nodup
   · exact hd
   · exfalso
     obtain ⟨r1,r2,r3,c,s1,s2,hr,hr2,hr3,w1,w2,w3⟩:=walk_dup hw (.inl rfl) (by rw [List.append_nil];exact hd)
     have hl2:0<r2.length:=List.length_pos_iff.2 hr2
     have hl3:0<r3.length:=List.length_pos_iff.2 (hr3 rfl)
     have hlen3:r1.length+r2.length+r3.length=k:=by rw [← hrl,hr,List.length_append,List.length_append]
     obtain ⟨-,hcc⟩:=walk_end (P:=p.toNat) (fun c hc=>by have:=he c hc;omega) w2
     have hcc:=(hcc hr2).1
     by_cases hs2:s2<0
     · have:=neg_of_walk hok w2 hs2 (by omega) (by omega)
       rw [h5' _ (by omega) _ (by omega)] at this
       cases this
     · have h13:=w1.append w3
       have:=neg_of_walk hok h13 (by omega) (by omega) (by rw [List.length_append];omega)
       rw [h5' _ (by rw [List.length_append];omega) _ (by omega)] at this
       cases this
  have hk2:¬ r.length<2:=fun h=>by
   obtain ⟨i,rfl⟩:∃ i,r=[i]:=by
    match r,hrl,hne with
    | [i],_,_=>exact ⟨i,rfl⟩
    | _::_::_,_,_=>simp at h;omega
   obtain ⟨c,hcc,hf,ht,-⟩:=hw
   have:=he c (List.mem_of_getElem? hcc)
   omega
  obtain ⟨e1,e2⟩:=walk_ends hw hne
  have hg:gcode p l []=0:=by unfold gcode;simp [hk]
  unfold checkCircleV
  rw [if_pos hg,walk_chainV hok hw hd,if_neg (by simp),List.length_map,if_neg hk2,e1,e2]
  simp [hneg]
theorem circle_no {p:Int} {l:List Bnd} {z:List Int} (x:List Int) (hk:chk p l=0) (hz:settle l p.toNat zeros=some z):checkCircleV p l x=(false,0):=by
 obtain ⟨-,hs,-,-⟩:=sol_spec hk hz
 have hg:gcode p l []=0:=by unfold gcode;simp [hk]
 unfold checkCircleV
 rw [if_pos hg]
 obtain ⟨V,hV⟩:∃ V,chainV l x=V:=⟨_,rfl⟩
 obtain ⟨s,ok⟩:=V
 rw [hV]
 cases ok
 · rw [if_pos rfl]
 · rw [if_neg (by simp)]
   by_cases h2:x.length<2
   · rw [if_pos h2]
   · rw [if_neg h2]
     obtain ⟨hw,-⟩:=chain_walk hV (fun h=>by rw [h] at h2;exact h2 (by decide))
     have:=walk_kept hs hw
     by_cases hcl:(bnd l (at_ x (x.length-1))).t=(bnd l (at_ x 0)).f
     · rw [hcl] at this
       simp only [hcl,decide_true,Bool.true_and,Prod.mk.injEq,and_true,decide_eq_false_iff_not]
       omega
     · simp [hcl]
end Go.Proofs.YtjjmifcjailpaaaGreat
