import Derived.Test.YtjjmifcjailpaaaGreatPCircle
import Derived.Deep.OwnRows
import Derived.Test.YtjjmifcjailpaaaGreatPGraph
import Derived.Deep.DeepCutAuto
import Derived.Laws.AppendOwnNone
import Derived.Lib.SmallJoins
import Derived.Maps.OwnIn
import Derived.Shelf.SlIterI.Nil
import Derived.Shelf.Slices.Reverse
import Derived.Shelf.SortM.Plain
import Derived.Shelf.SortM.SortNone
import Derived.Sort.OwnSortedInts
set_option linter.unusedSimpArgs false
set_option linter.unusedVariables false
namespace Go.Proofs.YtjjmifcjailpaaaGreat
open Go.Lib (hid)
open Go.RowKit
def circleV (p:Int) (l:List Bnd):List Int × Bool × Int :=
 if gcode p l []=0 then (circleL l p.toNat,(circleO l p.toNat).isSome,0) else ([],false,gcode p l [])
set_option maxHeartbeats 2000000 in
theorem Circle_any (p:Int) (A:Option Addr) (n c:Nat) (l:List Bnd) (w:World) (hr:RdB w A n c l) (hn:n≤maxLen) :
 Calls Tryz.prog 83 #[.agg #[.int .i64 p,.slice A n c]] w (RetI (circleV p l) w):=by
 have hB:Below w.heap.size w (w.alloc (.cells #[.int .i64 p,.slice A n c] 84)):=(Below.refl _ w).alloc (Nat.le_refl _) _
 have hc:=graphOf_any p A none n c 0 0 l [] _ (hr.below hB) hn (RdI.nil_ _) (by omega)
 have HC:=hid hc;have HR:=hid hr;clear hc hr
 unfold circleV
 by_cases hg:gcode p l []=0
 · obtain ⟨hk,-⟩:=gcode_ok hg
   obtain ⟨hp1,hp2,hlen,-⟩:=chk_ok hk
   have hok:=okB_of hk
   rw [if_pos hg]
   rw [hg,sysR_yes] at HC
   clear hg hk
   obtain ⟨p,rfl⟩:=Int.eq_ofNat_of_zero_le (show 0≤p by omega)
   rw [Int.toNat_natCast]
   have hn2:n≤402:=by have:=HR.out.len;omega
   have hci:=fun w' hw'=>circle_any p A n c l (by omega) hn2 hok w' (HR.out.below hw')
   unfold RetB at hci
   generalize circleL l p=V at *
   generalize (circleO l p).isSome=ok at *
   have HCI:=hid hci;clear hci hok
   go_enter Tryz.func83,Tryz.ntmps83
   go_wp2_with fail
   refine HC.out.mono ?_
   rintro e w1 ⟨rfl,hb1⟩
   have hB1:=hB.trans (hb1.mono hB.size)
   go_wp2_with fail
   refine (HCI.out _ (hB1.alloc hB1.size _)).mono ?_
   rintro e w2 ⟨A2,n2,c2,rfl,ho,hb2⟩
   have HO:=hid ho;clear ho
   have hB2:=(hB1.alloc hB1.size (.cells #[.int .i64 (p:Int),.slice A n c] 128)).trans (hb2.mono (hB1.alloc hB1.size _).size)
   go_wp2
   go_ret3
   exact ⟨A2,n2,c2,rfl,owns_base HO.out (hB1.alloc hB1.size _).size,hB2⟩
 · rw [if_neg hg]
   generalize gcode p l []=q at *
   rw [sysR_no hg] at HC
   have hne:(q != 0)=true:=by simpa using hg
   clear hg
   go_enter Tryz.func83,Tryz.ntmps83
   go_wp2_with fail
   refine HC.out.mono ?_
   rintro e w1 ⟨rfl,hb1⟩
   have hB1:=hB.trans (hb1.mono hB.size)
   go_wp2
   go_ret3
   exact ⟨none,0,0,rfl,OwnI.nil_ _ _,(by have hsz_:=Below.size hB1;repeat' (first|with_reducible exact hB1|with_reducible exact Below.refl _ _|with_reducible refine Below.alloc ?_ ?_ _|with_reducible refine Below.setCell ?_ ?_ _|with_reducible refine Below.drew ?_|with_reducible refine below_setRow ?_ ?_ _|omega | (simp;done) | (simp;omega)))⟩
theorem at_out {z:List Int} {v:Nat} (hv:z.length≤v):at_ z v=0:=by
 simp [at_,List.getD_eq_getElem?_getD,hv]
def IsWalk (l:List Bnd):List Nat→Int→Int→Int→Prop
 | [],a,b,s=>a=b∧s=0
 | i::r,a,b,s=>∃ c,l[i]?=some c∧c.f=a∧IsWalk l r c.t b (s-c.m)
theorem IsWalk.append {l:List Bnd}:∀ {r1 r2:List Nat} {a c b s1 s2:Int},IsWalk l r1 a c s1→IsWalk l r2 c b s2→IsWalk l (r1++r2) a b (s1+s2)
 | [],r2,a,c,b,s1,s2,h1,h2=>by
  obtain ⟨rfl,rfl⟩:=h1
  rw [List.nil_append,Int.zero_add];exact h2
 | i::r1,r2,a,c,b,s1,s2,h1,h2=>by
  obtain ⟨x,hx,hf,h1⟩:=h1
  have:=IsWalk.append h1 h2
  exact ⟨x,hx,hf,by rw [show s1+s2-x.m=s1-x.m+s2 from by omega];exact this⟩
theorem IsWalk.split {l:List Bnd}:∀ {r1 r2:List Nat} {a b s:Int},IsWalk l (r1++r2) a b s→∃ c s1,IsWalk l r1 a c s1∧IsWalk l r2 c b (s-s1)
 | [],r2,a,b,s,h=>⟨a,0,⟨rfl,rfl⟩,by rw [Int.sub_zero];exact h⟩
 | i::r1,r2,a,b,s,h=>by
  obtain ⟨x,hx,hf,h⟩:=h
  obtain ⟨c,s1,h1,h2⟩:=IsWalk.split h
  exact ⟨c,s1+x.m,⟨x,hx,hf,by rw [show s1+x.m-x.m=s1 from by omega];exact h1⟩,by rw [show s-(s1+x.m)=s-x.m-s1 from by omega];exact h2⟩
theorem edges60 {p:Int} {l:List Bnd} (hk:chk p l=0):∀ c∈l,0≤c.f∧c.f<p.toNat∧0≤c.t∧c.t<p.toNat∧c.f≠c.t∧-1000000≤c.m∧c.m≤1000000:=fun c hc=>by
 obtain ⟨h1,h2,_,h⟩:=chk_ok hk
 have:=of_decide_eq_true (h c hc)
 omega
def OkP (p:Nat) (l:List Bnd):Prop:=∀ c∈l,0≤c.f∧c.f<p∧0≤c.t∧c.t<p∧c.f≠c.t∧-100000000≤c.m∧c.m≤100000000
theorem okP_of {p:Int} {l:List Bnd} (hk:chk p l=0):OkP p.toNat l:=fun c hc=>by have:=edges60 hk c hc;omega
def solL (l:List Bnd) (p:Nat):List Int:=((settle l p zeros).map (·.take p)).getD []
theorem at_repl {p:Nat} {x:Int} {v:Nat} (hv:v<p):at_ (List.replicate p x) v=x:=by
 simp [at_,List.getD_eq_getElem?_getD,hv]
theorem at_take {x:List Int} {v n:Nat} (hv:v<n):at_ (x.take n) v=at_ x v:=by
 simp [at_,List.getD_eq_getElem?_getD,List.getElem?_take,hv]
theorem rsolve_eq {p:Nat} {l:List Bnd} (hp1:1≤p) (hp:p≤60) (he:OkP p l):rsums 1000000000 l (p+1) (List.replicate p 0)=(settle l p zeros).map (·.take p):=by
 have hg:∀ c∈l,c.f.toNat<p∧c.t.toNat<p:=fun c hc=>by have:=he c hc;omega
 cases hz:settle l p zeros with
 | some z =>
  obtain ⟨hst,hzz,hl,hle⟩:=stable_settle hg (by rw [zeros_length];omega) hz
  rw [zeros_length] at hl
  obtain ⟨k,-,e,hfix⟩:=settle_some hz
  have hlim:=limit_soon (l:=l) (x:=zeros) hp1 hg (by rw [zeros_length];omega) (fun v=>by rw [at_zeros];unfold Inf;omega) (n:=k) (by rw [← e];exact hfix)
  rw [← e] at hlim
  have h0:∀ v,at_ z v≤0:=fun v=>by have:=hle v;rw [at_zeros] at this;exact this
  obtain ⟨y,h1,h2,h3⟩:=rsums_eq (far:=1000000000) (l:=l) (p:=p) (x:=zeros) (y:=List.replicate p 0) hp1 hg (by rw [zeros_length];omega) (by simp) (fun v hv=>by rw [at_repl hv,at_zeros];unfold conv Inf;rw [if_neg (by omega)]) (fun k v _ _ _=>by have:=rounds_le0 l zeros v k;rw [at_zeros] at this;omega) (by unfold Inf;omega) (by rw [hlim];exact hzz)
  rw [h1,Option.map_some]
  congr 1
  apply ext_at (by rw [h2,List.length_take];omega)
  intro v hv
  rw [h2] at hv
  rw [h3 v hv,hlim,at_take hv]
  unfold conv
  rw [if_neg (by have:=h0 v;unfold Inf;omega)]
 | none =>
  cases hr:rsums 1000000000 l (p+1) (List.replicate p 0) with
  | none=>rfl
  | some y =>
   exfalso
   obtain ⟨k,-,e,hfix⟩:=rsums_some hr
   have hlen:y.length=p:=by rw [e,rrounds_length,List.length_replicate]
   have hle:∀ k v,at_ (rrounds 1000000000 l k (List.replicate p 0)) v≤0:=by
    intro k
    induction k with
    | zero =>
     intro v
     by_cases hv:v<p
     · show at_ (List.replicate p 0) v≤0;rw [at_repl hv];exact Int.le_refl _
     · show at_ (List.replicate p 0) v≤0;rw [at_out (by simp;omega)];exact Int.le_refl _
    | succ k ih=>intro v;exact Int.le_trans (rfold_le _ _ _ _) (ih v)
   have h0:∀ v,at_ y v≤0:=fun v=>by rw [e];exact hle k v
   have hst:Stable l y:=fun c hc _=>by
    have:=rfold_edge 1000000000 (c:=c) (A:=at_ y c.f.toNat) (by have:=h0 c.f.toNat;omega) l y hc (Int.le_refl _) (by rw [hlen];exact (hg c hc).2)
    have hf:l.foldl (rrelax 1000000000) y=y:=hfix
    rw [hf] at this
    exact this
   obtain ⟨h,-⟩:=settle_of_stable (p:=p) (x:=zeros) (y:=y) hp1 hg (by rw [zeros_length];omega) (fun v=>by rw [at_zeros];unfold Inf;omega) hst (fun v=>by rw [at_zeros];exact h0 v)
   rw [hz] at h
   cases h
end Go.Proofs.YtjjmifcjailpaaaGreat
