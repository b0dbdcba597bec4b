import Derived.Test.YtjjmifcjailpaaaGreatUSums
import Derived.Test.YtjjmifcjailpaaaGreatUEWays
set_option maxHeartbeats 4000000
set_option linter.unusedSimpArgs false
set_option linter.unusedVariables false
namespace Go.Proofs.YtjjmifcjailpaaaGreat
open Go.Lib (hid)
open Go.RowKit
theorem cells_next {cs:Array Value} {q n:Nat} {φ:Nat→Int} (hs:cs.size=n) (hq:q<n) (h:∀ j,j<q→cs[j]?=some (.int .i64 (φ j))) {v:Int} (hv:φ q=v):∀ j,j<q+1→(cs.setIfInBounds q (.int .i64 v))[j]?=some (.int .i64 (φ j)):=by
 intro j hj
 rw [Array.getElem?_setIfInBounds]
 by_cases e:q=j
 · subst e
   rw [if_pos rfl,if_pos (by omega),hv]
 · rw [if_neg e]
   exact h j (by omega)
theorem rdI_of_blk {w:World} {g n:Nat} {cs:Array Value} {φ:Nat→Int} (hb:Blk w g 3 cs) (hs:cs.size=n) (h:∀ j,j<n→cs[j]?=some (.int .i64 (φ j))):RdI w (some ⟨g,0,none⟩) n n ((List.range n).map φ):=by
 refine ⟨by simp,Nat.le_refl _,(fun h=>by simp at h),.inr ⟨g,0,rfl,hb.lt,fun j u hu=>?_⟩⟩
 rw [List.map_map,List.getElem?_map,Option.map_eq_some_iff] at hu
 obtain ⟨k,hk,rfl⟩:=hu
 obtain ⟨hk1,hk2⟩:=List.getElem?_eq_some_iff.1 hk
 rw [List.getElem_range] at hk2
 subst hk2
 rw [Nat.zero_add,hb.cell]
 exact h j (by simpa using hk1)
set_option maxRecDepth 100000 in
theorem pl1_any (n q:Nat) (hn:n≤17) (hq:q<n) (gx:Nat) (A1:Option Addr) (n1 c1:Nat) (A2:Option Addr) (n2 c2:Nat) (Z:List Int) (w:World) (hx:Blk w gx 77 #[.slice A1 n1 c1,.slice A2 n2 c2]) (hz:RdI w A1 n1 c1 Z) (hzb:∀ i,-1000000000000≤at_ Z i∧at_ Z i≤1000000000000) (hle:n≤n1):Calls Tryz.prog 79 #[.int .i64 (q:Int),.pointer (some ⟨gx,0,none⟩)] w fun e w'=>e=.returned (.int .i64 (at_ Z q))∧Below w.heap.size w w':=by
 obtain ⟨b,o,v,hA,hlt,hv,hcl⟩:=hz.get (show q<n1 by omega)
 subst hA
 have e:at_ Z q=v:=by simp [at_,hv]
 rw [e]
 have z0:=Blk.nth hx 0;have z1:=Blk.nth hx 1;have hlx:=Blk.lt hx
 have hq':(q:Int)<n1:=by omega
 clear hx hv e hz
 go_enter Tryz.func79,Tryz.ntmps79
 go_wp2
 go_ret
 exact ⟨rfl,Below.refl _ _⟩
set_option maxRecDepth 100000 in
theorem pl2_any (n q:Nat) (hn:n≤17) (hq:q<n) (gx:Nat) (A1:Option Addr) (n1 c1:Nat) (A2:Option Addr) (n2 c2:Nat) (Z:List Int) (w:World) (hx:Blk w gx 77 #[.slice A1 n1 c1,.slice A2 n2 c2]) (hz:RdI w A1 n1 c1 Z) (hzb:∀ i,-1000000000000≤at_ Z i∧at_ Z i≤1000000000000) (gc g:Nat) (a0 x0 lo hi:Int) (rho:Nat→Nat) (hc:Blk w gc 119 #[.func (.func 149) #[] #[.pointer (some ⟨g+1+1,0,none⟩),.pointer (some ⟨g,0,none⟩),.pointer (some ⟨g+1+1+1,0,none⟩),.pointer (some ⟨g+1,0,none⟩)]]) (hcl:Cl w g a0 x0 lo hi) (bb:(-1000≤a0∧a0≤1000)∧(-1000≤x0∧x0≤1000)∧(-1000≤lo∧lo≤1000)∧(-1000≤hi∧hi≤1000)) (hrho:∀ i:Nat,i<n→ren a0 x0 lo hi i=(rho i:Int)∧rho i<n1):Calls Tryz.prog 80 #[.int .i64 (q:Int),.pointer (some ⟨gx,0,none⟩),.pointer (some ⟨gc,0,none⟩)] w fun e w'=>e=.returned (.int .i64 (-(at_ Z (rho q))))∧Below w.heap.size w w':=by
 obtain ⟨r1,r2⟩:=hrho q hq
 obtain ⟨v,hv⟩:∃ v,rho q=v:=⟨_,rfl⟩
 rw [hv] at r1 r2 ⊢
 have hb:=hzb v
 obtain ⟨b,o,y,hA,hlt,hy,hcy⟩:=hz.get r2
 subst hA
 have e:at_ Z v=y:=by simp [at_,hy]
 rw [e] at hb ⊢
 have hr2:(v:Int)<n1:=by omega
 have hng:IntKind.i64.wrap (-y)=-y:=IntWalk.i64_in _ (by omega)
 have HY:=hid hy;have RR:=hid (fun (w:World) (h:Cl w g a0 x0 lo hi)=>Calls.mono (renum_any a0 x0 lo hi q g w h bb.1 bb.2.1 bb.2.2.1 bb.2.2.2 (by omega)) (fun e w' h=>(show e=.returned (.int .i64 (v:Int))∧w=w' from ⟨by rw [h.1,r1],h.2⟩)))
 clear hy e hrho hv r1 hcy hlt hzb bb
 go_enter Tryz.func80,Tryz.ntmps80
 have a2:=hid (show Below w.heap.size w w from Below.refl _ w)
 have a3:=hid (hz)
 clear hz
 have a4:=hid (hx)
 have a5:=hid (hc)
 have a7:=hid (hcl)
 clear hx hc hcl
 go_wp2_with fail
 replace a2:=bD a2
 replace a3:=iD a3
 replace a4:=kD a4
 replace a5:=kD a5
 replace a7:=hid (Cl.drew (a7.out))
 refine wp_region_held_drew (S:=(fun W'=>Blk W' gx 77 #[.slice (some ⟨b,o,none⟩) n1 c1,.slice A2 n2 c2]∧Blk W' gc 119 #[.func (.func 149) #[] #[.pointer (some ⟨g+1+1,0,none⟩),.pointer (some ⟨g,0,none⟩),.pointer (some ⟨g+1+1+1,0,none⟩),.pointer (some ⟨g+1,0,none⟩)]]∧RdI W' (some ⟨b,o,none⟩) n1 c1 Z)) (by kernel_rfl) ⟨a4.out,a5.out,a3.out⟩ (fun _=>?_)
 obtain ⟨b1,a6⟩:∃ w',w'=(w.drew):=⟨_,rfl⟩
 rw [← a6] at a2 a3 a4 a5 a7
 rw [← a6]
 clear a6
 have a1:=hid (And.intro a4.out (And.intro a5.out a3.out))
 refine' twH 0 a1.out ?_
 refine' tkH 1 a1.out ?a8 ?_
 case a8=>(rintro W' ⟨hS0,hS1,hS2⟩;have hc0:=Blk.nth hS0 0;clear hS0 hS1 hS2;go_simp;try with_reducible rfl)
 refine' tkH 2 a1.out ?a9 ?_
 case a9=>(rintro W' ⟨hS0,hS1,hS2⟩;have hc0:=Blk.nth hS1 0;clear hS0 hS1 hS2;go_simp;try with_reducible rfl)
 refine' twH 3 a1.out ?_
 try simp only [pq]
 refine oneH 4 rfl fun K hK=>?_
 go_simp
 go_at_call 149
 refine (RR.out _ (a7.out)).mono ?_
 rintro e b2 ⟨rfl,rfl⟩
 dsimp only
 refine hK.out _ _ a1.out (fun _=>?_);clear hK K
 try simp only [pq]
 refine' twH 5 a1.out ?_
 refine' tkH 6 a1.out ?b0 ?_
 case b0=>(rintro W' ⟨hS0,hS1,hS2⟩;obtain ⟨ca_,cl_⟩:=rdI_at hS2 HY.out;clear hS0 hS1 hS2;go_simp;try with_reducible rfl)
 refine' twH 7 a1.out ?_
 refine' twH 8 a1.out ?_
 try simp only [pq]
 refine wpAnyH_done (by kernel_rfl) ?_ _
 go_wp2
 go_ret
 exact ⟨rfl,a2.out⟩
set_option maxRecDepth 100000 in
theorem pl3_any (n q:Nat) (hn:n≤17) (hq:q<n) (gx:Nat) (A1:Option Addr) (n1 c1:Nat) (A2:Option Addr) (n2 c2:Nat) (Z:List Int) (w:World) (hx:Blk w gx 77 #[.slice A1 n1 c1,.slice A2 n2 c2]) (hz:RdI w A2 n2 c2 Z) (hzb:∀ i,-1000000000000≤at_ Z i∧at_ Z i≤1000000000000) (hle:n≤n2):Calls Tryz.prog 81 #[.int .i64 (q:Int),.pointer (some ⟨gx,0,none⟩)] w fun e w'=>e=.returned (.int .i64 (at_ Z q))∧Below w.heap.size w w':=by
 obtain ⟨b,o,v,hA,hlt,hv,hcl⟩:=hz.get (show q<n2 by omega)
 subst hA
 have e:at_ Z q=v:=by simp [at_,hv]
 rw [e]
 have z0:=Blk.nth hx 0;have z1:=Blk.nth hx 1;have hlx:=Blk.lt hx
 have hq':(q:Int)<n2:=by omega
 clear hx hv e hz
 go_enter Tryz.func81,Tryz.ntmps81
 go_wp2
 go_ret
 exact ⟨rfl,Below.refl _ _⟩
set_option maxRecDepth 100000 in
theorem pl4_any (n q:Nat) (hn:n≤17) (hq:q<n) (gx:Nat) (A1:Option Addr) (n1 c1:Nat) (A2:Option Addr) (n2 c2:Nat) (Z:List Int) (w:World) (hx:Blk w gx 77 #[.slice A1 n1 c1,.slice A2 n2 c2]) (hz:RdI w A2 n2 c2 Z) (hzb:∀ i,-1000000000000≤at_ Z i∧at_ Z i≤1000000000000) (gc g:Nat) (a0 x0 lo hi:Int) (rho:Nat→Nat) (hc:Blk w gc 119 #[.func (.func 149) #[] #[.pointer (some ⟨g+1+1,0,none⟩),.pointer (some ⟨g,0,none⟩),.pointer (some ⟨g+1+1+1,0,none⟩),.pointer (some ⟨g+1,0,none⟩)]]) (hcl:Cl w g a0 x0 lo hi) (bb:(-1000≤a0∧a0≤1000)∧(-1000≤x0∧x0≤1000)∧(-1000≤lo∧lo≤1000)∧(-1000≤hi∧hi≤1000)) (hrho:∀ i:Nat,i<n→ren a0 x0 lo hi i=(rho i:Int)∧rho i<n2):Calls Tryz.prog 82 #[.int .i64 (q:Int),.pointer (some ⟨gx,0,none⟩),.pointer (some ⟨gc,0,none⟩)] w fun e w'=>e=.returned (.int .i64 (at_ Z (rho q)))∧Below w.heap.size w w':=by
 obtain ⟨r1,r2⟩:=hrho q hq
 obtain ⟨v,hv⟩:∃ v,rho q=v:=⟨_,rfl⟩
 rw [hv] at r1 r2 ⊢
 have hb:=hzb v
 obtain ⟨b,o,y,hA,hlt,hy,hcy⟩:=hz.get r2
 subst hA
 have e:at_ Z v=y:=by simp [at_,hy]
 rw [e] at hb ⊢
 have hr2:(v:Int)<n2:=by omega
 have HY:=hid hy;have RR:=hid (fun (w:World) (h:Cl w g a0 x0 lo hi)=>Calls.mono (renum_any a0 x0 lo hi q g w h bb.1 bb.2.1 bb.2.2.1 bb.2.2.2 (by omega)) (fun e w' h=>(show e=.returned (.int .i64 (v:Int))∧w=w' from ⟨by rw [h.1,r1],h.2⟩)))
 clear hy e hrho hv r1 hcy hlt hzb bb
 go_enter Tryz.func82,Tryz.ntmps82
 have a2:=hid (show Below w.heap.size w w from Below.refl _ w)
 have a3:=hid (hz)
 clear hz
 have a4:=hid (hx)
 have a5:=hid (hc)
 have a7:=hid (hcl)
 clear hx hc hcl
 go_wp2_with fail
 replace a2:=bD a2
 replace a3:=iD a3
 replace a4:=kD a4
 replace a5:=kD a5
 replace a7:=hid (Cl.drew (a7.out))
 refine wp_region_held_drew (S:=(fun W'=>Blk W' gx 77 #[.slice A1 n1 c1,.slice (some ⟨b,o,none⟩) n2 c2]∧Blk W' gc 119 #[.func (.func 149) #[] #[.pointer (some ⟨g+1+1,0,none⟩),.pointer (some ⟨g,0,none⟩),.pointer (some ⟨g+1+1+1,0,none⟩),.pointer (some ⟨g+1,0,none⟩)]]∧RdI W' (some ⟨b,o,none⟩) n2 c2 Z)) (by kernel_rfl) ⟨a4.out,a5.out,a3.out⟩ (fun _=>?_)
 obtain ⟨b1,a6⟩:∃ w',w'=(w.drew):=⟨_,rfl⟩
 rw [← a6] at a2 a3 a4 a5 a7
 rw [← a6]
 clear a6
 have a1:=hid (And.intro a4.out (And.intro a5.out a3.out))
 refine' twH 0 a1.out ?_
 refine' tkH 1 a1.out ?a8 ?_
 case a8=>(rintro W' ⟨hS0,hS1,hS2⟩;have hc0:=Blk.nth hS0 1;clear hS0 hS1 hS2;go_simp;try with_reducible rfl)
 refine' tkH 2 a1.out ?a9 ?_
 case a9=>(rintro W' ⟨hS0,hS1,hS2⟩;have hc0:=Blk.nth hS1 0;clear hS0 hS1 hS2;go_simp;try with_reducible rfl)
 refine' twH 3 a1.out ?_
 try simp only [pq]
 refine oneH 4 rfl fun K hK=>?_
 go_simp
 go_at_call 149
 refine (RR.out _ (a7.out)).mono ?_
 rintro e b2 ⟨rfl,rfl⟩
 dsimp only
 refine hK.out _ _ a1.out (fun _=>?_);clear hK K
 try simp only [pq]
 refine' twH 5 a1.out ?_
 refine' tkH 6 a1.out ?b0 ?_
 case b0=>(rintro W' ⟨hS0,hS1,hS2⟩;obtain ⟨ca_,cl_⟩:=rdI_at hS2 HY.out;clear hS0 hS1 hS2;go_simp;try with_reducible rfl)
 refine' twH 7 a1.out ?_
 try simp only [pq]
 refine wpAnyH_done (by kernel_rfl) ?_ _
 go_wp2
 go_ret
 exact ⟨rfl,a2.out⟩
set_option maxRecDepth 100000 in
theorem from1_any (n:Nat) (hn0:1≤n) (hn:n≤17) (gx:Nat) (A1:Option Addr) (n1 c1:Nat) (A2:Option Addr) (n2 c2:Nat) (Z:List Int) (w:World) (hx:Blk w gx 77 #[.slice A1 n1 c1,.slice A2 n2 c2]) (hz:RdI w A1 n1 c1 Z) (hzb:∀ i,-1000000000000≤at_ Z i∧at_ Z i≤1000000000000) (hle:n≤n1):Calls Tryz.prog 78 #[.int .i64 (n:Int),.func (.func 79) #[] #[.pointer (some ⟨gx,0,none⟩)]] w fun e w'=>∃ A c,e=.returned (.slice A n c)∧RdI w' A n c ((List.range n).map fun j=>at_ Z j-at_ Z 0)∧Below w.heap.size w w':=by
 obtain ⟨i0,hi0,hz0,hz1,hz2⟩:=info_parts infoI
 have HI:=hid hi0;have HZ0:=hid hz0;have HZ1:=hid hz1;have HZ2:=hid hz2;clear hi0 hz0 hz1 hz2
 have HX0:=hid hx;have HZ0x:=hid hz
 have HZB:=hid hzb;clear hzb hx hz
 go_enter Tryz.func78,Tryz.ntmps78
 have a2:=hid (show Below w.heap.size w w from Below.refl _ w)
 go_wp2_with (at_make;refine wpList_make_row _ rfl (.tmp 7) (.tmp 7) 34 rfl 3 i0 (.int .i64 0) Tryz.underlying34 HI.out HZ0.out HZ1.out rfl .i64 .i64 n rfl rfl (by rw [HZ2.out];omega) (by omega) ?_)
 obtain ⟨o_,ho_⟩:∃ o,o=((.cells (madeCells #[.int .i64 0] n) 3):Obj):=⟨_,rfl⟩
 replace a2:=bA a2 o_
 subst ho_
 have a6:=hid (Blk.new w 3 (madeCells #[.int .i64 0] n))
 go_loopw [11] (fun i wr=>∃ q:Nat,q≤n∧i=.int .i64 q∧(∃ cs:Array Value,cs.size=n∧(∀ j,j<q→cs[j]?=some (.int .i64 (at_ Z j-at_ Z 0)))∧Blk wr w.heap.size 3 cs)∧Below w.heap.size w wr) (fun i _=>n-(intOf i).toNat)
 case atStart=>exact ⟨0,Nat.zero_le _,rfl,⟨madeCells #[.int .i64 0] n,size_madeCells _ _,fun j hj=>absurd hj (Nat.not_lt_zero _),a6.out⟩,a2.out⟩
 case round =>
  clear a2 a6
  obtain ⟨q,hq,rfl,⟨cs,hcs,hfill,hli⟩,hbel⟩:=hrel
  have a1:=hid (hli)
  have a0:=hid (hbel)
  clear hli hbel
  have HF:=hid hfill;clear hfill;have HS:=hid hcs;clear hcs
  by_cases hlt:q<n
  · have hlt':(q:Int)<n:=by omega
    obtain ⟨v1,hv1⟩:∃ v,at_ Z q=v:=⟨_,rfl⟩
    obtain ⟨v0,hv0⟩:∃ v,at_ Z 0=v:=⟨_,rfl⟩
    have hw1:IntKind.i64.wrap (v1-v0)=v1-v0:=by have h1:=HZB.out q;have h2:=HZB.out 0;exact IntWalk.i64_in _ (by omega)
    have HV1:=hid hv1;have HV0:=hid hv0;clear hv1 hv0;have HW1:=hid hw1;clear hw1;have HLT:=hid hlt;clear hlt
    have hc:=pl1_any n q hn HLT.out gx A1 n1 c1 A2 n2 c2 Z _ (Blk.keep HX0.out (a0.out)) (RdI.below HZ0x.out (a0.out)) HZB.out hle
    rw [HV1.out] at hc
    try dsimp only at hc
    have HC:=hid hc;clear hc
    go_wp2_with fail
    refine HC.out.mono ?_
    rintro e a7 ⟨rfl,hb⟩
    clear HC
    have a3:=hid hb
    clear hb
    replace a0:=bH a0 a3
    have hc:=pl1_any n 0 hn (by omega) gx A1 n1 c1 A2 n2 c2 Z _ (Blk.keep HX0.out (a0.out)) (RdI.below HZ0x.out (a0.out)) HZB.out hle
    rw [HV0.out] at hc
    try dsimp only at hc
    have HC:=hid hc;clear hc
    go_wp2_with fail
    refine HC.out.mono ?_
    rintro e a5 ⟨rfl,hb⟩
    clear HC
    have a4:=hid hb
    clear hb
    obtain ⟨old,hold⟩:∃ v,cs[q]?=some v:=⟨cs[q]'(by rw [HS.out];exact HLT.out),Array.getElem?_eq_getElem _⟩
    replace a1:=kH (kH a1 a3) a4
    have zc_:(a5).cell? ⟨w.heap.size,q,none⟩=some old:=by rw [Blk.cell a1.out q];exact hold
    have fz_:(a5).frozen? ⟨w.heap.size,q,none⟩=false:=Blk.frozen a1.out q;clear hold
    have hw1:=HW1.out
    have hlb_:=Blk.lt a1.out
    go_wp2
    replace a0:=bH a0 a4
    go_roundw
    case rel=>exact ⟨q+1,by have:=HLT.out;omega,by go_num,⟨cs.setIfInBounds q (.int .i64 (v1-v0)),by rw [Array.size_setIfInBounds];exact HS.out,cells_next (φ:=fun j=>at_ Z j-at_ Z 0) HS.out HLT.out HF.out (by rw [HV1.out,HV0.out]),Blk.set_ a1.out q _⟩,Below.setCell a0.out (p:=⟨w.heap.size,q,none⟩) (Nat.le_refl _) _⟩
    case measure=>have:=HLT.out;simp [intOf];omega
  · obtain rfl:q=n:=by omega
    go_wp2
    go_ret
    exact ⟨some ⟨w.heap.size,0,none⟩,_,rfl,rdI_of_blk (φ:=fun j=>at_ Z j-at_ Z 0) a1.out HS.out HF.out,a0.out⟩
set_option maxRecDepth 100000 in
theorem from2_any (n:Nat) (hn0:1≤n) (hn:n≤17) (gx:Nat) (A1:Option Addr) (n1 c1:Nat) (A2:Option Addr) (n2 c2:Nat) (Z:List Int) (w:World) (hx:Blk w gx 77 #[.slice A1 n1 c1,.slice A2 n2 c2]) (hz:RdI w A1 n1 c1 Z) (hzb:∀ i,-1000000000000≤at_ Z i∧at_ Z i≤1000000000000) (gc g:Nat) (a0 x0 lo hi:Int) (rho:Nat→Nat) (hc:Blk w gc 119 #[.func (.func 149) #[] #[.pointer (some ⟨g+1+1,0,none⟩),.pointer (some ⟨g,0,none⟩),.pointer (some ⟨g+1+1+1,0,none⟩),.pointer (some ⟨g+1,0,none⟩)]]) (hcl:Cl w g a0 x0 lo hi) (bb:(-1000≤a0∧a0≤1000)∧(-1000≤x0∧x0≤1000)∧(-1000≤lo∧lo≤1000)∧(-1000≤hi∧hi≤1000)) (hrho:∀ i:Nat,i<n→ren a0 x0 lo hi i=(rho i:Int)∧rho i<n1):Calls Tryz.prog 78 #[.int .i64 (n:Int),.func (.func 80) #[] #[.pointer (some ⟨gx,0,none⟩),.pointer (some ⟨gc,0,none⟩)]] w fun e w'=>∃ A c,e=.returned (.slice A n c)∧RdI w' A n c ((List.range n).map fun j=>-(at_ Z (rho j)) - -(at_ Z (rho 0)))∧Below w.heap.size w w':=by
 obtain ⟨i0,hi0,hz0,hz1,hz2⟩:=info_parts infoI
 have HI:=hid hi0;have HZ0:=hid hz0;have HZ1:=hid hz1;have HZ2:=hid hz2;clear hi0 hz0 hz1 hz2
 have HX0:=hid hx;have HZ0x:=hid hz;have HC0:=hid hc;have HCL0:=hid hcl
 have HZB:=hid hzb;clear hzb hx hz hc hcl
 have HRHO:=hid hrho;have BB:=hid bb;clear hrho bb
 go_enter Tryz.func78,Tryz.ntmps78
 have a3:=hid (show Below w.heap.size w w from Below.refl _ w)
 go_wp2_with (at_make;refine wpList_make_row _ rfl (.tmp 7) (.tmp 7) 34 rfl 3 i0 (.int .i64 0) Tryz.underlying34 HI.out HZ0.out HZ1.out rfl .i64 .i64 n rfl rfl (by rw [HZ2.out];omega) (by omega) ?_)
 obtain ⟨o_,ho_⟩:∃ o,o=((.cells (madeCells #[.int .i64 0] n) 3):Obj):=⟨_,rfl⟩
 replace a3:=bA a3 o_
 subst ho_
 have a7:=hid (Blk.new w 3 (madeCells #[.int .i64 0] n))
 go_loopw [11] (fun i wr=>∃ q:Nat,q≤n∧i=.int .i64 q∧(∃ cs:Array Value,cs.size=n∧(∀ j,j<q→cs[j]?=some (.int .i64 (-(at_ Z (rho j)) - -(at_ Z (rho 0)))))∧Blk wr w.heap.size 3 cs)∧Below w.heap.size w wr) (fun i _=>n-(intOf i).toNat)
 case atStart=>exact ⟨0,Nat.zero_le _,rfl,⟨madeCells #[.int .i64 0] n,size_madeCells _ _,fun j hj=>absurd hj (Nat.not_lt_zero _),a7.out⟩,a3.out⟩
 case round =>
  clear a3 a7
  obtain ⟨q,hq,rfl,⟨cs,hcs,hfill,hli⟩,hbel⟩:=hrel
  have a2:=hid (hli)
  have a1:=hid (hbel)
  clear hli hbel
  have HF:=hid hfill;clear hfill;have HS:=hid hcs;clear hcs
  by_cases hlt:q<n
  · have hlt':(q:Int)<n:=by omega
    obtain ⟨v1,hv1⟩:∃ v,-(at_ Z (rho q))=v:=⟨_,rfl⟩
    obtain ⟨v0,hv0⟩:∃ v,-(at_ Z (rho 0))=v:=⟨_,rfl⟩
    have hw1:IntKind.i64.wrap (v1-v0)=v1-v0:=by have h1:=HZB.out (rho q);have h2:=HZB.out (rho 0);exact IntWalk.i64_in _ (by omega)
    have HV1:=hid hv1;have HV0:=hid hv0;clear hv1 hv0;have HW1:=hid hw1;clear hw1;have HLT:=hid hlt;clear hlt
    have hc:=pl2_any n q hn HLT.out gx A1 n1 c1 A2 n2 c2 Z _ (Blk.keep HX0.out (a1.out)) (RdI.below HZ0x.out (a1.out)) HZB.out gc g a0 x0 lo hi rho (Blk.keep HC0.out (a1.out)) (Cl.keep HCL0.out (a1.out)) BB.out HRHO.out
    rw [HV1.out] at hc
    try dsimp only at hc
    have HC:=hid hc;clear hc
    go_wp2_with fail
    refine HC.out.mono ?_
    rintro e a8 ⟨rfl,hb⟩
    clear HC
    have a4:=hid hb
    clear hb
    replace a1:=bH a1 a4
    have hc:=pl2_any n 0 hn (by omega) gx A1 n1 c1 A2 n2 c2 Z _ (Blk.keep HX0.out (a1.out)) (RdI.below HZ0x.out (a1.out)) HZB.out gc g a0 x0 lo hi rho (Blk.keep HC0.out (a1.out)) (Cl.keep HCL0.out (a1.out)) BB.out HRHO.out
    rw [HV0.out] at hc
    try dsimp only at hc
    have HC:=hid hc;clear hc
    go_wp2_with fail
    refine HC.out.mono ?_
    rintro e a6 ⟨rfl,hb⟩
    clear HC
    have a5:=hid hb
    clear hb
    obtain ⟨old,hold⟩:∃ v,cs[q]?=some v:=⟨cs[q]'(by rw [HS.out];exact HLT.out),Array.getElem?_eq_getElem _⟩
    replace a2:=kH (kH a2 a4) a5
    have zc_:(a6).cell? ⟨w.heap.size,q,none⟩=some old:=by rw [Blk.cell a2.out q];exact hold
    have fz_:(a6).frozen? ⟨w.heap.size,q,none⟩=false:=Blk.frozen a2.out q;clear hold
    have hw1:=HW1.out
    have hlb_:=Blk.lt a2.out
    go_wp2
    replace a1:=bH a1 a5
    go_roundw
    case rel=>exact ⟨q+1,by have:=HLT.out;omega,by go_num,⟨cs.setIfInBounds q (.int .i64 (v1-v0)),by rw [Array.size_setIfInBounds];exact HS.out,cells_next (φ:=fun j=>-(at_ Z (rho j)) - -(at_ Z (rho 0))) HS.out HLT.out HF.out (by rw [HV1.out,HV0.out]),Blk.set_ a2.out q _⟩,Below.setCell a1.out (p:=⟨w.heap.size,q,none⟩) (Nat.le_refl _) _⟩
    case measure=>have:=HLT.out;simp [intOf];omega
  · obtain rfl:q=n:=by omega
    go_wp2
    go_ret
    exact ⟨some ⟨w.heap.size,0,none⟩,_,rfl,rdI_of_blk (φ:=fun j=>-(at_ Z (rho j)) - -(at_ Z (rho 0))) a2.out HS.out HF.out,a1.out⟩
set_option maxRecDepth 100000 in
theorem from3_any (n:Nat) (hn0:1≤n) (hn:n≤17) (gx:Nat) (A1:Option Addr) (n1 c1:Nat) (A2:Option Addr) (n2 c2:Nat) (Z:List Int) (w:World) (hx:Blk w gx 77 #[.slice A1 n1 c1,.slice A2 n2 c2]) (hz:RdI w A2 n2 c2 Z) (hzb:∀ i,-1000000000000≤at_ Z i∧at_ Z i≤1000000000000) (hle:n≤n2):Calls Tryz.prog 78 #[.int .i64 (n:Int),.func (.func 81) #[] #[.pointer (some ⟨gx,0,none⟩)]] w fun e w'=>∃ A c,e=.returned (.slice A n c)∧RdI w' A n c ((List.range n).map fun j=>at_ Z j-at_ Z 0)∧Below w.heap.size w w':=by
 obtain ⟨i0,hi0,hz0,hz1,hz2⟩:=info_parts infoI
 have HI:=hid hi0;have HZ0:=hid hz0;have HZ1:=hid hz1;have HZ2:=hid hz2;clear hi0 hz0 hz1 hz2
 have HX0:=hid hx;have HZ0x:=hid hz
 have HZB:=hid hzb;clear hzb hx hz
 go_enter Tryz.func78,Tryz.ntmps78
 have a2:=hid (show Below w.heap.size w w from Below.refl _ w)
 go_wp2_with (at_make;refine wpList_make_row _ rfl (.tmp 7) (.tmp 7) 34 rfl 3 i0 (.int .i64 0) Tryz.underlying34 HI.out HZ0.out HZ1.out rfl .i64 .i64 n rfl rfl (by rw [HZ2.out];omega) (by omega) ?_)
 obtain ⟨o_,ho_⟩:∃ o,o=((.cells (madeCells #[.int .i64 0] n) 3):Obj):=⟨_,rfl⟩
 replace a2:=bA a2 o_
 subst ho_
 have a6:=hid (Blk.new w 3 (madeCells #[.int .i64 0] n))
 go_loopw [11] (fun i wr=>∃ q:Nat,q≤n∧i=.int .i64 q∧(∃ cs:Array Value,cs.size=n∧(∀ j,j<q→cs[j]?=some (.int .i64 (at_ Z j-at_ Z 0)))∧Blk wr w.heap.size 3 cs)∧Below w.heap.size w wr) (fun i _=>n-(intOf i).toNat)
 case atStart=>exact ⟨0,Nat.zero_le _,rfl,⟨madeCells #[.int .i64 0] n,size_madeCells _ _,fun j hj=>absurd hj (Nat.not_lt_zero _),a6.out⟩,a2.out⟩
 case round =>
  clear a2 a6
  obtain ⟨q,hq,rfl,⟨cs,hcs,hfill,hli⟩,hbel⟩:=hrel
  have a1:=hid (hli)
  have a0:=hid (hbel)
  clear hli hbel
  have HF:=hid hfill;clear hfill;have HS:=hid hcs;clear hcs
  by_cases hlt:q<n
  · have hlt':(q:Int)<n:=by omega
    obtain ⟨v1,hv1⟩:∃ v,at_ Z q=v:=⟨_,rfl⟩
    obtain ⟨v0,hv0⟩:∃ v,at_ Z 0=v:=⟨_,rfl⟩
    have hw1:IntKind.i64.wrap (v1-v0)=v1-v0:=by have h1:=HZB.out q;have h2:=HZB.out 0;exact IntWalk.i64_in _ (by omega)
    have HV1:=hid hv1;have HV0:=hid hv0;clear hv1 hv0;have HW1:=hid hw1;clear hw1;have HLT:=hid hlt;clear hlt
    have hc:=pl3_any n q hn HLT.out gx A1 n1 c1 A2 n2 c2 Z _ (Blk.keep HX0.out (a0.out)) (RdI.below HZ0x.out (a0.out)) HZB.out hle
    rw [HV1.out] at hc
    try dsimp only at hc
    have HC:=hid hc;clear hc
    go_wp2_with fail
    refine HC.out.mono ?_
    rintro e a7 ⟨rfl,hb⟩
    clear HC
    have a3:=hid hb
    clear hb
    replace a0:=bH a0 a3
    have hc:=pl3_any n 0 hn (by omega) gx A1 n1 c1 A2 n2 c2 Z _ (Blk.keep HX0.out (a0.out)) (RdI.below HZ0x.out (a0.out)) HZB.out hle
    rw [HV0.out] at hc
    try dsimp only at hc
    have HC:=hid hc;clear hc
    go_wp2_with fail
    refine HC.out.mono ?_
    rintro e a5 ⟨rfl,hb⟩
    clear HC
    have a4:=hid hb
    clear hb
    obtain ⟨old,hold⟩:∃ v,cs[q]?=some v:=⟨cs[q]'(by rw [HS.out];exact HLT.out),Array.getElem?_eq_getElem _⟩
    replace a1:=kH (kH a1 a3) a4
    have zc_:(a5).cell? ⟨w.heap.size,q,none⟩=some old:=by rw [Blk.cell a1.out q];exact hold
    have fz_:(a5).frozen? ⟨w.heap.size,q,none⟩=false:=Blk.frozen a1.out q;clear hold
    have hw1:=HW1.out
    have hlb_:=Blk.lt a1.out
    go_wp2
    replace a0:=bH a0 a4
    go_roundw
    case rel=>exact ⟨q+1,by have:=HLT.out;omega,by go_num,⟨cs.setIfInBounds q (.int .i64 (v1-v0)),by rw [Array.size_setIfInBounds];exact HS.out,cells_next (φ:=fun j=>at_ Z j-at_ Z 0) HS.out HLT.out HF.out (by rw [HV1.out,HV0.out]),Blk.set_ a1.out q _⟩,Below.setCell a0.out (p:=⟨w.heap.size,q,none⟩) (Nat.le_refl _) _⟩
    case measure=>have:=HLT.out;simp [intOf];omega
  · obtain rfl:q=n:=by omega
    go_wp2
    go_ret
    exact ⟨some ⟨w.heap.size,0,none⟩,_,rfl,rdI_of_blk (φ:=fun j=>at_ Z j-at_ Z 0) a1.out HS.out HF.out,a0.out⟩
set_option maxRecDepth 100000 in
theorem from4_any (n:Nat) (hn0:1≤n) (hn:n≤17) (gx:Nat) (A1:Option Addr) (n1 c1:Nat) (A2:Option Addr) (n2 c2:Nat) (Z:List Int) (w:World) (hx:Blk w gx 77 #[.slice A1 n1 c1,.slice A2 n2 c2]) (hz:RdI w A2 n2 c2 Z) (hzb:∀ i,-1000000000000≤at_ Z i∧at_ Z i≤1000000000000) (gc g:Nat) (a0 x0 lo hi:Int) (rho:Nat→Nat) (hc:Blk w gc 119 #[.func (.func 149) #[] #[.pointer (some ⟨g+1+1,0,none⟩),.pointer (some ⟨g,0,none⟩),.pointer (some ⟨g+1+1+1,0,none⟩),.pointer (some ⟨g+1,0,none⟩)]]) (hcl:Cl w g a0 x0 lo hi) (bb:(-1000≤a0∧a0≤1000)∧(-1000≤x0∧x0≤1000)∧(-1000≤lo∧lo≤1000)∧(-1000≤hi∧hi≤1000)) (hrho:∀ i:Nat,i<n→ren a0 x0 lo hi i=(rho i:Int)∧rho i<n2):Calls Tryz.prog 78 #[.int .i64 (n:Int),.func (.func 82) #[] #[.pointer (some ⟨gx,0,none⟩),.pointer (some ⟨gc,0,none⟩)]] w fun e w'=>∃ A c,e=.returned (.slice A n c)∧RdI w' A n c ((List.range n).map fun j=>at_ Z (rho j)-at_ Z (rho 0))∧Below w.heap.size w w':=by
 obtain ⟨i0,hi0,hz0,hz1,hz2⟩:=info_parts infoI
 have HI:=hid hi0;have HZ0:=hid hz0;have HZ1:=hid hz1;have HZ2:=hid hz2;clear hi0 hz0 hz1 hz2
 have HX0:=hid hx;have HZ0x:=hid hz;have HC0:=hid hc;have HCL0:=hid hcl
 have HZB:=hid hzb;clear hzb hx hz hc hcl
 have HRHO:=hid hrho;have BB:=hid bb;clear hrho bb
 go_enter Tryz.func78,Tryz.ntmps78
 have a3:=hid (show Below w.heap.size w w from Below.refl _ w)
 go_wp2_with (at_make;refine wpList_make_row _ rfl (.tmp 7) (.tmp 7) 34 rfl 3 i0 (.int .i64 0) Tryz.underlying34 HI.out HZ0.out HZ1.out rfl .i64 .i64 n rfl rfl (by rw [HZ2.out];omega) (by omega) ?_)
 obtain ⟨o_,ho_⟩:∃ o,o=((.cells (madeCells #[.int .i64 0] n) 3):Obj):=⟨_,rfl⟩
 replace a3:=bA a3 o_
 subst ho_
 have a7:=hid (Blk.new w 3 (madeCells #[.int .i64 0] n))
 go_loopw [11] (fun i wr=>∃ q:Nat,q≤n∧i=.int .i64 q∧(∃ cs:Array Value,cs.size=n∧(∀ j,j<q→cs[j]?=some (.int .i64 (at_ Z (rho j)-at_ Z (rho 0))))∧Blk wr w.heap.size 3 cs)∧Below w.heap.size w wr) (fun i _=>n-(intOf i).toNat)
 case atStart=>exact ⟨0,Nat.zero_le _,rfl,⟨madeCells #[.int .i64 0] n,size_madeCells _ _,fun j hj=>absurd hj (Nat.not_lt_zero _),a7.out⟩,a3.out⟩
 case round =>
  clear a3 a7
  obtain ⟨q,hq,rfl,⟨cs,hcs,hfill,hli⟩,hbel⟩:=hrel
  have a2:=hid (hli)
  have a1:=hid (hbel)
  clear hli hbel
  have HF:=hid hfill;clear hfill;have HS:=hid hcs;clear hcs
  by_cases hlt:q<n
  · have hlt':(q:Int)<n:=by omega
    obtain ⟨v1,hv1⟩:∃ v,at_ Z (rho q)=v:=⟨_,rfl⟩
    obtain ⟨v0,hv0⟩:∃ v,at_ Z (rho 0)=v:=⟨_,rfl⟩
    have hw1:IntKind.i64.wrap (v1-v0)=v1-v0:=by have h1:=HZB.out (rho q);have h2:=HZB.out (rho 0);exact IntWalk.i64_in _ (by omega)
    have HV1:=hid hv1;have HV0:=hid hv0;clear hv1 hv0;have HW1:=hid hw1;clear hw1;have HLT:=hid hlt;clear hlt
    have hc:=pl4_any n q hn HLT.out gx A1 n1 c1 A2 n2 c2 Z _ (Blk.keep HX0.out (a1.out)) (RdI.below HZ0x.out (a1.out)) HZB.out gc g a0 x0 lo hi rho (Blk.keep HC0.out (a1.out)) (Cl.keep HCL0.out (a1.out)) BB.out HRHO.out
    rw [HV1.out] at hc
    try dsimp only at hc
    have HC:=hid hc;clear hc
    go_wp2_with fail
    refine HC.out.mono ?_
    rintro e a8 ⟨rfl,hb⟩
    clear HC
    have a4:=hid hb
    clear hb
    replace a1:=bH a1 a4
    have hc:=pl4_any n 0 hn (by omega) gx A1 n1 c1 A2 n2 c2 Z _ (Blk.keep HX0.out (a1.out)) (RdI.below HZ0x.out (a1.out)) HZB.out gc g a0 x0 lo hi rho (Blk.keep HC0.out (a1.out)) (Cl.keep HCL0.out (a1.out)) BB.out HRHO.out
    rw [HV0.out] at hc
    try dsimp only at hc
    have HC:=hid hc;clear hc
    go_wp2_with fail
    refine HC.out.mono ?_
    rintro e a6 ⟨rfl,hb⟩
    clear HC
    have a5:=hid hb
    clear hb
    obtain ⟨old,hold⟩:∃ v,cs[q]?=some v:=⟨cs[q]'(by rw [HS.out];exact HLT.out),Array.getElem?_eq_getElem _⟩
    replace a2:=kH (kH a2 a4) a5
    have zc_:(a6).cell? ⟨w.heap.size,q,none⟩=some old:=by rw [Blk.cell a2.out q];exact hold
    have fz_:(a6).frozen? ⟨w.heap.size,q,none⟩=false:=Blk.frozen a2.out q;clear hold
    have hw1:=HW1.out
    have hlb_:=Blk.lt a2.out
    go_wp2
    replace a1:=bH a1 a5
    go_roundw
    case rel=>exact ⟨q+1,by have:=HLT.out;omega,by go_num,⟨cs.setIfInBounds q (.int .i64 (v1-v0)),by rw [Array.size_setIfInBounds];exact HS.out,cells_next (φ:=fun j=>at_ Z (rho j)-at_ Z (rho 0)) HS.out HLT.out HF.out (by rw [HV1.out,HV0.out]),Blk.set_ a2.out q _⟩,Below.setCell a1.out (p:=⟨w.heap.size,q,none⟩) (Nat.le_refl _) _⟩
    case measure=>have:=HLT.out;simp [intOf];omega
  · obtain rfl:q=n:=by omega
    go_wp2
    go_ret
    exact ⟨some ⟨w.heap.size,0,none⟩,_,rfl,rdI_of_blk (φ:=fun j=>at_ Z (rho j)-at_ Z (rho 0)) a2.out HS.out HF.out,a1.out⟩
end Go.Proofs.YtjjmifcjailpaaaGreat
