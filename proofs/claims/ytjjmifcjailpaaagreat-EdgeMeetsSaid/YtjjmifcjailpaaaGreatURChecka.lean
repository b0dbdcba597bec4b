import Derived.Test.YtjjmifcjailpaaaGreatUClosed
import Derived.Test.YtjjmifcjailpaaaGreatURWalka
import Derived.Deep.DeepCutAuto
import Derived.Deep.OwnRows
import Derived.Great.BuildSlice
import Derived.Laws.AppendOwnNone
import Derived.Lib.SmallJoins
import Derived.Maps.OwnIn
import Derived.RangeFuncNested
import Derived.Shelf.SlIterI.Nil
import Derived.Shelf.Slices.Reverse
import Derived.Shelf.SortM.Plain
import Derived.Shelf.SortM.SortNone
import Derived.Sort.OwnSortedInts
import Derived.Test.YtjjmifcjailpaaaGreatUMem
import Derived.Test.YtjjmifcjailpaaaGreatURef
set_option maxHeartbeats 4000000
set_option linter.unusedSimpArgs false
set_option linter.unusedVariables false
namespace Go.Proofs.YtjjmifcjailpaaaGreat
open Go.Lib (hid)
open Go.RowKit
def frL (l:List Bnd) (x:List Int):List Int:=x.map (fun i=>(bnd l i).f)
def toL (l:List Bnd) (x:List Int):List Int:=x.map (fun i=>(bnd l i).t)
def lastT (l:List Bnd) (x:List Int):Int:=(bnd l (at_ x (x.length-1))).t
theorem bnd_of {l:List Bnd} {i:Int} {b:Bnd} (h:l[i.toNat]?=some b):bnd l i=b:=by unfold bnd;rw [List.getD_eq_getElem?_getD,h];rfl
def qNe (q:Option Int) (f:Int):Bool:=match q with|some t=>decide (t≠f)|none=>false
theorem chainG_in {l:List Bnd} {i:Int} {b:Bnd} {r:List Int} {L:List Bool} {q:Option Int} {s:Int} (h0:0≤i) (h:l[i.toNat]?=some b) {g:Bool} (hg:qNe q b.f=g) :
 chainG l (i::r) L q s=if (atB L b.f.toNat || g)=true then (0,false) else chainG l r (L.set b.f.toNat true) (some b.t) (s+b.m):=by
 have hk:=(List.getElem?_eq_some_iff.1 h).1
 subst hg
 rw [chainG,if_pos (by omega)]
 simp only [h]
 cases q<;>rfl
theorem chainG_out {l:List Bnd} {i:Int} {r:List Int} {L:List Bool} {q:Option Int} {s:Int} (h:¬ (0≤i∧i<l.length)):chainG l (i::r) L q s=(0,false):=by
 rw [chainG,if_neg (by omega)]
theorem atB_same (L:List Bool) (i:Nat) (h:i<L.length):atB (L.set i true) i=true:=by
 simp [atB,List.getD_eq_getElem?_getD,h]
theorem walkR_chain {l:List Bnd} (hok:OkB l):∀ (x F T:List Int) (L:List Bool) (q:Option Int) (s:Int),L.length=60→(∀ v:Int,0≤v→v<60→F.contains v=atB L v.toNat)→T.getLast?=q→T.Nodup →
 walkR l x F T s=if (chainG l x L q s).2=true∧(T++toL l x).Nodup then chainG l x L q s else (0,false)
 | [],F,T,L,q,s,_,_,_,hT=>by
  rw [show toL l []=[] from rfl,List.append_nil,if_pos ⟨rfl,hT⟩]
  rfl
 | i::r,F,T,L,q,s,hL,hF,hq,hT=>by
  by_cases hi:0≤i∧i<l.length
  · obtain ⟨k,rfl⟩:=Int.eq_ofNat_of_zero_le hi.1
    obtain ⟨b,hb⟩:∃ b,l[k]?=some b:=⟨l[k]'(by omega),List.getElem?_eq_getElem _⟩
    obtain ⟨f0,f1,-,-,-,-⟩:=hok b (List.mem_of_getElem? hb)
    have hb':l[(k:Int).toNat]?=some b:=by rw [Int.toNat_natCast];exact hb
    have hln:qNe q b.f=lastNe T b.f:=by rw [← hq];rfl
    rw [walkR_in hb,chainG_in hi.1 hb' hln,hF b.f f0 f1]
    by_cases hc:(atB L b.f.toNat || lastNe T b.f)=true
    · have hW:(atB L b.f.toNat || T.contains b.t || lastNe T b.f)=true:=by
       rw [Bool.or_eq_true] at hc
       rcases hc with h|h
       · rw [h];rfl
       · rw [h,Bool.or_true]
      rw [if_pos hc,if_pos hW]
      exact (if_neg (fun h=>by cases h.1)).symm
    · rw [if_neg hc]
      have htl:toL l ((k:Int)::r)=b.t::toL l r:=by unfold toL;rw [List.map_cons,bnd_of hb']
      rw [htl]
      by_cases ht:T.contains b.t=true
      · rw [if_pos (show (atB L b.f.toNat || T.contains b.t || lastNe T b.f)=true from by rw [ht];simp),if_neg (by
         rintro ⟨_,h⟩
         rw [List.nodup_append] at h
         exact h.2.2 b.t (by simpa using ht) b.t (List.mem_cons_self ..) rfl)]
      · have ht':T.contains b.t=false:=by simpa using ht
        simp only [Bool.not_eq_true,Bool.or_eq_false_iff] at hc
        rw [if_neg (show ¬ (atB L b.f.toNat || T.contains b.t || lastNe T b.f)=true from by rw [hc.1,ht',hc.2];simp)]
        have ih:=walkR_chain hok r (F++[b.f]) (T++[b.t]) (L.set b.f.toNat true) (some b.t) (s+b.m) (by rw [List.length_set];exact hL) (fun v v0 v1=>by
         by_cases hv:v=b.f
         · subst hv
           rw [atB_same _ _ (by omega)]
           simp
         · rw [atB_set _ _ _ (by omega),← hF v v0 v1]
           simp [hv]) (by simp) (by
         rw [List.nodup_append]
         exact ⟨hT,by simp,fun a ha c hc2=>by
          rw [List.mem_singleton] at hc2
          subst hc2
          intro e
          subst e
          exact ht (by simpa using ha)⟩)
        rw [ih,List.append_assoc]
        rfl
  · rw [walkR_out hi,chainG_out hi,if_neg (by rintro ⟨h,_⟩;cases h)]
theorem walkR_eq {l:List Bnd} (hok:OkB l) (x:List Int):walkR l x [] [] 0=if (chainV l x).2=true∧(toL l x).Nodup then chainV l x else (0,false):=by
 have:=walkR_chain hok x [] [] noB none 0 rfl (fun v _ _=>by rw [noB_at];rfl) rfl List.nodup_nil
 rw [List.nil_append] at this
 exact this
theorem chain_lists {l:List Bnd} (hok:OkB l):∀ {x:List Int} {L:List Bool} {q:Option Int} {s z:Int},L.length=60→chainG l x L q s=(z,true) →
 (frL l x).Nodup∧(∀ v∈frL l x,0≤v∧v<60∧atB L v.toNat=false)∧(x≠[]→toL l x=(frL l x).tail++[lastT l x])∧(∀ t,q=some t→x≠[]→(frL l x).head?=some t)
 | [],_,_,_,_,_,_=>⟨List.nodup_nil,(by intro v hv;simp [frL] at hv),fun h=>absurd rfl h,fun _ _ h=>absurd rfl h⟩
 | i::r,L,q,s,z,hL,h=>by
  by_cases hi:0≤i∧i<l.length
  · obtain ⟨k,rfl⟩:=Int.eq_ofNat_of_zero_le hi.1
    obtain ⟨b,hb⟩:∃ b,l[k]?=some b:=⟨l[k]'(by omega),List.getElem?_eq_getElem _⟩
    obtain ⟨f0,f1,-,-,-,-⟩:=hok b (List.mem_of_getElem? hb)
    have hb':l[(k:Int).toNat]?=some b:=by rw [Int.toNat_natCast];exact hb
    obtain ⟨g,hg⟩:∃ g,qNe q b.f=g:=⟨_,rfl⟩
    rw [chainG_in hi.1 hb' hg] at h
    by_cases hc:(atB L b.f.toNat || g)=true
    · rw [if_pos hc] at h;injection h with _ h;cases h
    · rw [if_neg hc] at h
      simp only [Bool.not_eq_true,Bool.or_eq_false_iff] at hc
      obtain ⟨h1,h2,h3,h4⟩:=chain_lists hok (by rw [List.length_set];exact hL) h
      have hfl:frL l ((k:Int)::r)=b.f::frL l r:=by unfold frL;rw [List.map_cons,bnd_of hb']
      have htl:toL l ((k:Int)::r)=b.t::toL l r:=by unfold toL;rw [List.map_cons,bnd_of hb']
      rw [hfl,htl]
      refine ⟨?_,?_,fun _=>?_,fun t ht _=>?_⟩
      · rw [List.nodup_cons]
        refine ⟨fun hm=>?_,h1⟩
        have:=(h2 _ hm).2.2
        rw [atB_same _ _ (by omega)] at this
        cases this
      · intro v hv
        rcases List.mem_cons.1 hv with rfl|hv
        · exact ⟨f0,f1,hc.1⟩
        · obtain ⟨v0,v1,v2⟩:=h2 v hv
          refine ⟨v0,v1,?_⟩
          by_cases e:v=b.f
          · subst e;exact hc.1
          · rw [atB_set _ _ _ (by omega)] at v2;exact v2
      · by_cases hr:r=[]
        · subst hr
          show [b.t]=[lastT l [(k:Int)]]
          unfold lastT
          rw [show at_ [(k:Int)] ([(k:Int)].length-1)=(k:Int) from rfl,bnd_of hb']
        · have e1:=h3 hr
          have e2:=h4 _ rfl hr
          have e3:lastT l ((k:Int)::r)=lastT l r:=by
           unfold lastT
           obtain ⟨j,r',rfl⟩:=List.exists_cons_of_ne_nil hr
           simp [at_]
          rw [e3,e1,List.tail_cons]
          obtain ⟨y,ys,hy⟩:=List.exists_cons_of_ne_nil (show frL l r≠[] from by unfold frL;simpa using hr)
          rw [hy] at e2 ⊢
          rw [List.head?_cons] at e2
          injection e2 with e2
          rw [List.tail_cons,e2]
          rfl
      · subst ht
        rw [List.head?_cons]
        rw [← hg] at hc
        unfold qNe at hc
        simp only [ne_eq,decide_eq_false_iff_not,Decidable.not_not] at hc
        rw [hc.2]
  · rw [chainG_out hi] at h;injection h with _ h;cases h
theorem fr_head {l:List Bnd} {x:List Int} (hx:x≠[]):frL l x=(bnd l (at_ x 0)).f::(frL l x).tail:=by
 obtain ⟨i,r,rfl⟩:=List.exists_cons_of_ne_nil hx
 rfl
def rcircV (l:List Bnd) (x:List Int):Bool:=(walkR l x [] [] 0).2&&decide (2≤x.length)&&decide ((walkR l x [] [] 0).1<0)&&decide ((bnd l (at_ x 0)).f=lastT l x)
theorem rcirc_eq {p:Int} {l:List Bnd} {x:List Int} (hk:chk p l=0):checkCircleV p l x=(rcircV l x,0):=by
 have hok:=okB_of hk
 have hg:gcode p l []=0:=by unfold gcode;simp [hk]
 unfold checkCircleV rcircV
 rw [if_pos hg,walkR_eq hok]
 obtain ⟨V,hV⟩:∃ V,chainV l x=V:=⟨_,rfl⟩
 obtain ⟨s,ok⟩:=V
 rw [hV]
 cases ok
 · simp
 · by_cases h2:x.length<2
   · simp [h2];omega
   · have hx:x≠[]:=fun e=>by rw [e] at h2;exact h2 (by decide)
     obtain ⟨l1,l2,l3,-⟩:=chain_lists hok rfl (show chainG l x noB none 0=(s,true) from hV)
     rw [if_neg (by simp),if_neg h2]
     by_cases hcl:lastT l x=(bnd l (at_ x 0)).f
     · have hnd:(toL l x).Nodup:=by
        rw [l3 hx,hcl]
        refine ((List.perm_append_singleton _ _).nodup_iff).2 ?_
        rw [← fr_head hx];exact l1
       rw [if_pos ⟨rfl,hnd⟩]
       unfold lastT at hcl
       simp only [hcl]
       unfold lastT
       simp only [hcl]
       simp
       omega
     · have h3:¬ (bnd l (at_ x (x.length-1))).t=(bnd l (at_ x 0)).f:=hcl
       have h4:¬ (bnd l (at_ x 0)).f=lastT l x:=fun e=>hcl e.symm
       simp [h3,h4]
theorem rdB_drewN {w:World} {A:Option Addr} {n c:Nat} {l:List Bnd} (h:RdB w A n c l) (q:Nat):RdB (w.drewN q) A n c l:=⟨h.len,h.cap,h.nil,h.cells⟩
theorem rdI_drewN {w:World} {A:Option Addr} {n c:Nat} {l:List Int} (h:RdI w A n c l) (q:Nat):RdI (w.drewN q) A n c l:=⟨h.len,h.cap,h.nil,h.cells⟩
end Go.Proofs.YtjjmifcjailpaaaGreat
/- What endOf answers, part by part; the code of Keeps. -/
namespace Go.Proofs.YtjjmifcjailpaaaGreat
open Go.Lib (hid)
open Go.RowKit
theorem walk_idx {l:List Bnd} (hok:OkB l) {x:List Int} {s:Int} (h:walkR l x [] [] 0=(s,true)):∀ i∈x,∃ k b,i=Int.ofNat k∧l[k]?=some b:=by
 rw [walkR_eq hok] at h
 by_cases hc:(chainV l x).2=true∧(toL l x).Nodup
 · rw [if_pos hc] at h
   exact chainG_ok h
 · rw [if_neg hc] at h;injection h with _ h;cases h
theorem walk_no {l:List Bnd} (hok:OkB l) {x:List Int} (h:(walkR l x [] [] 0).2=false):walkR l x [] [] 0=(0,false):=by
 rw [walkR_eq hok] at h ⊢
 by_cases hc:(chainV l x).2=true∧(toL l x).Nodup
 · rw [if_pos hc] at h;rw [hc.1] at h;cases h
 · rw [if_neg hc]
set_option maxRecDepth 100000 in
theorem rC_err (P:Int) (A:Option Addr) (n k:Nat) (l:List Bnd) (w:World) (hr:RdB w A n k l) (hn:n≤maxLen) (B:Option Addr) (m d:Nat) (x:List Int) (hx:RdI w B m d x) (hm:m≤100) (q:Int) (hq:(q != 0)=true) (E0:Hid (chk P l=q)) :
 Calls Tryz.prog 47 #[.agg #[.int .i64 P,.slice A n k],.slice B m d] w fun e w'=>e=.returned (.tuple #[.bool false,.int .i64 q])∧Below w.heap.size w w':=by
 go_enter Tryz.func47,Tryz.ntmps47
 have a0:=hid (show Below w.heap.size w w from Below.refl _ w)
 have a4:=hid (hx)
 clear hx
 have a2:=hid (hr)
 clear hr
 obtain ⟨o_,ho_⟩:∃ o,o=((.cells #[.int .i64 P,.slice A n k] 84):Obj):=⟨_,rfl⟩
 replace a0:=bA a0 o_
 replace a4:=iA a4 o_
 replace a2:=rA a2 o_
 subst ho_
 have a1:=hid (Blk.new w 84 #[.int .i64 P,.slice A n k])
 have hc:=rCheckSystem_any P A n k l _ a2.out hn
 rw [E0.out] at hc
 try dsimp only at hc
 have HC:=hid hc;clear hc
 go_wp2_with fail
 refine HC.out.mono ?_
 rintro e a5 ⟨rfl,hb⟩
 clear HC
 have a3:=hid hb
 clear hb
 replace a1:=kH a1 a3
 have a6:(a5).cell? ⟨w.heap.size,0,none⟩=some (.int .i64 P):=Blk.cell a1.out 0
 have a7:(a5).cell? ⟨w.heap.size,1,none⟩=some (.slice A n k):=Blk.cell a1.out 1
 go_wp2
 go_ret2
 replace a0:=bH a0 a3
 exact ⟨rfl,a0.out⟩
set_option maxRecDepth 100000 in
theorem rC_no (P:Int) (A:Option Addr) (n k:Nat) (l:List Bnd) (w:World) (hr:RdB w A n k l) (hn:n≤maxLen) (B:Option Addr) (m d:Nat) (x:List Int) (hx:RdI w B m d x) (hm:m≤100) (hn4:n≤402) (HOK:Hid (OkB l)) (E0:Hid (chk P l=0)) (E1:Hid (walkR l x [] [] 0=(0,false))) :
 Calls Tryz.prog 47 #[.agg #[.int .i64 P,.slice A n k],.slice B m d] w fun e w'=>e=.returned (.tuple #[.bool false,.int .i64 0])∧Below w.heap.size w w':=by
 go_enter Tryz.func47,Tryz.ntmps47
 have a1:=hid (show Below w.heap.size w w from Below.refl _ w)
 have a4:=hid (hx)
 clear hx
 have a2:=hid (hr)
 clear hr
 obtain ⟨o_,ho_⟩:∃ o,o=((.cells #[.int .i64 P,.slice A n k] 84):Obj):=⟨_,rfl⟩
 replace a1:=bA a1 o_
 replace a4:=iA a4 o_
 replace a2:=rA a2 o_
 subst ho_
 have a0:=hid (Blk.new w 84 #[.int .i64 P,.slice A n k])
 have hc:=rCheckSystem_any P A n k l _ a2.out hn
 rw [E0.out] at hc
 try dsimp only at hc
 have HC:=hid hc;clear hc
 go_wp2_with fail
 refine HC.out.mono ?_
 rintro e a6 ⟨rfl,hb⟩
 clear HC
 have a3:=hid hb
 clear hb
 replace a0:=kH a0 a3
 have a8:(a6).cell? ⟨w.heap.size,0,none⟩=some (.int .i64 P):=Blk.cell a0.out 0
 have a9:(a6).cell? ⟨w.heap.size,1,none⟩=some (.slice A n k):=Blk.cell a0.out 1
 replace a2:=rH a2 a3
 replace a4:=iH a4 a3
 have hc:=rwalk_any P A B n k m d l x _ a2.out hn4 HOK.out a4.out hm
 rw [E1.out] at hc
 try dsimp only at hc
 have HC:=hid hc;clear hc
 go_wp2_with fail
 refine HC.out.mono ?_
 rintro e a7 ⟨rfl,hb⟩
 clear HC
 clear a8 a9
 have a5:=hid hb
 clear hb
 replace a0:=kH a0 a5
 have b0:(a7).cell? ⟨w.heap.size,0,none⟩=some (.int .i64 P):=Blk.cell a0.out 0
 have b1:(a7).cell? ⟨w.heap.size,1,none⟩=some (.slice A n k):=Blk.cell a0.out 1
 go_wp2
 go_ret2
 replace a1:=bH (bH a1 a3) a5
 exact ⟨rfl,a1.out⟩
set_option maxRecDepth 100000 in
theorem rC_short (P:Int) (A:Option Addr) (n k:Nat) (l:List Bnd) (w:World) (hr:RdB w A n k l) (hn:n≤maxLen) (B:Option Addr) (m d:Nat) (x:List Int) (hx:RdI w B m d x) (hm:m≤100) (hn4:n≤402) (HOK:Hid (OkB l)) (E0:Hid (chk P l=0)) (s:Int) (E1:Hid (walkR l x [] [] 0=(s,true))) (h2:m<2) :
 Calls Tryz.prog 47 #[.agg #[.int .i64 P,.slice A n k],.slice B m d] w fun e w'=>e=.returned (.tuple #[.bool false,.int .i64 0])∧Below w.heap.size w w':=by
 go_enter Tryz.func47,Tryz.ntmps47
 have a1:=hid (show Below w.heap.size w w from Below.refl _ w)
 have a4:=hid (hx)
 clear hx
 have a2:=hid (hr)
 clear hr
 obtain ⟨o_,ho_⟩:∃ o,o=((.cells #[.int .i64 P,.slice A n k] 84):Obj):=⟨_,rfl⟩
 replace a1:=bA a1 o_
 replace a4:=iA a4 o_
 replace a2:=rA a2 o_
 subst ho_
 have a0:=hid (Blk.new w 84 #[.int .i64 P,.slice A n k])
 have hc:=rCheckSystem_any P A n k l _ a2.out hn
 rw [E0.out] at hc
 try dsimp only at hc
 have HC:=hid hc;clear hc
 go_wp2_with fail
 refine HC.out.mono ?_
 rintro e a6 ⟨rfl,hb⟩
 clear HC
 have a3:=hid hb
 clear hb
 replace a0:=kH a0 a3
 have a8:(a6).cell? ⟨w.heap.size,0,none⟩=some (.int .i64 P):=Blk.cell a0.out 0
 have a9:(a6).cell? ⟨w.heap.size,1,none⟩=some (.slice A n k):=Blk.cell a0.out 1
 replace a2:=rH a2 a3
 replace a4:=iH a4 a3
 have hc:=rwalk_any P A B n k m d l x _ a2.out hn4 HOK.out a4.out hm
 rw [E1.out] at hc
 try dsimp only at hc
 have HC:=hid hc;clear hc
 go_wp2_with fail
 refine HC.out.mono ?_
 rintro e a7 ⟨rfl,hb⟩
 clear HC
 clear a8 a9
 have a5:=hid hb
 clear hb
 replace a0:=kH a0 a5
 have b0:(a7).cell? ⟨w.heap.size,0,none⟩=some (.int .i64 P):=Blk.cell a0.out 0
 have b1:(a7).cell? ⟨w.heap.size,1,none⟩=some (.slice A n k):=Blk.cell a0.out 1
 go_wp2
 go_ret2
 replace a1:=bH (bH a1 a3) a5
 exact ⟨rfl,a1.out⟩
set_option maxRecDepth 100000 in
theorem rC_ok0 (P:Int) (A:Option Addr) (n k:Nat) (l:List Bnd) (w:World) (hr:RdB w A n k l) (hn:n≤maxLen) (B:Option Addr) (m d:Nat) (x:List Int) (hx:RdI w B (m+1) d x) (hm:m+1≤100) (hn4:n≤402) (HOK:Hid (OkB l)) (E0:Hid (chk P l=0)) (s:Int) (E1:Hid (walkR l x [] [] 0=(s,true))) (h2:1≤m) (k0 k1:Nat) (f0 t0 m0 i0 f1 t1 m1 i1:Int) (hx0:x[0]?=some (k0:Int)) (hx1:x[m]?=some (k1:Int)) (hb0:l[k0]?=some ⟨f0,t0,m0,i0⟩) (hb1:l[k1]?=some ⟨f1,t1,m1,i1⟩) (hs:decide (s<0)=false) :
 Calls Tryz.prog 47 #[.agg #[.int .i64 P,.slice A n k],.slice B (m+1) d] w fun e w'=>e=.returned (.tuple #[.bool false,.int .i64 0])∧Below w.heap.size w w':=by
 obtain ⟨bx,ox,hBx⟩:=rdI_some hx hx0
 subst hBx
 obtain ⟨ba,oa,hA⟩:=rdB_some hr hb0
 subst hA
 have hk0:=(List.getElem?_eq_some_iff.1 hb0).1;have hk1:=(List.getElem?_eq_some_iff.1 hb1).1;have hln:=hr.len;have hmx:=hx.len;have hm0:=(List.getElem?_eq_some_iff.1 hx0).1;have hm1:=(List.getElem?_eq_some_iff.1 hx1).1
 have HX0:=hid hx0;have HX1:=hid hx1;have HB0:=hid hb0;have HB1:=hid hb1;clear hx0 hx1 hb0 hb1
 go_enter Tryz.func47,Tryz.ntmps47
 have a3:=hid (show Below w.heap.size w w from Below.refl _ w)
 have a2:=hid (hx)
 clear hx
 have a1:=hid (hr)
 clear hr
 obtain ⟨o_,ho_⟩:∃ o,o=((.cells #[.int .i64 P,.slice (some ⟨ba,oa,none⟩) n k] 84):Obj):=⟨_,rfl⟩
 replace a3:=bA a3 o_
 replace a2:=iA a2 o_
 replace a1:=rA a1 o_
 subst ho_
 have a0:=hid (Blk.new w 84 #[.int .i64 P,.slice (some ⟨ba,oa,none⟩) n k])
 have hc:=rCheckSystem_any P (some ⟨ba,oa,none⟩) n k l _ a1.out hn
 rw [E0.out] at hc
 try dsimp only at hc
 have HC:=hid hc;clear hc
 go_wp2_with fail
 refine HC.out.mono ?_
 rintro e a9 ⟨rfl,hb⟩
 clear HC
 have a5:=hid hb
 clear hb
 replace a0:=kH a0 a5
 have b2:(a9).cell? ⟨w.heap.size,0,none⟩=some (.int .i64 P):=Blk.cell a0.out 0
 have b3:(a9).cell? ⟨w.heap.size,1,none⟩=some (.slice (some ⟨ba,oa,none⟩) n k):=Blk.cell a0.out 1
 replace a1:=rH a1 a5
 replace a2:=iH a2 a5
 have hc:=rwalk_any P (some ⟨ba,oa,none⟩) (some ⟨bx,ox,none⟩) n k (m+1) d l x _ a1.out hn4 HOK.out a2.out hm
 rw [E1.out] at hc
 try dsimp only at hc
 have HC:=hid hc;clear hc
 go_wp2_with fail
 refine HC.out.mono ?_
 rintro e a7 ⟨rfl,hb⟩
 clear HC
 clear b2 b3
 have a4:=hid hb
 clear hb
 replace a0:=kH a0 a4
 have b0:(a7).cell? ⟨w.heap.size,0,none⟩=some (.int .i64 P):=Blk.cell a0.out 0
 have b1:(a7).cell? ⟨w.heap.size,1,none⟩=some (.slice (some ⟨ba,oa,none⟩) n k):=Blk.cell a0.out 1
 go_wp2_with fail
 replace a1:=rH a1 a4
 replace a2:=iH a2 a4
 obtain ⟨p0,p1,p2,p3,pl⟩:=rdB_at a1.out HB0.out;obtain ⟨r0,r1,r2,r3,rl⟩:=rdB_at a1.out HB1.out;obtain ⟨s0,sl⟩:=rdI_at a2.out HX0.out;have s1:=(rdI_at a2.out HX1.out).1
 clear p1 p2 p3 r0 r2 r3
 rw [Nat.add_zero] at s0
 go_quiet (fail)
 clear p0 r1 s0 s1
 replace a3:=bH (bH a3 a5) a4
 clear b0 b1
 have a8:=hid (bdrewN a3.out nq)
 clear a3
 have b5:=hid (rdI_drewN a2.out nq)
 clear a2
 have b4:=hid (rdB_drewN a1.out nq)
 clear a1
 have a6:=hid (blk_drewN a0.out nq)
 clear a0
 have b6:((World.drewN a7 nq)).cell? ⟨w.heap.size,0,none⟩=some (.int .i64 P):=Blk.cell a6.out 0
 have b7:((World.drewN a7 nq)).cell? ⟨w.heap.size,1,none⟩=some (.slice (some ⟨ba,oa,none⟩) n k):=Blk.cell a6.out 1
 go_wp2
 go_ret2
 exact ⟨rfl,a8.out⟩
set_option maxRecDepth 100000 in
theorem rC_ok1 (P:Int) (A:Option Addr) (n k:Nat) (l:List Bnd) (w:World) (hr:RdB w A n k l) (hn:n≤maxLen) (B:Option Addr) (m d:Nat) (x:List Int) (hx:RdI w B (m+1) d x) (hm:m+1≤100) (hn4:n≤402) (HOK:Hid (OkB l)) (E0:Hid (chk P l=0)) (s:Int) (E1:Hid (walkR l x [] [] 0=(s,true))) (h2:1≤m) (k0 k1:Nat) (f0 t0 m0 i0 f1 t1 m1 i1:Int) (hx0:x[0]?=some (k0:Int)) (hx1:x[m]?=some (k1:Int)) (hb0:l[k0]?=some ⟨f0,t0,m0,i0⟩) (hb1:l[k1]?=some ⟨f1,t1,m1,i1⟩) (hs:decide (s<0)=true) (g1:(f0 == t1)=false) (g2:decide (f0=t1)=false) (g3:¬ f0=t1) :
 Calls Tryz.prog 47 #[.agg #[.int .i64 P,.slice A n k],.slice B (m+1) d] w fun e w'=>e=.returned (.tuple #[.bool false,.int .i64 0])∧Below w.heap.size w w':=by
 obtain ⟨bx,ox,hBx⟩:=rdI_some hx hx0
 subst hBx
 obtain ⟨ba,oa,hA⟩:=rdB_some hr hb0
 subst hA
 have hk0:=(List.getElem?_eq_some_iff.1 hb0).1;have hk1:=(List.getElem?_eq_some_iff.1 hb1).1;have hln:=hr.len;have hmx:=hx.len;have hm0:=(List.getElem?_eq_some_iff.1 hx0).1;have hm1:=(List.getElem?_eq_some_iff.1 hx1).1
 have HX0:=hid hx0;have HX1:=hid hx1;have HB0:=hid hb0;have HB1:=hid hb1;clear hx0 hx1 hb0 hb1
 go_enter Tryz.func47,Tryz.ntmps47
 have a3:=hid (show Below w.heap.size w w from Below.refl _ w)
 have a2:=hid (hx)
 clear hx
 have a1:=hid (hr)
 clear hr
 obtain ⟨o_,ho_⟩:∃ o,o=((.cells #[.int .i64 P,.slice (some ⟨ba,oa,none⟩) n k] 84):Obj):=⟨_,rfl⟩
 replace a3:=bA a3 o_
 replace a2:=iA a2 o_
 replace a1:=rA a1 o_
 subst ho_
 have a0:=hid (Blk.new w 84 #[.int .i64 P,.slice (some ⟨ba,oa,none⟩) n k])
 have hc:=rCheckSystem_any P (some ⟨ba,oa,none⟩) n k l _ a1.out hn
 rw [E0.out] at hc
 try dsimp only at hc
 have HC:=hid hc;clear hc
 go_wp2_with fail
 refine HC.out.mono ?_
 rintro e a9 ⟨rfl,hb⟩
 clear HC
 have a5:=hid hb
 clear hb
 replace a0:=kH a0 a5
 have b2:(a9).cell? ⟨w.heap.size,0,none⟩=some (.int .i64 P):=Blk.cell a0.out 0
 have b3:(a9).cell? ⟨w.heap.size,1,none⟩=some (.slice (some ⟨ba,oa,none⟩) n k):=Blk.cell a0.out 1
 replace a1:=rH a1 a5
 replace a2:=iH a2 a5
 have hc:=rwalk_any P (some ⟨ba,oa,none⟩) (some ⟨bx,ox,none⟩) n k (m+1) d l x _ a1.out hn4 HOK.out a2.out hm
 rw [E1.out] at hc
 try dsimp only at hc
 have HC:=hid hc;clear hc
 go_wp2_with fail
 refine HC.out.mono ?_
 rintro e a7 ⟨rfl,hb⟩
 clear HC
 clear b2 b3
 have a4:=hid hb
 clear hb
 replace a0:=kH a0 a4
 have b0:(a7).cell? ⟨w.heap.size,0,none⟩=some (.int .i64 P):=Blk.cell a0.out 0
 have b1:(a7).cell? ⟨w.heap.size,1,none⟩=some (.slice (some ⟨ba,oa,none⟩) n k):=Blk.cell a0.out 1
 go_wp2_with fail
 replace a1:=rH a1 a4
 replace a2:=iH a2 a4
 obtain ⟨p0,p1,p2,p3,pl⟩:=rdB_at a1.out HB0.out;obtain ⟨r0,r1,r2,r3,rl⟩:=rdB_at a1.out HB1.out;obtain ⟨s0,sl⟩:=rdI_at a2.out HX0.out;have s1:=(rdI_at a2.out HX1.out).1
 clear p1 p2 p3 r0 r2 r3
 rw [Nat.add_zero] at s0
 go_quiet (fail)
 clear p0 r1 s0 s1
 replace a3:=bH (bH a3 a5) a4
 clear b0 b1
 have a8:=hid (bdrewN a3.out nq)
 clear a3
 have b5:=hid (rdI_drewN a2.out nq)
 clear a2
 have b4:=hid (rdB_drewN a1.out nq)
 clear a1
 have a6:=hid (blk_drewN a0.out nq)
 clear a0
 have b6:((World.drewN a7 nq)).cell? ⟨w.heap.size,0,none⟩=some (.int .i64 P):=Blk.cell a6.out 0
 have b7:((World.drewN a7 nq)).cell? ⟨w.heap.size,1,none⟩=some (.slice (some ⟨ba,oa,none⟩) n k):=Blk.cell a6.out 1
 go_wp2
 go_ret2
 exact ⟨rfl,a8.out⟩
set_option maxRecDepth 100000 in
theorem rC_ok2 (P:Int) (A:Option Addr) (n k:Nat) (l:List Bnd) (w:World) (hr:RdB w A n k l) (hn:n≤maxLen) (B:Option Addr) (m d:Nat) (x:List Int) (hx:RdI w B (m+1) d x) (hm:m+1≤100) (hn4:n≤402) (HOK:Hid (OkB l)) (E0:Hid (chk P l=0)) (s:Int) (E1:Hid (walkR l x [] [] 0=(s,true))) (h2:1≤m) (k0 k1:Nat) (f0 t0 m0 i0 f1 m1 i1:Int) (hx0:x[0]?=some (k0:Int)) (hx1:x[m]?=some (k1:Int)) (hb0:l[k0]?=some ⟨f0,t0,m0,i0⟩) (hb1:l[k1]?=some ⟨f1,f0,m1,i1⟩) (hs:decide (s<0)=true) :
 Calls Tryz.prog 47 #[.agg #[.int .i64 P,.slice A n k],.slice B (m+1) d] w fun e w'=>e=.returned (.tuple #[.bool true,.int .i64 0])∧Below w.heap.size w w':=by
 obtain ⟨bx,ox,hBx⟩:=rdI_some hx hx0
 subst hBx
 obtain ⟨ba,oa,hA⟩:=rdB_some hr hb0
 subst hA
 have hk0:=(List.getElem?_eq_some_iff.1 hb0).1;have hk1:=(List.getElem?_eq_some_iff.1 hb1).1;have hln:=hr.len;have hmx:=hx.len;have hm0:=(List.getElem?_eq_some_iff.1 hx0).1;have hm1:=(List.getElem?_eq_some_iff.1 hx1).1
 have HX0:=hid hx0;have HX1:=hid hx1;have HB0:=hid hb0;have HB1:=hid hb1;clear hx0 hx1 hb0 hb1
 go_enter Tryz.func47,Tryz.ntmps47
 have a3:=hid (show Below w.heap.size w w from Below.refl _ w)
 have a2:=hid (hx)
 clear hx
 have a1:=hid (hr)
 clear hr
 obtain ⟨o_,ho_⟩:∃ o,o=((.cells #[.int .i64 P,.slice (some ⟨ba,oa,none⟩) n k] 84):Obj):=⟨_,rfl⟩
 replace a3:=bA a3 o_
 replace a2:=iA a2 o_
 replace a1:=rA a1 o_
 subst ho_
 have a0:=hid (Blk.new w 84 #[.int .i64 P,.slice (some ⟨ba,oa,none⟩) n k])
 have hc:=rCheckSystem_any P (some ⟨ba,oa,none⟩) n k l _ a1.out hn
 rw [E0.out] at hc
 try dsimp only at hc
 have HC:=hid hc;clear hc
 go_wp2_with fail
 refine HC.out.mono ?_
 rintro e a9 ⟨rfl,hb⟩
 clear HC
 have a5:=hid hb
 clear hb
 replace a0:=kH a0 a5
 have b2:(a9).cell? ⟨w.heap.size,0,none⟩=some (.int .i64 P):=Blk.cell a0.out 0
 have b3:(a9).cell? ⟨w.heap.size,1,none⟩=some (.slice (some ⟨ba,oa,none⟩) n k):=Blk.cell a0.out 1
 replace a1:=rH a1 a5
 replace a2:=iH a2 a5
 have hc:=rwalk_any P (some ⟨ba,oa,none⟩) (some ⟨bx,ox,none⟩) n k (m+1) d l x _ a1.out hn4 HOK.out a2.out hm
 rw [E1.out] at hc
 try dsimp only at hc
 have HC:=hid hc;clear hc
 go_wp2_with fail
 refine HC.out.mono ?_
 rintro e a7 ⟨rfl,hb⟩
 clear HC
 clear b2 b3
 have a4:=hid hb
 clear hb
 replace a0:=kH a0 a4
 have b0:(a7).cell? ⟨w.heap.size,0,none⟩=some (.int .i64 P):=Blk.cell a0.out 0
 have b1:(a7).cell? ⟨w.heap.size,1,none⟩=some (.slice (some ⟨ba,oa,none⟩) n k):=Blk.cell a0.out 1
 go_wp2_with fail
 replace a1:=rH a1 a4
 replace a2:=iH a2 a4
 obtain ⟨p0,p1,p2,p3,pl⟩:=rdB_at a1.out HB0.out;obtain ⟨r0,r1,r2,r3,rl⟩:=rdB_at a1.out HB1.out;obtain ⟨s0,sl⟩:=rdI_at a2.out HX0.out;have s1:=(rdI_at a2.out HX1.out).1
 clear p1 p2 p3 r0 r2 r3
 rw [Nat.add_zero] at s0
 go_quiet (fail)
 clear p0 r1 s0 s1
 replace a3:=bH (bH a3 a5) a4
 clear b0 b1
 have a8:=hid (bdrewN a3.out nq)
 clear a3
 have b5:=hid (rdI_drewN a2.out nq)
 clear a2
 have b4:=hid (rdB_drewN a1.out nq)
 clear a1
 have a6:=hid (blk_drewN a0.out nq)
 clear a0
 have b6:((World.drewN a7 nq)).cell? ⟨w.heap.size,0,none⟩=some (.int .i64 P):=Blk.cell a6.out 0
 have b7:((World.drewN a7 nq)).cell? ⟨w.heap.size,1,none⟩=some (.slice (some ⟨ba,oa,none⟩) n k):=Blk.cell a6.out 1
 go_wp2
 go_ret2
 exact ⟨rfl,a8.out⟩
end Go.Proofs.YtjjmifcjailpaaaGreat
