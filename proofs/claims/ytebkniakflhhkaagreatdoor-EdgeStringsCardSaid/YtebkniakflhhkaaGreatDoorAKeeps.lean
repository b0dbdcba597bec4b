import Derived.Test.YtebkniakflhhkaaGreatDoorAJoined
set_option maxHeartbeats 2000000
set_option linter.unusedSimpArgs false
set_option linter.unusedVariables false
namespace Go.Proofs.YtebkniakflhhkaaGreatDoor
open Go.Lib (hid)
open Go.RowKit
def isNum (x:Int):Bool:=decide (-1000000000≤x∧x≤1000000000)
def nums (p:Int) (x:List Int):Bool:=decide ((x.length:Int)=p)&&x.all isNum
theorem nums_at {p:Int} {x:List Int} (h:nums p x=true):(x.length:Int)=p∧∀ i,i<x.length→-1000000000≤at_ x i∧at_ x i≤1000000000:=by
 simp only [nums,Bool.and_eq_true,decide_eq_true_eq] at h
 refine ⟨h.1,fun i hi=>?_⟩
 have:=List.all_eq_true.1 h.2 (x[i]) (List.getElem_mem hi)
 simp only [isNum,decide_eq_true_eq] at this
 simpa [at_,List.getElem?_eq_getElem hi] using this
theorem areNumbers_any (p:Int) (B:Option Addr) (m d:Nat) (x:List Int) (w:World) (hr:RdI w B m d x) (hm:m≤maxLen) :
 Calls Tryz.prog 162 #[.slice B m d,.int .i64 p] w fun e w'=>e=.returned (.bool (nums p x))∧w=w':=by
 unfold maxLen at hm
 have hl:=hr.len
 have HR:=hid hr;have HL:=hid hl;clear hr hl
 unfold nums
 by_cases h:(m:Int)=p
 · have h1:((m:Int) != p)=false:=by simpa using h
   have H:=hid h;clear h
   go_enter Tryz.func162,Tryz.ntmps162
   go_wp2
   go_loopw [13] (fun i wr=>∃ k:Nat,k≤m∧i=.int .i64 k∧(x.take k).all isNum=true∧w=wr) (fun i _=>m-(intOf i).toNat)
   case atStart=>exact ⟨0,Nat.zero_le _,rfl,rfl,rfl⟩
   case round =>
    obtain ⟨k,hk,rfl,hall,rfl⟩:=hrel
    have HA:=hid hall;clear hall
    by_cases hlt:k<m
    · obtain ⟨b,o,v,rfl,hbw,hx,c0⟩:=HR.out.get hlt
      have HX:=hid hx;clear hx
      cases hpt:isNum v
      · have hpt2:¬ (-1000000000≤v∧v≤1000000000):=of_decide_eq_false hpt
        have HP:=hid hpt2;have HPT:=hid hpt;clear hpt hpt2
        go_wp2_with (go_at_call 75;refine (within_no _ _ _ _ HP.out).mono ?_;rintro e w' ⟨rfl,rfl⟩)
        go_ret
        exact ⟨ret_bool (by rw [show x.all isNum=false from List.all_eq_false.2 ⟨v,List.mem_of_getElem? HX.out,by simp [HPT.out]⟩,Bool.and_false]),by first|rfl|trivial⟩
      · have hpt2:-1000000000≤v∧v≤1000000000:=of_decide_eq_true hpt
        have HPT:=hid hpt
        have HP:=hid hpt2;clear hpt hpt2
        go_wp2_with (go_at_call 75;refine (within_yes _ _ _ _ HP.out).mono ?_;rintro e w' ⟨rfl,rfl⟩)
        go_roundw
        case rel=>exact ⟨k+1,by omega,by go_num,by rw [List.take_add_one,List.all_append,HA.out,HX.out];simpa using HPT.out,by first|rfl|trivial⟩
        case measure=>simp [intOf];omega
    · obtain rfl:k=m:=by omega
      go_wp2
      go_ret
      exact ⟨ret_bool (by have:=HA.out;rw [List.take_of_length_le (by rw [HL.out];exact Nat.le_refl _)] at this;rw [this,HL.out,H.out];simp),by first|rfl|trivial⟩
 · have h1:((m:Int) != p)=true:=by simpa using h
   have H:=hid h;clear h
   go_enter Tryz.func162,Tryz.ntmps162
   go_wp2
   go_ret
   exact ⟨ret_bool (by rw [HL.out];simp [H.out]),by first|rfl|trivial⟩
def keepB (x:List Int) (b:Bnd):Bool:=decide (look x b.t-look x b.f≤b.m)
def breaksV (p:Int) (l:List Bnd) (x:List Int):Int × Bool × Int :=
 if chk p l≠0 then (0,false,chk p l) else if nums p x=false then (0,false,1)
 else match l.findIdx? (fun b=>!keepB x b) with|some i=>((i:Int),true,0)|none=>(0,false,0)
theorem brk_some {l:List Bnd} {x:List Int} {k:Nat} {b:Bnd} (hb:l[k]?=some b) (hk:keepB x b=false) (hj:∀ j,j<k→∀ b,l[j]?=some b→keepB x b=true):l.findIdx? (fun b=>!keepB x b)=some k:=by
 obtain ⟨h1,h2⟩:=List.getElem?_eq_some_iff.1 hb
 rw [List.findIdx?_eq_some_iff_getElem]
 refine ⟨h1,by rw [h2,hk];rfl,fun j hjk=>?_⟩
 rw [hj j hjk _ (List.getElem?_eq_getElem (by omega))]
 simp
theorem brk_none {l:List Bnd} {x:List Int} (hj:∀ j,j<l.length→∀ b,l[j]?=some b→keepB x b=true):l.findIdx? (fun b=>!keepB x b)=none:=by
 rw [List.findIdx?_eq_none_iff]
 intro b hb
 obtain ⟨j,h1,h2⟩:=List.mem_iff_getElem.1 hb
 rw [hj j h1 b (by rw [List.getElem?_eq_getElem h1,h2])]
 rfl
theorem look_at {x:List Int} {k:Nat}:look x (k:Int)=at_ x k:=by simp [look,at_]
theorem Breaks_any (p:Int) (A B:Option Addr) (n c m d:Nat) (l:List Bnd) (x:List Int) (w:World) (hr:RdB w A n c l) (hn:n≤maxLen) (hq:RdI w B m d x) (hm:m≤maxLen) :
 Calls Tryz.prog 141 #[.agg #[.int .i64 p,.slice A n c],.slice B m d] w fun e w'=>e=.returned (.tuple #[.int .i64 (breaksV p l x).1,.bool (breaksV p l x).2.1,.int .i64 (breaksV p l x).2.2])∧Below w.heap.size w w':=by
 have hB:Below w.heap.size w (w.alloc (.cells #[.int .i64 p,.slice A n c] 84)):=(Below.refl _ w).alloc (Nat.le_refl _) _
 have hc:=checkSystem_any p A n c l _ (hr.below hB) hn
 have HC:=hid hc;have HR:=hid hr;have HQ:=hid hq;clear hc hr hq
 unfold breaksV
 by_cases hk:chk p l=0
 · rw [if_neg (by simpa using hk)]
   rw [hk] at HC
   obtain ⟨hp1,hp2,hlen,hall⟩:=chk_ok hk
   have HALL:=hid hall
   have hl:=HR.out.len
   clear hk hall
   have hw:=fun w' (h':Below w.heap.size w w')=>areNumbers_any p B m d x w' (HQ.out.below h') hm
   cases hnm:nums p x
   · rw [hnm] at hw
     have HW:=hid hw;clear hw hnm
     go_enter Tryz.func141,Tryz.ntmps141
     go_wp2_with fail
     refine HC.out.mono ?_
     rintro e w1 ⟨rfl,hb1⟩
     have hB1:=hB.trans (hb1.mono hB.size)
     have c1:=(Blk.new w 84 #[.int .i64 p,.slice A n c]).keep hb1
     have y0:w1.cell? ⟨w.heap.size,0,none⟩=some (.int .i64 p):=c1.cell 0
     go_wp2_with fail
     refine (HW.out _ hB1).mono ?_
     rintro e w2 ⟨rfl,rfl⟩
     go_wp2
     go_ret3
     exact ⟨rfl,hB1⟩
   · rw [hnm] at hw
     obtain ⟨hxl,hxv⟩:=nums_at hnm
     have HW:=hid hw;have HXV:=hid hxv;clear hw hnm hxv
     rw [if_neg (by simp)]
     have hsome:=fun k b h1 h2 h3=>congrArg (fun o:Option Nat=>(match o with|some i=>((i:Int),true,(0:Int))|none=>(0,false,0))) (brk_some (l:=l) (x:=x) (k:=k) (b:=b) h1 h2 h3)
     have hnone:=fun h3=>congrArg (fun o:Option Nat=>(match o with|some i=>((i:Int),true,(0:Int))|none=>(0,false,0))) (brk_none (l:=l) (x:=x) h3)
     dsimp only at hsome hnone
     generalize (match l.findIdx? (fun b=>!keepB x b) with|some i=>((i:Int),true,(0:Int))|none=>(0,false,0))=V at *
     have HS:=hid hsome;have HN:=hid hnone;clear hsome hnone
     go_enter Tryz.func141,Tryz.ntmps141
     go_wp2_with fail
     refine HC.out.mono ?_
     rintro e w1 ⟨rfl,hb1⟩
     have hB1:=hB.trans (hb1.mono hB.size)
     have c1:=(Blk.new w 84 #[.int .i64 p,.slice A n c]).keep hb1
     have y0:w1.cell? ⟨w.heap.size,0,none⟩=some (.int .i64 p):=c1.cell 0
     have y1:w1.cell? ⟨w.heap.size,1,none⟩=some (.slice A n c):=c1.cell 1
     go_wp2_with fail
     refine (HW.out _ hB1).mono ?_
     rintro e w2 ⟨rfl,rfl⟩
     go_wp2
     go_loopw [23] (fun i wr=>∃ k:Nat,k≤n∧i=.int .i64 k∧(∀ j,j<k→∀ b,l[j]?=some b→keepB x b=true)∧Below w.heap.size w wr) (fun i _=>n-(intOf i).toNat)
     case atStart=>exact ⟨0,Nat.zero_le _,rfl,(fun j hj=>absurd hj (Nat.not_lt_zero _)),hB1⟩
     case round =>
      obtain ⟨k,hk,rfl,hj,hb⟩:=hrel
      have HJ:=hid hj;clear hj
      by_cases hlt:k<n
      · obtain ⟨b,o,f,t,mm,i,hA,hbw,hx,c0,c1,c2,c3⟩:=(HR.out.below hb).get hlt
        have hbd:=HALL.out _ (List.mem_of_getElem? hx)
        simp only [okBnd,decide_eq_true_eq] at hbd
        obtain ⟨hf,ht,-,hmm,-⟩:=hbd
        have HX:=hid hx;clear hx
        subst hA
        obtain ⟨f,rfl⟩:=Int.eq_ofNat_of_zero_le hf.1
        obtain ⟨t,rfl⟩:=Int.eq_ofNat_of_zero_le ht.1
        have hm2:=HQ.out.len
        obtain ⟨b1,o1,v1,hB',hbw1,hx1,d1⟩:=(HQ.out.below hb).get (k:=f) (by omega)
        obtain ⟨b2,o2,v2,hB'',hbw2,hx2,d2⟩:=(HQ.out.below hb).get (k:=t) (by omega)
        subst hB'
        injection hB'' with hB''
        injection hB'' with e1 e2
        subst e1 e2
        have hv1:=HXV.out f (by omega)
        have hv2:=HXV.out t (by omega)
        have q1:at_ x f=v1:=by simp [at_,hx1]
        have q2:at_ x t=v2:=by simp [at_,hx2]
        rw [q1] at hv1
        rw [q2] at hv2
        have Q1:=hid q1;have Q2:=hid q2;clear q1 q2 hx1 hx2
        by_cases hkp:v2-v1≤mm
        · have HKP:=hid hkp
          have hgt:decide (mm<v2-v1)=false:=by simpa using hkp
          clear hkp
          go_wp2_with fail
          go_quiet (fail)
          go_wp2
          go_roundw
          case rel=>exact ⟨k+1,by omega,by go_num,(by
           intro j hj b hb
           by_cases hjk:j<k
           · exact HJ.out j hjk b hb
           · obtain rfl:j=k:=by omega
             rw [HX.out] at hb
             cases hb
             simp only [keepB,look_at,Q1.out,Q2.out]
             exact decide_eq_true HKP.out),(hb.alloc (Below.size hb) _).trans ⟨rfl,rfl,rfl,Nat.le_refl _,fun _ _=>rfl⟩⟩
          case measure=>simp [intOf];omega
        · have HKP:=hid hkp
          have hgt:decide (mm<v2-v1)=true:=by simpa using hkp
          clear hkp
          go_wp2_with fail
          go_quiet (fail)
          go_wp2
          go_ret3
          exact ⟨by rw [HS.out k _ HX.out (by simp only [keepB,look_at,Q1.out,Q2.out];exact decide_eq_false (by have:=HKP.out;omega)) HJ.out];rfl,(hb.alloc (Below.size hb) _).trans ⟨rfl,rfl,rfl,Nat.le_refl _,fun _ _=>rfl⟩⟩
      · obtain rfl:k=n:=by omega
        go_wp2
        go_ret3
        exact ⟨by rw [HN.out (by rw [hl];exact HJ.out)];rfl,hb⟩
 · rw [if_pos hk]
   generalize chk p l=q at *
   have hne:(q != 0)=true:=by simpa using hk
   clear hk
   go_enter Tryz.func141,Tryz.ntmps141
   go_wp2_with fail
   refine HC.out.mono ?_
   rintro e w1 ⟨rfl,hb1⟩
   go_wp2
   go_ret3
   exact ⟨rfl,hB.trans (hb1.mono hB.size)⟩
def keepsV (p:Int) (l:List Bnd) (x:List Int):Bool × Int:=(decide ((breaksV p l x).2.2=0)&&!(breaksV p l x).2.1,(breaksV p l x).2.2)
theorem Keeps_any (p:Int) (A B:Option Addr) (n c m d:Nat) (l:List Bnd) (x:List Int) (w:World) (hr:RdB w A n c l) (hn:n≤maxLen) (hq:RdI w B m d x) (hm:m≤maxLen) :
 Calls Tryz.prog 107 #[.agg #[.int .i64 p,.slice A n c],.slice B m d] w fun e w'=>e=.returned (.tuple #[.bool (keepsV p l x).1,.int .i64 (keepsV p l x).2])∧Below w.heap.size w w':=by
 have hB:Below w.heap.size w (w.alloc (.cells #[.int .i64 p,.slice A n c] 84)):=(Below.refl _ w).alloc (Nat.le_refl _) _
 have hc:=Breaks_any p A B n c m d l x _ (hr.below hB) hn (hq.below hB) hm
 unfold keepsV
 generalize breaksV p l x=V at *
 obtain ⟨i,b,q⟩:=V
 dsimp only at hc ⊢
 have HC:=hid hc;clear hc hr hq
 by_cases h:q=0
 · subst h
   go_enter Tryz.func107,Tryz.ntmps107
   go_wp2_with fail
   refine HC.out.mono ?_
   rintro e w1 ⟨rfl,hb1⟩
   go_wp2
   go_ret2
   exact ⟨by simp,hB.trans (hb1.mono hB.size)⟩
 · have h1:(q == 0)=false:=by simpa using h
   have H:=hid h;clear h
   go_enter Tryz.func107,Tryz.ntmps107
   go_wp2_with fail
   refine HC.out.mono ?_
   rintro e w1 ⟨rfl,hb1⟩
   go_wp2
   go_ret2
   exact ⟨by simp [H.out],hB.trans (hb1.mono hB.size)⟩
end Go.Proofs.YtebkniakflhhkaaGreatDoor
