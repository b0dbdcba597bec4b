import Derived.Test.YtebkniakflhhkaaGreatDoorASolve
import Derived.Test.YtebkniakflhhkaaGreatDoorAChn
import Derived.Test.YtebkniakflhhkaaGreatDoorAEWays
set_option linter.unusedSimpArgs false
set_option linter.unusedVariables false
namespace Go.Proofs.YtebkniakflhhkaaGreatDoor
open Go.Lib (hid)
open Go.RowKit
def idsV (P:Int) (l:List Bnd) (x:List Int):List Int × Int :=
 if chk P l≠0 then ([],chk P l) else if x.all (fun i=>decide (0≤i∧i<l.length)) then (idsL (x.map (bnd l)),0) else ([],1)
theorem idsV_no {P:Int} {l:List Bnd} {x:List Int} (hk:chk P l=0) {v:Int} (hv:v∈x) (h:¬ (0≤v∧v<l.length)):idsV P l x=([],1):=by
 unfold idsV
 rw [if_neg (by simpa using hk),if_neg]
 intro ha
 have:=List.all_eq_true.1 ha v hv
 exact h (by simpa using this)
theorem idsV_yes {P:Int} {l:List Bnd} {x:List Int} (hk:chk P l=0) (h:∀ i∈x,0≤i∧i<l.length):idsV P l x=(idsL (x.map (bnd l)),0):=by
 unfold idsV
 rw [if_neg (by simpa using hk),if_pos]
 exact List.all_eq_true.2 fun i hi=>decide_eq_true (h i hi)
theorem wf_small {x:Int} (h1:-1000000000000≤x) (h2:x≤1000000000000):Wf x:=by
 unfold Wf Lit.wf
 have e1:IntKind.i64.min=-9223372036854775808:=by decide
 have e2:IntKind.i64.max=9223372036854775807:=by decide
 simp
 omega
theorem ids_wf {P:Int} {l:List Bnd} {x:List Int} (hk:chk P l=0) (h:∀ i∈x,0≤i∧i<l.length):∀ b∈x.map (bnd l),Wf b.b:=by
 intro b hb
 obtain ⟨i,hi,rfl⟩:=List.mem_map.1 hb
 obtain ⟨h0,h1⟩:=h i hi
 have hm:bnd l i∈l:=by
  unfold bnd
  rw [List.getD_eq_getElem?_getD,List.getElem?_eq_getElem (by omega)]
  exact List.getElem_mem _
 obtain ⟨-,-,-,h4⟩:=chk_ok hk
 have:=h4 _ hm
 simp only [okBnd,decide_eq_true_eq] at this
 exact wf_small (by omega) (by omega)
def RetLR (V:List Int × Int) (w:World) (e:Ending) (w':World):Prop :=
 ∃ A n c,e=.returned (.tuple #[.slice A n c,.int .i64 V.2])∧RdI w' A n c V.1∧n≤maxLen∧Below w.heap.size w w'
set_option maxRecDepth 100000 in
set_option maxHeartbeats 4000000 in
theorem Ids_any (P:Int) (A:Option Addr) (n k:Nat) (l:List Bnd) (w:World) (h1:RdB w A n k l) (hn:n≤maxLen) (X:Option Addr) (xn xk:Nat) (x:List Int) (hx:RdI w X xn xk x) (hxm:xn≤1000) :
 Calls Tryz.prog 48 #[.agg #[.int .i64 P,.slice A n k],.slice X xn xk] w (RetLR (idsV P l x) w):=by
 obtain ⟨q,hq⟩:∃ q,chk P l=q:=⟨_,rfl⟩
 have E1:=hid hq
 by_cases h0:q=0
 · subst h0
   have HK:=hid hq
   have hlen:=(chk_ok hq).2.2.1
   clear hq
   obtain ⟨i0,hi0,hz0,hz1,hz2⟩:=info_parts infoB
   have HI:=hid hi0;have HZ0:=hid hz0;have HZ1:=hid hz1;have HZ2:=hid hz2;clear hi0 hz0 hz1 hz2
   unfold RetLR
   have R0:=hid h1;have X0:=hid hx
   go_enter Tryz.func48,Tryz.ntmps48
   obtain ⟨a2,a1⟩:=ent1 w #[.int .i64 P,.slice A n k] 84
   have a3:=rI h1 a1
   clear h1
   obtain ⟨a8,a9⟩:=at2 a2
   clear hx
   have hc:=checkSystem_any P A n k l _ a3.out hn
   rw [E1.out] at hc
   try dsimp only at hc
   have HC:=hid hc;clear hc
   go_wp2_with fail
   refine HC.out.mono ?_
   rintro e b2 ⟨rfl,hb⟩
   clear HC
   clear a8 a9
   have a4:=hid hb
   clear hb
   replace a2:=kH a2 a4
   obtain ⟨b0,b1⟩:=at2 a2
   replace a3:=rH a3 a4
   have hl_:=(a3.out).len
   go_wp2
   clear b0 b1
   clear a3
   replace a1:=bH a1 a4
   go_loopw [7,17] (fun s i wr=>∃ (q:Nat) (Ai:Option Addr) (ci:Nat),q≤xn∧i=.int .i64 q∧s=.slice Ai q ci∧OwnsX wr (w.heap.size+1) 50 4 (.slice Ai q ci) q (bcells ((x.take q).map (bnd l)))∧(∀ i∈x.take q,0≤i∧i<l.length)∧Blk wr (w.heap.size) 84 #[.int .i64 P,.slice A n k]∧Below w.heap.size w wr) (fun s i _=>xn-(intOf i).toNat)
   case atStart=>exact ⟨0,none,0,Nat.zero_le _,rfl,rfl,.inr ⟨none,rfl,rfl,rfl⟩,by simp,a2.out,a1.out⟩
   case round =>
    clear a1 a2
    obtain ⟨q,Ai,ci,hq,rfl,rfl,i1,hin,i3,i4⟩:=hrel
    have a6:=hid (i1)
    have a5:=hid (i3)
    have a0:=hid (i4)
    clear i1 i3 i4
    have HIN:=hid hin;clear hin
    have hgs:=Blk.lt (a5.out)
    by_cases hlt:q<xn
    · have hlt':(q:Int)<xn:=by omega
      obtain ⟨xb,xo,v,hX,xlt,hxq,hxc⟩:=RdI.get (RdI.below X0.out a0.out) hlt
      subst hX
      have htk:x.take (q+1)=x.take q++[v]:=by rw [List.take_add_one,hxq];rfl
      have HTK:=hid htk;clear htk
      have hvm:=List.mem_of_getElem? hxq;have HVM:=hid hvm;clear hvm hxq
      obtain ⟨b3,b4⟩:=at2 a5
      by_cases hin:0≤v∧v≤(n:Int)-1
      · have hwn:=fun w=>within_yes v 0 ((n:Int)-1) w hin
        have HWN:=hid hwn;clear hwn
        obtain ⟨hv0,hv1⟩:=hin
        obtain ⟨v,rfl⟩:=Int.eq_ofNat_of_zero_le hv0
        obtain ⟨⟨f,t,mm,ib⟩,hx2⟩:∃ b,l[v]?=some b:=⟨l[v]'(by omega),List.getElem?_eq_getElem _⟩
        obtain ⟨bb,ob,hBB⟩:=rdB_some R0.out hx2
        subst hBB
        obtain ⟨e0,e1,e2,e3,el⟩:=rdB_at (RdB.below R0.out a0.out) hx2
        have hb2:bnd l (v:Int)=⟨f,t,mm,ib⟩:=bnd_at hx2
        have HB2:=hid hb2;clear hb2 hx2
        have NB:=hid (Blk.new wr 50 #[.int .i64 f,.int .i64 t,.int .i64 mm,.int .i64 ib])
        have OXA:=hid (OwnsX.alloc (a6.out) (.cells #[.int .i64 f,.int .i64 t,.int .i64 mm,.int .i64 ib] 50))
        have BSA:=hid (Blk.alloc (a5.out) (.cells #[.int .i64 f,.int .i64 t,.int .i64 mm,.int .i64 ib] 50))
        have BLA:=hid (Below.alloc (a0.out) ((a0.out).size) (.cells #[.int .i64 f,.int .i64 t,.int .i64 mm,.int .i64 ib] 50))
        have hsz_:=Blk.lt BSA.out
        go_wp2_with (first | (go_at_call 75;refine (HWN.out _).mono ?_;rintro e w' ⟨rfl,rfl⟩) | (at_builtin;refine wpList_append_X _ rfl (.tmp 28) (.tmp 34) 33 rfl (w.heap.size+1) 50 i0 _ 4 32 Tryz.underlying33 HI.out HZ0.out HZ1.out HZ2.out rfl (by omega) Ai q ci _ rfl OXA.out ⟨wr.heap.size,0,none⟩ 1 1 (bcells [⟨f,t,mm,ib⟩]) rfl rfl (cells_add (cs:=bcells [⟨f,t,mm,ib⟩]) (show Blk _ _ _ (bcells [⟨f,t,mm,ib⟩]).toArray from NB.out)) (bcells_one _) (by omega) (by unfold maxLen;omega) (by omega) hsz_ ?_;intro g5 c5 w5 hown5 hb5 hg5 _;have HO5:=hid hown5;have HB5:=hid hb5;clear hown5 hb5))
        go_roundw
        case rel=>exact ⟨q+1,some ⟨g5,0,none⟩,c5,by omega,by go_num,rfl,by rw [HTK.out,List.map_append,bcells_append,List.map_cons,List.map_nil,HB2.out];exact .inl HO5.out,by rw [HTK.out];intro i hi;rcases List.mem_append.1 hi with hi|hi;exact HIN.out i hi;(simp only [List.mem_singleton] at hi;subst hi;omega),Blk.below BSA.out HB5.out (by omega),Below.trans BLA.out (Below.mono HB5.out (by omega))⟩
        case measure=>simp [intOf];omega
      · have hwn:=fun w=>within_no v 0 ((n:Int)-1) w hin
        have HWN:=hid hwn;clear hwn
        have hno:idsV P l x=([],1):=idsV_no HK.out HVM.out (by omega)
        have HNO:=hid hno;clear hno hin
        go_wp2_with (go_at_call 75;refine (HWN.out _).mono ?_;rintro e w' ⟨rfl,rfl⟩)
        go_ret2
        exact ⟨none,0,0,by simp [HNO.out],by rw [HNO.out];exact RdI.nil_ _,by unfold maxLen;omega,a0.out⟩
    · obtain rfl:xn=q:=by omega
      have hxl:=X0.out.len
      have hall:=HIN.out;rw [List.take_of_length_le (by omega)] at hall
      have hox:=a6.out;rw [List.take_of_length_le (by omega)] at hox
      have hok:idsV P l x=(idsL (x.map (bnd l)),0):=idsV_yes HK.out hall
      have HOK:=hid hok
      have hrd:=rdB_of hox
      have hwf:∀ b∈x.map (bnd l),Wf b.b:=ids_wf HK.out hall
      have hc:=idsOf_any Ai xn ci (x.map (bnd l)) hwf (by omega) wr hrd
      have HC:=hid hc;clear hc hall hox hok hrd hwf hxl
      go_wp2_with fail
      refine HC.out.mono ?_
      rintro e w9 ⟨A9,n9,c9,rfl,ho,hb⟩
      clear HC
      have hrd:=OwnI.rd ho;have hmx:=Nat.le_trans hrd.1.cap hrd.2
      have a7:=hid hb
      go_wp2
      go_ret2
      replace a0:=bH a0 a7
      exact ⟨A9,n9,c9,by simp [HOK.out],by rw [HOK.out];exact hrd.1,hmx,a0.out⟩
 · have hne:(q != 0)=true:=by simpa using h0
   have hV:idsV P l x=([],q):=by unfold idsV;rw [hq,if_pos h0]
   rw [hV]
   clear hV hq h0
   unfold RetLR
   go_enter Tryz.func48,Tryz.ntmps48
   obtain ⟨a2,a1⟩:=ent1 w #[.int .i64 P,.slice A n k] 84
   have a3:=rI h1 a1
   clear h1
   obtain ⟨a8,a9⟩:=at2 a2
   clear hx
   have hc:=checkSystem_any P A n k l _ a3.out hn
   rw [E1.out] at hc
   try dsimp only at hc
   have HC:=hid hc;clear hc
   go_wp2_with fail
   refine HC.out.mono ?_
   rintro e b2 ⟨rfl,hb⟩
   clear HC
   clear a8 a9
   have a4:=hid hb
   clear hb
   replace a2:=kH a2 a4
   obtain ⟨b0,b1⟩:=at2 a2
   go_wp2
   go_ret2
   replace a1:=bH a1 a4
   exact ⟨none,0,0,rfl,RdI.nil_ _,by unfold maxLen;omega,a1.out⟩
end Go.Proofs.YtebkniakflhhkaaGreatDoor
