import Derived.Test.YtokpblmgdmokoaaGreatAVChk
set_option linter.unusedSimpArgs false
set_option linter.unusedVariables false
namespace Go.Proofs.YtokpblmgdmokoaaGreat
open Go.Lib (hid)
open Go.RowKit
def fewP (p:Prt):Bool:=decide (p.sh.length≤60)&&decide (p.rs.length≤250)
def fewB (c:Cse):Bool:=(c.ps.take 50).all fewP&&decide (c.ware.size≤100)&&(decide (c.ps.length≤12) || (decide (38<c.ps.length)&&decide (c.ps.length≤42)))
theorem few_eq {ware:ByteArray} {lim by_:Int} {ps:List Prt}:fewB ⟨ware,lim,by_,ps⟩=((ps.take 50).all fewP&&decide ((ware.size:Int)≤100)&&(decide ((ps.length:Int)≤12) || (decide ((38:Int)<ps.length)&&decide ((ps.length:Int)≤42)))):=by
 unfold fewB
 rw [show decide ((ware.size:Int)≤100)=decide (ware.size≤100) from decide_eq_decide.2 (by omega),show decide ((ps.length:Int)≤12)=decide (ps.length≤12) from decide_eq_decide.2 (by omega),show decide ((38:Int)<ps.length)=decide (38<ps.length) from decide_eq_decide.2 (by omega),show decide ((ps.length:Int)≤42)=decide (ps.length≤42) from decide_eq_decide.2 (by omega)]
theorem few_bad {ware:ByteArray} {lim by_:Int} {ps:List Prt} {q:Nat} {p:Prt} (h:ps[q]?=some p) (hq:q<50) (hp:fewP p=false):fewB ⟨ware,lim,by_,ps⟩=false:=by
 unfold fewB
 have:(ps.take 50).all fewP=false:=by
  rw [List.all_eq_false]
  exact ⟨p,List.mem_of_getElem? (by rw [List.getElem?_take_of_lt hq];exact h),by simp [hp]⟩
 rw [show (Cse.mk ware lim by_ ps).ps=ps from rfl,this]
 rfl
set_option maxRecDepth 100000 in
set_option maxHeartbeats 4000000 in
theorem few_any (ware:ByteArray) (lim by_:Int) (A:Option Addr) (n k:Nat) (ps:List Prt) (w:World) (hr:RdP w A n k ps) (hn:n≤maxLen):Calls Tryz.prog 16 #[.agg #[.string ware,.int .i64 lim,.int .i64 by_,.slice A n k]] w fun e w'=>e=.returned (.bool (fewB ⟨ware,lim,by_,ps⟩))∧Below w.heap.size w w':=by
 have HRL:=hid hr.len
 have HR:=hid hr;clear hr
 unfold maxLen at hn
 go_enter Tryz.func16,Tryz.ntmps16
 obtain ⟨a1,a0⟩:=ent1 w #[.string ware,.int .i64 lim,.int .i64 by_,.slice A n k] 24
 obtain ⟨a3,a4,a5,a6⟩:=at4 a1
 go_wp2
 clear a3 a4 a5 a6
 obtain ⟨w2,hw2⟩:∃ v,v=(w.alloc (.cells #[.string ware,.int .i64 lim,.int .i64 by_,.slice A n k] 24)):=⟨_,rfl⟩
 rw [← hw2] at a0 a1 ⊢
 clear hw2
 obtain ⟨a7,a8,a9,a2⟩:=at4 a1
 go_loop [3] (fun i=>∃ q:Nat,q≤n∧q≤50∧i=.int .i64 q∧(ps.take q).all fewP=true) (fun i=>n-(intOf i).toNat)
 case atStart=>exact ⟨0,Nat.zero_le _,Nat.zero_le _,rfl,by simp⟩
 case round =>
  obtain ⟨q,hq,hq5,rfl,hall⟩:=hrel
  have HALL:=hid hall;clear hall
  by_cases hlt:q<n
  · have hlt':(q:Int)<n:=by omega
    by_cases h50:(q:Int)<50
    · obtain ⟨b,o,p,x,rfl,hbw,hx,hok,g0,-,-,-,-,-,-,g7⟩:=RdP.get HR.out hlt
      clear a7 a8 a9 a2
      obtain ⟨b0,b1,b2,b3⟩:=at4 a1
      have c0:=(Below.cell a0.out (p:=⟨b,_,none⟩) hbw).trans g0
      have c7:=(Below.cell a0.out (p:=⟨b,_,none⟩) hbw).trans g7
      clear g0 g7
      have hbw2:b<(w2).heap.size:=Nat.lt_of_lt_of_le hbw (Below.size a0.out)
      have LA:=hid hok.1.len;have LB:=hid hok.2.1.len;clear hok
      have HX:=hid hx;clear hx
      have HTK:=hid (show ps.take (q+1)=ps.take q++[p] by rw [List.take_add_one,HX.out];rfl)
      by_cases h60:(60:Int)<x.n
      · have HB:=hid (show fewP p=false by unfold fewP;rw [decide_eq_false (by rw [LA.out];omega)];rfl)
        go_wp2
        go_ret
        exact ⟨ret_bool ((few_bad HX.out (by omega) HB.out).symm),a0.out⟩
      · by_cases h250:(250:Int)<x.m
        · have HB:=hid (show fewP p=false by unfold fewP;rw [decide_eq_false (p:=p.rs.length≤250) (by rw [LB.out];omega),Bool.and_false])
          go_wp2
          go_ret
          exact ⟨ret_bool ((few_bad HX.out (by omega) HB.out).symm),a0.out⟩
        · have HB:=hid (show fewP p=true by unfold fewP;rw [decide_eq_true (by rw [LA.out];omega),decide_eq_true (by rw [LB.out];omega)];rfl)
          go_wp2
          go_round
          case rel=>exact ⟨q+1,by omega,by omega,by go_num,by rw [HTK.out,List.all_append,HALL.out];simp [HB.out]⟩
          case measure=>simp [intOf];omega
    · obtain rfl:q=50:=by omega
      have b4:¬ (n:Int)≤12:=by omega
      have b5:(38:Int)<n:=by omega
      have b6:¬ (n:Int)≤42:=by omega
      have HF:=hid (show (ps.take 50).all fewP=true by have:=HALL.out;exact this)
      by_cases hw:(ware.size:Int)≤100
      · go_wp2
        go_ret
        exact ⟨ret_bool (by rw [few_eq,HF.out,HRL.out,decide_eq_true hw,decide_eq_false (by omega),decide_eq_true (p:=(38:Int)<n) (by omega),decide_eq_false (by omega)];rfl),a0.out⟩
      · go_wp2
        go_ret
        exact ⟨ret_bool (by rw [few_eq,HF.out,HRL.out,decide_eq_false (p:=(ware.size:Int)≤100) (by omega)];rfl),a0.out⟩
  · obtain rfl:n=q:=by omega
    have hlt':¬ (n:Int)<n:=by omega
    have HF:=hid (show (ps.take 50).all fewP=true by have:=HALL.out;rw [List.take_of_length_le (by have:=HRL.out;omega)] at this ⊢;exact this)
    by_cases hw:(ware.size:Int)≤100
    · by_cases h12:(n:Int)≤12
      · go_wp2
        go_ret
        exact ⟨ret_bool (by rw [few_eq,HF.out,HRL.out,decide_eq_true hw,decide_eq_true h12];rfl),a0.out⟩
      · by_cases h38:(38:Int)<n
        · by_cases h42:(n:Int)≤42
          · go_wp2
            go_ret
            exact ⟨ret_bool (by rw [few_eq,HF.out,HRL.out,decide_eq_true hw,decide_eq_false (by omega),decide_eq_true h38,decide_eq_true h42];rfl),a0.out⟩
          · go_wp2
            go_ret
            exact ⟨ret_bool (by rw [few_eq,HF.out,HRL.out,decide_eq_true hw,decide_eq_false (by omega),decide_eq_true h38,decide_eq_false (by omega)];rfl),a0.out⟩
        · go_wp2
          go_ret
          exact ⟨ret_bool (by rw [few_eq,HF.out,HRL.out,decide_eq_true hw,decide_eq_false (by omega),decide_eq_false (by omega)];rfl),a0.out⟩
    · go_wp2
      go_ret
      exact ⟨ret_bool (by rw [few_eq,HF.out,HRL.out,decide_eq_false (p:=(ware.size:Int)≤100) (by omega)];rfl),a0.out⟩
theorem few_is (ware:ByteArray) (lim by_:Int) (A:Option Addr) (n k:Nat) (ps:List Prt) (w:World) (hr:RdP w A n k ps) (hn:n≤maxLen) (v:Bool) (hv:fewB ⟨ware,lim,by_,ps⟩=v):Calls Tryz.prog 16 #[.agg #[.string ware,.int .i64 lim,.int .i64 by_,.slice A n k]] w fun e w'=>e=.returned (.bool v)∧Below w.heap.size w w':=by
 subst hv
 exact few_any ware lim by_ A n k ps w hr hn
end Go.Proofs.YtokpblmgdmokoaaGreat
