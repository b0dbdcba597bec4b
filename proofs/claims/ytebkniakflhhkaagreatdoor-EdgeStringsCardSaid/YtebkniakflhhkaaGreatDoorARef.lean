import Derived.Laws.AppendOwnNone
import Derived.Test.YtebkniakflhhkaaGreatDoorASet
set_option linter.unusedSimpArgs false
set_option linter.unusedVariables false
namespace Go.Proofs.YtebkniakflhhkaaGreatDoor
open Go.Lib (hid)
open Go.RowKit
set_option maxHeartbeats 1000000 in
theorem Same_any (A B:Option Addr) (m d m' d':Nat) (x y:List Int) (w:World) (hx:RdI w A m d x) (hy:RdI w B m' d' y) (hm:m≤maxLen) :
 Calls Tryz.prog 21 #[.slice A m d,.slice B m' d'] w fun e w'=>e=.returned (.bool (decide (x=y)))∧Below w.heap.size w w':=by
 unfold maxLen at hm
 have hl:=hx.len
 have hl':=hy.len
 have HX:=hid hx;have HY:=hid hy;have HL:=hid hl;have HL':=hid hl';clear hx hy hl hl'
 by_cases hmm:m=m'
 · subst hmm
   go_enter Tryz.func21,Tryz.ntmps21
   go_wp2
   go_loopw [5] (fun i wr=>∃ k:Nat,k≤m∧i=.int .i64 k∧x.take k=y.take k∧Below w.heap.size w wr) (fun i _=>m-(intOf i).toNat)
   case atStart=>exact ⟨0,Nat.zero_le _,rfl,by simp,Below.refl _ _⟩
   case round =>
    obtain ⟨k,hk,rfl,heq,hb⟩:=hrel
    have HE:=hid heq;clear heq
    by_cases hlt:k<m
    · obtain ⟨b,o,u,rfl,hbw,hx,c0⟩:=(HX.out.below hb).get hlt
      obtain ⟨b',o',u',rfl,hbw',hx',c0'⟩:=(HY.out.below hb).get hlt
      have HXX:=hid hx;have HYY:=hid hx';clear hx hx'
      by_cases hu:u=u'
      · have h1:(u != u')=false:=by simpa using hu
        have HU:=hid hu;clear hu
        go_wp2_with fail
        go_quiet (fail)
        go_wp2
        go_roundw
        case rel=>exact ⟨k+1,by omega,by go_num,by rw [List.take_add_one,List.take_add_one,HE.out,HXX.out,HYY.out,HU.out],hb.trans ⟨rfl,rfl,rfl,Nat.le_refl _,fun _ _=>rfl⟩⟩
        case measure=>simp [intOf];omega
      · have h1:(u != u')=true:=by simpa using hu
        have HU:=hid hu;clear hu
        go_wp2_with fail
        go_quiet (fail)
        go_wp2
        go_ret
        exact ⟨ret_bool (by
         symm
         apply decide_eq_false
         intro h
         rw [h,HYY.out] at HXX
         exact HU.out (by injection HXX.out with h;exact h.symm)),hb.trans ⟨rfl,rfl,rfl,Nat.le_refl _,fun _ _=>rfl⟩⟩
    · obtain rfl:k=m:=by omega
      go_wp2
      go_ret
      exact ⟨ret_bool (by
       symm
       apply decide_eq_true
       have:=HE.out
       rwa [List.take_of_length_le (by rw [HL.out];exact Nat.le_refl _),List.take_of_length_le (by rw [HL'.out];exact Nat.le_refl _)] at this),hb⟩
 · have h1:((m:Int) != (m':Int))=true:=by simp;omega
   have H:=hid hmm;clear hmm
   go_enter Tryz.func21,Tryz.ntmps21
   go_wp2
   go_ret
   exact ⟨ret_bool (by
    symm
    apply decide_eq_false
    intro h
    exact H.out (by rw [← HL.out,← HL'.out,h])),Below.refl _ _⟩
end Go.Proofs.YtebkniakflhhkaaGreatDoor
/- The reference's CheckSystem. -/
namespace Go.Proofs.YtebkniakflhhkaaGreatDoor
open Go.Lib (hid)
open Go.RowKit
end Go.Proofs.YtebkniakflhhkaaGreatDoor
/- The reference's asked. -/
namespace Go.Proofs.YtebkniakflhhkaaGreatDoor
open Go.Lib (hid)
open Go.RowKit
end Go.Proofs.YtebkniakflhhkaaGreatDoor
/- The reference's copied. -/
namespace Go.Proofs.YtebkniakflhhkaaGreatDoor
open Go.Lib (hid)
open Go.RowKit
end Go.Proofs.YtebkniakflhhkaaGreatDoor
/- The reference's SameSystem. -/
namespace Go.Proofs.YtebkniakflhhkaaGreatDoor
open Go.Lib (hid)
open Go.RowKit
end Go.Proofs.YtebkniakflhhkaaGreatDoor
/- wide, small, three: what the laws of layer 1 begin with. -/
namespace Go.Proofs.YtebkniakflhhkaaGreatDoor
open Go.Lib (hid)
open Go.RowKit
end Go.Proofs.YtebkniakflhhkaaGreatDoor
