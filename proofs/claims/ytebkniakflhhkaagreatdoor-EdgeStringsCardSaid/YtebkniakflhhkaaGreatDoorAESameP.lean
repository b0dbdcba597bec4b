import Derived.Shelf.SlSortCmp.NoneTotal
import Derived.Test.YtebkniakflhhkaaGreatDoorAECollect
import Derived.Test.YtebkniakflhhkaaGreatDoorAERange
import Derived.Test.YtebkniakflhhkaaGreatDoorAEStr
set_option linter.unusedSimpArgs false
set_option linter.unusedVariables false
namespace Go.Proofs.YtebkniakflhhkaaGreatDoor
open Go.Lib (hid)
open Go.RowKit
theorem pB_inj {p q:Prg} (h:pB p=pB q):p=q:=by
 obtain ⟨p1,p2,p3,p4⟩:=p
 obtain ⟨q1,q2,q3,q4⟩:=q
 simpa [pB] using h
set_option maxRecDepth 100000 in
set_option maxHeartbeats 4000000 in
theorem SamePairings_any (A B:Option Addr) (m d m' d':Nat) (x y:List Prg) (w:World) (hx:RdB w A m d (x.map pB)) (hy:RdB w B m' d' (y.map pB)) (hm:m≤maxLen) :
 Calls Tryz.prog 20 #[.slice A m d,.slice B m' d'] w fun e w'=>e=.returned (.bool (decide (x=y)))∧Below w.heap.size w w':=by
 unfold maxLen at hm
 have hl:=hx.len
 have hl':=hy.len
 rw [List.length_map] at hl hl'
 have heg:Tryz.prog.eqGuardType Tryz.prog.depth 25=false:=by kernel_rfl
 have HX:=hid hx;have HY:=hid hy;have HL:=hid hl;have HL':=hid hl';clear hx hy hl hl'
 by_cases hmm:m=m'
 · subst hmm
   go_enter Tryz.func20,Tryz.ntmps20
   go_wp2
   go_loopw [5] (fun i wr=>∃ k:Nat,k≤m∧i=.int .i64 k∧x.take k=y.take k∧Below w.heap.size w wr) (fun i _=>m-(intOf i).toNat)
   case atStart=>exact ⟨0,Nat.zero_le _,rfl,by simp,Below.refl _ _⟩
   case round =>
    obtain ⟨k,hk,rfl,heq,hb⟩:=hrel
    have HE:=hid heq;clear heq
    by_cases hlt:k<m
    · obtain ⟨b,o,u1,u2,u3,u4,rfl,hbw,hx,c0,c1,c2,c3⟩:=(HX.out.below hb).get hlt
      obtain ⟨b',o',v1,v2,v3,v4,rfl,hbw',hx',c0',c1',c2',c3'⟩:=(HY.out.below hb).get hlt
      have hxx:x[k]?=some ⟨u1,u2,u3,u4⟩:=by rw [List.getElem?_map] at hx;obtain ⟨p,h1,h2⟩:=Option.map_eq_some_iff.1 hx;rw [h1];exact congrArg some (pB_inj h2)
      have hyy:y[k]?=some ⟨v1,v2,v3,v4⟩:=by rw [List.getElem?_map] at hx';obtain ⟨p,h1,h2⟩:=Option.map_eq_some_iff.1 hx';rw [h1];exact congrArg some (pB_inj h2)
      have HXX:=hid hxx;have HYY:=hid hyy;clear hxx hyy hx hx'
      have heq:∀ w,(Op.equalIn 10000 25 (.agg #[.int .i64 u1,.int .i64 u2,.int .i64 u3,.int .i64 u4]) (.agg #[.int .i64 v1,.int .i64 v2,.int .i64 v3,.int .i64 v4])).run Tryz.prog w=.ok (decide ((⟨u1,u2,u3,u4⟩:Prg)=⟨v1,v2,v3,v4⟩)) w:=fun w=>eql_pr ⟨u1,u2,u3,u4⟩ ⟨v1,v2,v3,v4⟩ w
      by_cases hu:(⟨u1,u2,u3,u4⟩:Prg)=⟨v1,v2,v3,v4⟩
      · rw [decide_eq_true hu] at heq
        have HU:=hid hu;clear hu
        go_wp2_with fail
        go_quiet (fail)
        go_wp2
        go_roundw
        case rel=>exact ⟨k+1,by omega,by go_num,by rw [List.take_add_one,List.take_add_one,HE.out,HXX.out,HYY.out,HU.out],hb.trans ⟨rfl,rfl,rfl,Nat.le_refl _,fun _ _=>rfl⟩⟩
        case measure=>simp [intOf];omega
      · rw [decide_eq_false hu] at heq
        have HU:=hid hu;clear hu
        go_wp2_with fail
        go_quiet (fail)
        go_wp2
        go_ret
        exact ⟨ret_bool (by
         symm
         apply decide_eq_false
         intro h
         rw [h,HYY.out] at HXX
         exact HU.out (by injection HXX.out with h;exact h.symm)),hb.trans ⟨rfl,rfl,rfl,Nat.le_refl _,fun _ _=>rfl⟩⟩
    · obtain rfl:k=m:=by omega
      go_wp2
      go_ret
      exact ⟨ret_bool (by
       symm
       apply decide_eq_true
       have:=HE.out
       rwa [List.take_of_length_le (by rw [HL.out];exact Nat.le_refl _),List.take_of_length_le (by rw [HL'.out];exact Nat.le_refl _)] at this),hb⟩
 · have h1:((m:Int) != (m':Int))=true:=by simp;omega
   have H:=hid hmm;clear hmm
   go_enter Tryz.func20,Tryz.ntmps20
   go_wp2
   go_ret
   exact ⟨ret_bool (by
    symm
    apply decide_eq_false
    intro h
    exact H.out (by rw [← HL.out,← HL'.out,h])),Below.refl _ _⟩
end Go.Proofs.YtebkniakflhhkaaGreatDoor
