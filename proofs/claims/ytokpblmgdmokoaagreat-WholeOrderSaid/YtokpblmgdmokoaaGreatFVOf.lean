import Derived.Test.YtokpblmgdmokoaaGreatAVOf
set_option maxHeartbeats 4000000
set_option linter.unusedSimpArgs false
set_option linter.unusedVariables false
namespace Go.Proofs.YtokpblmgdmokoaaGreat
open Go.Lib (hid)
open Go.RowKit Go.Maps
section
variable {w w':World} {g:Nat} {ware:ByteArray} {lim by_:Int} {A:Option Addr} {n k:Nat} {ps:List Prt}
end
set_option maxRecDepth 100000 in
theorem vof_bad (ware:ByteArray) (lim by_:Int) (A:Option Addr) (n k:Nat) (ps:List Prt) (B:Option Addr) (m d:Nat) (l:List Int) (w:World) (hr:RdP w A n k ps) (hl:RdI w B m d l) (hn:n≤maxLen) (hm:m≤maxLen) (q:Int) (hq:chkC ⟨ware,lim,by_,ps⟩=q) (hne:q≠0):Calls Tryz.prog 67 #[.agg #[.string ware,.int .i64 lim,.int .i64 by_,.slice A n k],.slice B m d] w fun e w'=>e=.returned (.tuple #[.pointer none,.int .i64 q])∧Below w.heap.size w w':=by
 have HC0:=hid hq;clear hq
 go_enter Tryz.func67,Tryz.ntmps67
 obtain ⟨a1,a0⟩:=ent1 w #[.string ware,.int .i64 lim,.int .i64 by_,.slice A n k] 24
 have a3:=hid (RdP.below (hr) a0.out)
 have a8:=iI hl a0
 clear hr hl
 obtain ⟨a4,a5,a6,a7⟩:=at4 a1
 have hc:=vchk_is ware lim by_ A n k ps ((w.alloc (.cells #[.string ware,.int .i64 lim,.int .i64 by_,.slice A n k] 24))) a3.out hn _ HC0.out
 have HC:=hid hc;clear hc
 go_wp2_with fail
 refine HC.out.mono ?_
 rintro e b3 ⟨rfl,hb⟩
 clear HC
 clear a4 a5 a6 a7
 have a2:=hid hb
 clear hb
 replace a1:=kH a1 a2
 obtain ⟨a9,b0,b1,b2⟩:=at4 a1
 go_wp2
 go_ret2
 replace a0:=bH a0 a2
 exact ⟨rfl,a0.out⟩
set_option maxRecDepth 100000 in
theorem vof_no (ware:ByteArray) (lim by_:Int) (A:Option Addr) (n k:Nat) (ps:List Prt) (B:Option Addr) (m d:Nat) (l:List Int) (w:World) (hr:RdP w A n k ps) (hl:RdI w B m d l) (hn:n≤maxLen) (hm:m≤maxLen) (hq:chkC ⟨ware,lim,by_,ps⟩=0) (hbad:¬ ∀ x∈l,inR x 0 ((n:Int)-1)=true):Calls Tryz.prog 67 #[.agg #[.string ware,.int .i64 lim,.int .i64 by_,.slice A n k],.slice B m d] w fun e w'=>e=.returned (.tuple #[.pointer none,.int .i64 1])∧Below w.heap.size w w':=by
 have h40:n≤40:=by have:=(chkC_ok hq).1;rw [hr.len] at this;exact this
 have HC0:=hid hq;have HBAD:=hid hbad;clear hq hbad
 have hmn:=hm;unfold maxLen at hmn
 go_enter Tryz.func67,Tryz.ntmps67
 obtain ⟨a1,a0⟩:=ent1 w #[.string ware,.int .i64 lim,.int .i64 by_,.slice A n k] 24
 have a3:=hid (RdP.below (hr) a0.out)
 have a6:=iI hl a0
 clear hr hl
 obtain ⟨b3,b4,b5,b6⟩:=at4 a1
 have hc:=vchk_is ware lim by_ A n k ps ((w.alloc (.cells #[.string ware,.int .i64 lim,.int .i64 by_,.slice A n k] 24))) a3.out hn _ HC0.out
 have HC:=hid hc;clear hc
 go_wp2_with fail
 refine HC.out.mono ?_
 rintro e c2 ⟨rfl,hb⟩
 clear HC
 clear b3 b4 b5 b6
 have a2:=hid hb
 clear hb
 replace a1:=kH a1 a2
 obtain ⟨a9,b0,b1,b2⟩:=at4 a1
 go_wp2
 clear a9 b0 b1 b2
 replace a0:=bH a0 a2
 replace a3:=hid (RdP.below (a3.out) a2.out)
 replace a6:=iH a6 a2
 go_loopw [16] (fun i wr=>∃ q:Nat,q≤m∧i=.int .i64 q∧(∀ x∈l.take q,inR x 0 ((n:Int)-1)=true)∧Blk wr w.heap.size 24 #[.string ware,.int .i64 lim,.int .i64 by_,.slice A n k]∧RdI wr B m d l∧RdP wr A n k ps∧Below w.heap.size w wr) (fun i _=>m-(intOf i).toNat)
 case atStart=>exact ⟨0,Nat.zero_le _,rfl,by simp,a1.out,a6.out,a3.out,a0.out⟩
 case round =>
  clear a0 a3 a6 a1
  obtain ⟨q,hq,rfl,hall,hbc,hrb,hrp,hbe⟩:=hrel
  have HALL:=hid hall;clear hall
  have a5:=hid (hbe)
  have a7:=hid (hbc)
  have a4:=hid (hrb)
  have a8:=hid (hrp)
  clear hbe hbc hrb hrp
  by_cases hlt:q<m
  · have hlt':(q:Int)<m:=by omega
    obtain ⟨b9,o9,v,rfl,hb9,hv,e0⟩:=RdI.get a4.out hlt
    have HV:=hid hv;clear hv
    obtain ⟨b7,b8,c0,c1⟩:=at4 a7
    cases hin:inR v 0 ((n:Int)-1)
    · have HIN:=hid hin;clear hin
      have HC:=hid (vwithin_is v 0 ((n:Int)-1) _ HIN.out wr)
      go_wp2_with fail
      refine HC.out.mono ?_
      rintro e _ ⟨rfl,rfl⟩
      clear HC
      go_wp2
      go_ret2
      exact ⟨rfl,a5.out⟩
    · have HIN:=hid hin;clear hin
      have HC:=hid (vwithin_is v 0 ((n:Int)-1) _ HIN.out wr)
      go_wp2_with fail
      refine HC.out.mono ?_
      rintro e _ ⟨rfl,rfl⟩
      clear HC
      go_wp2
      go_roundw
      case rel=>exact ⟨q+1,by omega,by go_num,by rw [List.take_add_one,HV.out];intro z hz;rcases List.mem_append.1 hz with hz|hz;exact HALL.out z hz;obtain rfl:=List.mem_singleton.1 hz;exact HIN.out,a7.out,a4.out,a8.out,a5.out⟩
      case measure=>simp [intOf];omega
  · obtain rfl:q=m:=by omega
    have hln:=a4.out.len
    have HA2:=hid (show ∀ x∈l,inR x 0 ((n:Int)-1)=true by have:=HALL.out;rwa [List.take_of_length_le (by omega)] at this)
    clear hln HALL
    exact absurd HA2.out HBAD.out
theorem askP_no {c:Cse} {l:List Int} {q:Int} (h:askP c l=q) (hne:q≠0):(chkC c=q∧chkC c≠0)∨(chkC c=0∧q=1∧¬ ∀ x∈l,inR x 0 ((c.ps.length:Int)-1)=true):=by
 unfold askP at h
 split at h
 · rename_i h1;exact Or.inl ⟨h,h1⟩
 · rename_i h1
   split at h
   · exact absurd h.symm hne
   · rename_i h2
     exact Or.inr ⟨by simpa using h1,h.symm,fun h3=>h2 (List.all_eq_true.2 h3)⟩
theorem viewOf_no (ware:ByteArray) (lim by_:Int) (A:Option Addr) (n k:Nat) (ps:List Prt) (B:Option Addr) (m d:Nat) (l:List Int) (w:World) (hr:RdP w A n k ps) (hl:RdI w B m d l) (hn:n≤maxLen) (hm:m≤maxLen) (q:Int) (hq:askP ⟨ware,lim,by_,ps⟩ l=q) (hne:q≠0):Calls Tryz.prog 67 #[.agg #[.string ware,.int .i64 lim,.int .i64 by_,.slice A n k],.slice B m d] w fun e w'=>e=.returned (.tuple #[.pointer none,.int .i64 q])∧Below w.heap.size w w':=by
 rcases askP_no hq hne with ⟨h1,h2⟩|⟨h1,rfl,h3⟩
 · exact vof_bad ware lim by_ A n k ps B m d l w hr hl hn hm q h1 hne
 · exact vof_no ware lim by_ A n k ps B m d l w hr hl hn hm h1 (by have:=hr.len;simp only [this] at h3;exact h3)
end Go.Proofs.YtokpblmgdmokoaaGreat
