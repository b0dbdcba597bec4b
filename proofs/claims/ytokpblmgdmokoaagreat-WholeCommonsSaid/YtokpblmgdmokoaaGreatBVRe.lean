import Derived.Test.YtokpblmgdmokoaaGreatAVOf
import Derived.Test.YtokpblmgdmokoaaGreatAVAny
import Derived.Test.YtokpblmgdmokoaaGreatAVCom
import Derived.Test.YtokpblmgdmokoaaGreatBVRd
set_option maxHeartbeats 4000000
set_option linter.unusedSimpArgs false
set_option linter.unusedVariables false
namespace Go.Proofs.YtokpblmgdmokoaaGreat
open Go.Lib (hid)
open Go.RowKit Go.Maps
section
variable {w w':World} {g:Nat} {ware:ByteArray} {lim by_:Int} {A:Option Addr} {n k:Nat} {ps:List Prt}
end
set_option maxRecDepth 100000 in
theorem vof_bad (ware:ByteArray) (lim by_:Int) (A:Option Addr) (n k:Nat) (ps:List Prt) (B:Option Addr) (m d:Nat) (l:List Int) (w:World) (hr:RdP w A n k ps) (hl:RdI w B m d l) (hn:n≤maxLen) (hm:m≤maxLen) (q:Int) (hq:chkC ⟨ware,lim,by_,ps⟩=q) (hne:q≠0):Calls Tryz.prog 67 #[.agg #[.string ware,.int .i64 lim,.int .i64 by_,.slice A n k],.slice B m d] w fun e w'=>e=.returned (.tuple #[.pointer none,.int .i64 q])∧Below w.heap.size w w':=by
 have HC0:=hid hq;clear hq
 go_enter Tryz.func67,Tryz.ntmps67
 obtain ⟨a1,a0⟩:=ent1 w #[.string ware,.int .i64 lim,.int .i64 by_,.slice A n k] 24
 have a3:=hid (RdP.below (hr) a0.out)
 have a8:=iI hl a0
 clear hr hl
 obtain ⟨a4,a5,a6,a7⟩:=at4 a1
 have hc:=vchk_is ware lim by_ A n k ps ((w.alloc (.cells #[.string ware,.int .i64 lim,.int .i64 by_,.slice A n k] 24))) a3.out hn _ HC0.out
 have HC:=hid hc;clear hc
 go_wp2_with fail
 refine HC.out.mono ?_
 rintro e b3 ⟨rfl,hb⟩
 clear HC
 clear a4 a5 a6 a7
 have a2:=hid hb
 clear hb
 replace a1:=kH a1 a2
 obtain ⟨a9,b0,b1,b2⟩:=at4 a1
 go_wp2
 go_ret2
 replace a0:=bH a0 a2
 exact ⟨rfl,a0.out⟩
set_option maxRecDepth 100000 in
theorem vof_no (ware:ByteArray) (lim by_:Int) (A:Option Addr) (n k:Nat) (ps:List Prt) (B:Option Addr) (m d:Nat) (l:List Int) (w:World) (hr:RdP w A n k ps) (hl:RdI w B m d l) (hn:n≤maxLen) (hm:m≤maxLen) (hq:chkC ⟨ware,lim,by_,ps⟩=0) (hbad:¬ ∀ x∈l,inR x 0 ((n:Int)-1)=true):Calls Tryz.prog 67 #[.agg #[.string ware,.int .i64 lim,.int .i64 by_,.slice A n k],.slice B m d] w fun e w'=>e=.returned (.tuple #[.pointer none,.int .i64 1])∧Below w.heap.size w w':=by
 have h40:n≤40:=by have:=(chkC_ok hq).1;rw [hr.len] at this;exact this
 have HC0:=hid hq;have HBAD:=hid hbad;clear hq hbad
 have hmn:=hm;unfold maxLen at hmn
 go_enter Tryz.func67,Tryz.ntmps67
 obtain ⟨a1,a0⟩:=ent1 w #[.string ware,.int .i64 lim,.int .i64 by_,.slice A n k] 24
 have a3:=hid (RdP.below (hr) a0.out)
 have a6:=iI hl a0
 clear hr hl
 obtain ⟨b3,b4,b5,b6⟩:=at4 a1
 have hc:=vchk_is ware lim by_ A n k ps ((w.alloc (.cells #[.string ware,.int .i64 lim,.int .i64 by_,.slice A n k] 24))) a3.out hn _ HC0.out
 have HC:=hid hc;clear hc
 go_wp2_with fail
 refine HC.out.mono ?_
 rintro e c2 ⟨rfl,hb⟩
 clear HC
 clear b3 b4 b5 b6
 have a2:=hid hb
 clear hb
 replace a1:=kH a1 a2
 obtain ⟨a9,b0,b1,b2⟩:=at4 a1
 go_wp2
 clear a9 b0 b1 b2
 replace a0:=bH a0 a2
 replace a3:=hid (RdP.below (a3.out) a2.out)
 replace a6:=iH a6 a2
 go_loopw [16] (fun i wr=>∃ q:Nat,q≤m∧i=.int .i64 q∧(∀ x∈l.take q,inR x 0 ((n:Int)-1)=true)∧Blk wr w.heap.size 24 #[.string ware,.int .i64 lim,.int .i64 by_,.slice A n k]∧RdI wr B m d l∧RdP wr A n k ps∧Below w.heap.size w wr) (fun i _=>m-(intOf i).toNat)
 case atStart=>exact ⟨0,Nat.zero_le _,rfl,by simp,a1.out,a6.out,a3.out,a0.out⟩
 case round =>
  clear a0 a3 a6 a1
  obtain ⟨q,hq,rfl,hall,hbc,hrb,hrp,hbe⟩:=hrel
  have HALL:=hid hall;clear hall
  have a5:=hid (hbe)
  have a7:=hid (hbc)
  have a4:=hid (hrb)
  have a8:=hid (hrp)
  clear hbe hbc hrb hrp
  by_cases hlt:q<m
  · have hlt':(q:Int)<m:=by omega
    obtain ⟨b9,o9,v,rfl,hb9,hv,e0⟩:=RdI.get a4.out hlt
    have HV:=hid hv;clear hv
    obtain ⟨b7,b8,c0,c1⟩:=at4 a7
    cases hin:inR v 0 ((n:Int)-1)
    · have HIN:=hid hin;clear hin
      have HC:=hid (vwithin_is v 0 ((n:Int)-1) _ HIN.out wr)
      go_wp2_with fail
      refine HC.out.mono ?_
      rintro e _ ⟨rfl,rfl⟩
      clear HC
      go_wp2
      go_ret2
      exact ⟨rfl,a5.out⟩
    · have HIN:=hid hin;clear hin
      have HC:=hid (vwithin_is v 0 ((n:Int)-1) _ HIN.out wr)
      go_wp2_with fail
      refine HC.out.mono ?_
      rintro e _ ⟨rfl,rfl⟩
      clear HC
      go_wp2
      go_roundw
      case rel=>exact ⟨q+1,by omega,by go_num,by rw [List.take_add_one,HV.out];intro z hz;rcases List.mem_append.1 hz with hz|hz;exact HALL.out z hz;obtain rfl:=List.mem_singleton.1 hz;exact HIN.out,a7.out,a4.out,a8.out,a5.out⟩
      case measure=>simp [intOf];omega
  · obtain rfl:q=m:=by omega
    have hln:=a4.out.len
    have HA2:=hid (show ∀ x∈l,inR x 0 ((n:Int)-1)=true by have:=HALL.out;rwa [List.take_of_length_le (by omega)] at this)
    clear hln HALL
    exact absurd HA2.out HBAD.out
theorem askP_no {c:Cse} {l:List Int} {q:Int} (h:askP c l=q) (hne:q≠0):(chkC c=q∧chkC c≠0)∨(chkC c=0∧q=1∧¬ ∀ x∈l,inR x 0 ((c.ps.length:Int)-1)=true):=by
 unfold askP at h
 split at h
 · rename_i h1;exact Or.inl ⟨h,h1⟩
 · rename_i h1
   split at h
   · exact absurd h.symm hne
   · rename_i h2
     exact Or.inr ⟨by simpa using h1,h.symm,fun h3=>h2 (List.all_eq_true.2 h3)⟩
theorem viewOf_no (ware:ByteArray) (lim by_:Int) (A:Option Addr) (n k:Nat) (ps:List Prt) (B:Option Addr) (m d:Nat) (l:List Int) (w:World) (hr:RdP w A n k ps) (hl:RdI w B m d l) (hn:n≤maxLen) (hm:m≤maxLen) (q:Int) (hq:askP ⟨ware,lim,by_,ps⟩ l=q) (hne:q≠0):Calls Tryz.prog 67 #[.agg #[.string ware,.int .i64 lim,.int .i64 by_,.slice A n k],.slice B m d] w fun e w'=>e=.returned (.tuple #[.pointer none,.int .i64 q])∧Below w.heap.size w w':=by
 rcases askP_no hq hne with ⟨h1,h2⟩|⟨h1,rfl,h3⟩
 · exact vof_bad ware lim by_ A n k ps B m d l w hr hl hn hm q h1 hne
 · exact vof_no ware lim by_ A n k ps B m d l w hr hl hn hm h1 (by have:=hr.len;simp only [this] at h3;exact h3)
theorem askP_all {c:Cse} {l:List Int} {n:Nat} (h:askP c l=0) (hn:c.ps.length=n):∀ x∈l,∃ a:Nat,x=a∧a<n:=by
 subst hn
 exact fun x hx=>askP_in h hx
set_option maxRecDepth 100000 in
theorem Common_no (ware:ByteArray) (lim by_:Int) (A:Option Addr) (n k:Nat) (ps:List Prt) (B:Option Addr) (m d:Nat) (l:List Int) (w:World) (hr:RdP w A n k ps) (hl:RdI w B m d l) (hn:n≤maxLen) (hm:m≤maxLen) (q:Int) (hq:askP ⟨ware,lim,by_,ps⟩ l=q) (hne:q≠0):Calls Tryz.prog 30 #[.agg #[.string ware,.int .i64 lim,.int .i64 by_,.slice A n k],.slice B m d] w fun e w'=>e=.returned (.tuple #[.agg #[.int .i64 0,.int .i64 0],.bool false,.int .i64 q])∧Below w.heap.size w w':=by
 have HQ:=hid hq;clear hq
 go_enter Tryz.func30,Tryz.ntmps30
 obtain ⟨a2,a1,a0⟩:=ent2 w #[.string ware,.int .i64 lim,.int .i64 by_,.slice A n k] 24 #[.int .i64 0,.int .i64 0] 41
 have a8:=hid (RdP.below (hr) a0.out)
 have a9:=iI hl a0
 clear hr hl
 obtain ⟨b8,b9,c0,c1⟩:=at4 a2
 obtain ⟨b0,b1⟩:=at2 a1
 have hc:=viewOf_no ware lim by_ A n k ps B m d l (((w.alloc (.cells #[.string ware,.int .i64 lim,.int .i64 by_,.slice A n k] 24)).alloc (.cells #[.int .i64 0,.int .i64 0] 41))) a8.out a9.out hn hm q HQ.out hne
 have HC:=hid hc;clear hc
 go_wp2_with fail
 refine HC.out.mono ?_
 rintro e a5 ⟨rfl,hb⟩
 clear HC
 clear b8 b9 c0 c1 b0 b1
 have a3:=hid hb
 clear hb
 replace a2:=kH a2 a3
 obtain ⟨b2,b3,b4,b5⟩:=at4 a2
 replace a1:=kH a1 a3
 obtain ⟨b6,b7⟩:=at2 a1
 have a6:(a5).frozen? ⟨w.heap.size+1,0,none⟩=false:=Blk.frozen a1.out 0
 have a7:(a5).frozen? ⟨w.heap.size+1,1,none⟩=false:=Blk.frozen a1.out 1
 replace a0:=bH a0 a3
 have a4:=a0.out
 go_wp2
 refine bodyPost_ret (v:=.tuple #[.agg #[.int .i64 0,.int .i64 0],.bool false,.int .i64 q]) (by simp [results,Tryz.results30,go_sem,b2,b3,b4,b5,b6,b7,a6,a7]) rfl ⟨rfl,(by have hsz_:=Below.size a4;repeat' (first|with_reducible exact a4|with_reducible exact Below.refl _ _|with_reducible refine Below.alloc ?_ ?_ _|with_reducible refine Below.setCell ?_ ?_ _|with_reducible refine Below.drew ?_|with_reducible refine below_setRow ?_ ?_ _|omega | (simp;done) | (simp;omega)))⟩
set_option maxRecDepth 100000 in
theorem Common_none (ware:ByteArray) (lim by_:Int) (A:Option Addr) (n k:Nat) (ps:List Prt) (B:Option Addr) (m d:Nat) (l:List Int) (w:World) (hr:RdP w A n k ps) (hl:RdI w B m d l) (hn:n≤maxLen) (hm:m≤maxLen) (hq:askP ⟨ware,lim,by_,ps⟩ l=0) (R:Rng) (hR:comR ps l=R) (hgt:R.hi<R.lo):Calls Tryz.prog 30 #[.agg #[.string ware,.int .i64 lim,.int .i64 by_,.slice A n k],.slice B m d] w fun e w'=>e=.returned (.tuple #[.agg #[.int .i64 0,.int .i64 0],.bool false,.int .i64 0])∧Below w.heap.size w w':=by
 have HIN:=hid (askP_all hq (show (Cse.mk ware lim by_ ps).ps.length=n from hr.len))
 have HQ:=hid hq;have HRR:=hid hR;clear hq hR
 go_enter Tryz.func30,Tryz.ntmps30
 obtain ⟨a2,a0,a3⟩:=ent2 w #[.string ware,.int .i64 lim,.int .i64 by_,.slice A n k] 24 #[.int .i64 0,.int .i64 0] 41
 have a6:=hid (RdP.below (hr) a3.out)
 have a5:=iI hl a3
 clear hr hl
 obtain ⟨c9,d0,d1,d2⟩:=at4 a2
 obtain ⟨b2,b3⟩:=at2 a0
 have hc:=viewOf_yes ware lim by_ A n k ps B m d l (((w.alloc (.cells #[.string ware,.int .i64 lim,.int .i64 by_,.slice A n k] 24)).alloc (.cells #[.int .i64 0,.int .i64 0] 41))) a6.out a5.out hn hm HQ.out
 have HC:=hid hc;clear hc
 go_wp2_with fail
 refine HC.out.mono ?_
 rintro e b4 ⟨⟨g,rfl,hvw⟩,hb⟩
 have HVW:=hid hvw;clear hvw
 clear HC
 clear c9 d0 d1 d2 b2 b3
 have a4:=hid hb
 clear hb
 replace a2:=kH a2 a4
 obtain ⟨b5,b6,b7,b8⟩:=at4 a2
 replace a0:=kH a0 a4
 obtain ⟨b9,c0⟩:=at2 a0
 replace a5:=iH a5 a4
 have hc:=common_is ware lim by_ A n k ps g B m d l (b4) HVW.out a5.out hm HIN.out R HRR.out
 have HC:=hid hc;clear hc
 go_wp2_with fail
 refine HC.out.mono ?_
 rintro e a7 ⟨rfl,hb⟩
 clear HC
 clear b5 b6 b7 b8 b9 c0
 have a1:=hid hb
 clear hb
 obtain ⟨o_,ho_⟩:∃ o,o=((.cells #[.int .i64 R.lo,.int .i64 R.hi] 41):Obj):=⟨_,rfl⟩
 replace a3:=bA (bH (bH a3 a4) a1) o_
 replace a6:=hid (RdP.alloc ((hid (RdP.below (RdP.below (a6.out) a4.out) a1.out)).out) (o_))
 replace a5:=iA (iH a5 a1) o_
 replace a2:=kA (kH a2 a1) o_
 replace a0:=kA (kH a0 a1) o_
 replace HVW:=hid (Vw.alloc ((hid (Vw.keep (HVW.out) a1.out)).out) (o_))
 subst ho_
 have a9:=hid (Blk.new a7 41 #[.int .i64 R.lo,.int .i64 R.hi])
 obtain ⟨c1,c2,c3,c4⟩:=at4 a2
 obtain ⟨c5,c6⟩:=at2 a0
 obtain ⟨c7,c8⟩:=at2 a9
 have b0:((a7.alloc (.cells #[.int .i64 R.lo,.int .i64 R.hi] 41))).frozen? ⟨w.heap.size+1,0,none⟩=false:=Blk.frozen a0.out 0
 have b1:((a7.alloc (.cells #[.int .i64 R.lo,.int .i64 R.hi] 41))).frozen? ⟨w.heap.size+1,1,none⟩=false:=Blk.frozen a0.out 1
 have a8:=a3.out
 go_wp2
 refine bodyPost_ret (v:=.tuple #[.agg #[.int .i64 0,.int .i64 0],.bool false,.int .i64 0]) (by simp [results,Tryz.results30,go_sem,c1,c2,c3,c4,c5,c6,c7,c8,b0,b1]) rfl ⟨rfl,(by have hsz_:=Below.size a8;repeat' (first|with_reducible exact a8|with_reducible exact Below.refl _ _|with_reducible refine Below.alloc ?_ ?_ _|with_reducible refine Below.setCell ?_ ?_ _|with_reducible refine Below.drew ?_|with_reducible refine below_setRow ?_ ?_ _|omega | (simp;done) | (simp;omega)))⟩
set_option maxRecDepth 100000 in
theorem Common_some (ware:ByteArray) (lim by_:Int) (A:Option Addr) (n k:Nat) (ps:List Prt) (B:Option Addr) (m d:Nat) (l:List Int) (w:World) (hr:RdP w A n k ps) (hl:RdI w B m d l) (hn:n≤maxLen) (hm:m≤maxLen) (hq:askP ⟨ware,lim,by_,ps⟩ l=0) (R:Rng) (hR:comR ps l=R) (hgt:¬ R.hi<R.lo):Calls Tryz.prog 30 #[.agg #[.string ware,.int .i64 lim,.int .i64 by_,.slice A n k],.slice B m d] w fun e w'=>e=.returned (.tuple #[.agg #[.int .i64 R.lo,.int .i64 R.hi],.bool true,.int .i64 0])∧Below w.heap.size w w':=by
 have HIN:=hid (askP_all hq (show (Cse.mk ware lim by_ ps).ps.length=n from hr.len))
 have HQ:=hid hq;have HRR:=hid hR;clear hq hR
 go_enter Tryz.func30,Tryz.ntmps30
 obtain ⟨a2,a0,a3⟩:=ent2 w #[.string ware,.int .i64 lim,.int .i64 by_,.slice A n k] 24 #[.int .i64 0,.int .i64 0] 41
 have a6:=hid (RdP.below (hr) a3.out)
 have a5:=iI hl a3
 clear hr hl
 obtain ⟨c9,d0,d1,d2⟩:=at4 a2
 obtain ⟨b2,b3⟩:=at2 a0
 have hc:=viewOf_yes ware lim by_ A n k ps B m d l (((w.alloc (.cells #[.string ware,.int .i64 lim,.int .i64 by_,.slice A n k] 24)).alloc (.cells #[.int .i64 0,.int .i64 0] 41))) a6.out a5.out hn hm HQ.out
 have HC:=hid hc;clear hc
 go_wp2_with fail
 refine HC.out.mono ?_
 rintro e b4 ⟨⟨g,rfl,hvw⟩,hb⟩
 have HVW:=hid hvw;clear hvw
 clear HC
 clear c9 d0 d1 d2 b2 b3
 have a4:=hid hb
 clear hb
 replace a2:=kH a2 a4
 obtain ⟨b5,b6,b7,b8⟩:=at4 a2
 replace a0:=kH a0 a4
 obtain ⟨b9,c0⟩:=at2 a0
 replace a5:=iH a5 a4
 have hc:=common_is ware lim by_ A n k ps g B m d l (b4) HVW.out a5.out hm HIN.out R HRR.out
 have HC:=hid hc;clear hc
 go_wp2_with fail
 refine HC.out.mono ?_
 rintro e a7 ⟨rfl,hb⟩
 clear HC
 clear b5 b6 b7 b8 b9 c0
 have a1:=hid hb
 clear hb
 obtain ⟨o_,ho_⟩:∃ o,o=((.cells #[.int .i64 R.lo,.int .i64 R.hi] 41):Obj):=⟨_,rfl⟩
 replace a3:=bA (bH (bH a3 a4) a1) o_
 replace a6:=hid (RdP.alloc ((hid (RdP.below (RdP.below (a6.out) a4.out) a1.out)).out) (o_))
 replace a5:=iA (iH a5 a1) o_
 replace a2:=kA (kH a2 a1) o_
 replace a0:=kA (kH a0 a1) o_
 replace HVW:=hid (Vw.alloc ((hid (Vw.keep (HVW.out) a1.out)).out) (o_))
 subst ho_
 have a9:=hid (Blk.new a7 41 #[.int .i64 R.lo,.int .i64 R.hi])
 obtain ⟨c1,c2,c3,c4⟩:=at4 a2
 obtain ⟨c5,c6⟩:=at2 a0
 obtain ⟨c7,c8⟩:=at2 a9
 have b0:((a7.alloc (.cells #[.int .i64 R.lo,.int .i64 R.hi] 41))).frozen? ⟨w.heap.size+1,0,none⟩=false:=Blk.frozen a0.out 0
 have b1:((a7.alloc (.cells #[.int .i64 R.lo,.int .i64 R.hi] 41))).frozen? ⟨w.heap.size+1,1,none⟩=false:=Blk.frozen a0.out 1
 have a8:=a3.out
 go_wp2
 refine bodyPost_ret (v:=.tuple #[.agg #[.int .i64 R.lo,.int .i64 R.hi],.bool true,.int .i64 0]) (by simp [results,Tryz.results30,go_sem,c1,c2,c3,c4,c5,c6,c7,c8,b0,b1]) rfl ⟨rfl,(by have hsz_:=Below.size a8;repeat' (first|with_reducible exact a8|with_reducible exact Below.refl _ _|with_reducible refine Below.alloc ?_ ?_ _|with_reducible refine Below.setCell ?_ ?_ _|with_reducible refine Below.drew ?_|with_reducible refine below_setRow ?_ ?_ _|omega | (simp;done) | (simp;omega)))⟩
end Go.Proofs.YtokpblmgdmokoaaGreat
namespace Go.Proofs.YtokpblmgdmokoaaGreat
open Go.Lib (hid)
open Go.RowKit
def NoCl (ps:List Prt) (l:List Int):Prop:=∀ (i j:Nat) (x y:Int),j<i→l[i]?=some x→l[j]?=some y→clB ps x y=false
theorem noCl_zero {ps:List Prt} {l:List Int}:NoCl ps (l.take 0):=by intro i j x y _ h;simp at h
theorem noCl_snoc {ps:List Prt} {l:List Int} {v:Int} (h:NoCl ps l) (hv:∀ z∈l,clB ps v z=false):NoCl ps (l++[v]):=by
 intro i j x y hji hx hy
 obtain ⟨hi,rfl⟩:=List.getElem?_eq_some_iff.1 hx
 obtain ⟨hj,rfl⟩:=List.getElem?_eq_some_iff.1 hy
 simp only [List.length_append,List.length_singleton] at hi hj
 have hjl:j<l.length:=by omega
 rw [List.getElem_append_left hjl]
 by_cases hil:i<l.length
 · rw [List.getElem_append_left hil]
   exact h i j _ _ hji (List.getElem?_eq_getElem hil) (List.getElem?_eq_getElem hjl)
 · obtain rfl:i=l.length:=by omega
   rw [List.getElem_concat_length rfl]
   exact hv _ (List.getElem_mem _)
theorem noCl_no {ps:List Prt} {l:List Int} {v:Bool} {i j:Nat} {x y:Int} (hv:v=true ↔ NoCl ps l) (hx:l[i]?=some x) (hy:l[j]?=some y) (hji:j<i) (hc:clB ps x y=true):v=false:=by
 cases v with
 | false=>rfl
 | true=>rw [hv.1 rfl i j x y hji hx hy] at hc;exact hc.symm
set_option maxRecDepth 100000 in
theorem xCommon_no (ware:ByteArray) (lim by_:Int) (A:Option Addr) (n k:Nat) (ps:List Prt) (B:Option Addr) (m d:Nat) (l:List Int) (w:World) (hr:RdP w A n k ps) (hl:RdI w B m d l) (hn:n≤maxLen) (hm:m≤maxLen) (q:Int) (hq:askP ⟨ware,lim,by_,ps⟩ l=q) (hne:q≠0):Calls Tryz.prog 31 #[.agg #[.string ware,.int .i64 lim,.int .i64 by_,.slice A n k],.slice B m d] w fun e w'=>e=.returned (.tuple #[.agg #[.int .i64 0,.int .i64 0],.bool false,.int .i64 q])∧Below w.heap.size w w':=by
 have HQ:=hid hq;clear hq
 have hr0:=hr;have hl0:=hl
 go_enter Tryz.func31,Tryz.ntmps31
 obtain ⟨a2,a1,a0⟩:=ent2 w #[.string ware,.int .i64 lim,.int .i64 by_,.slice A n k] 24 #[.int .i64 0,.int .i64 0] 41
 have a8:=hid (RdP.below (hr) a0.out)
 have a9:=iI hl a0
 clear hr hl
 obtain ⟨b8,b9,c0,c1⟩:=at4 a2
 obtain ⟨b0,b1⟩:=at2 a1
 have HR:=hid (show RdP w A n k ps from hr0);have HL:=hid (show RdI w B m d l from hl0)
 have hc:=xasked_is ware lim by_ A n k ps B m d l (((w.alloc (.cells #[.string ware,.int .i64 lim,.int .i64 by_,.slice A n k] 24)).alloc (.cells #[.int .i64 0,.int .i64 0] 41))) a8.out a9.out hn hm q HQ.out
 have HC:=hid hc;clear hc
 go_wp2_with fail
 refine HC.out.mono ?_
 rintro e a5 ⟨rfl,hb⟩
 clear HC
 clear b8 b9 c0 c1 b0 b1
 have a3:=hid hb
 clear hb
 replace a2:=kH a2 a3
 obtain ⟨b2,b3,b4,b5⟩:=at4 a2
 replace a1:=kH a1 a3
 obtain ⟨b6,b7⟩:=at2 a1
 have a6:(a5).frozen? ⟨w.heap.size+1,0,none⟩=false:=Blk.frozen a1.out 0
 have a7:(a5).frozen? ⟨w.heap.size+1,1,none⟩=false:=Blk.frozen a1.out 1
 replace a0:=bH a0 a3
 have a4:=a0.out
 go_wp2
 refine bodyPost_ret (v:=.tuple #[.agg #[.int .i64 0,.int .i64 0],.bool false,.int .i64 q]) (by simp [results,Tryz.results31,go_sem,b2,b3,b4,b5,b6,b7,a6,a7]) rfl ⟨rfl,(by have hsz_:=Below.size a4;repeat' (first|with_reducible exact a4|with_reducible exact Below.refl _ _|with_reducible refine Below.alloc ?_ ?_ _|with_reducible refine Below.setCell ?_ ?_ _|with_reducible refine Below.drew ?_|with_reducible refine below_setRow ?_ ?_ _|omega | (simp;done) | (simp;omega)))⟩
set_option maxRecDepth 100000 in
theorem xCommon_none (ware:ByteArray) (lim by_:Int) (A:Option Addr) (n k:Nat) (ps:List Prt) (B:Option Addr) (m d:Nat) (l:List Int) (w:World) (hr:RdP w A n k ps) (hl:RdI w B m d l) (hn:n≤maxLen) (hm:m≤maxLen) (hq:askP ⟨ware,lim,by_,ps⟩ l=0) (R:Rng) (hR:comR ps l=R) (hgt:R.hi<R.lo):Calls Tryz.prog 31 #[.agg #[.string ware,.int .i64 lim,.int .i64 by_,.slice A n k],.slice B m d] w fun e w'=>e=.returned (.tuple #[.agg #[.int .i64 0,.int .i64 0],.bool false,.int .i64 0])∧Below w.heap.size w w':=by
 have HIN:=hid (askP_all hq (show (Cse.mk ware lim by_ ps).ps.length=n from hr.len))
 have HQ:=hid hq;have HRR:=hid hR;clear hq hR
 have hr0:=hr;have hl0:=hl;have hn2:=hn;have hm2:=hm;unfold maxLen at hn2 hm2
 go_enter Tryz.func31,Tryz.ntmps31
 obtain ⟨a8,a7,b0⟩:=ent2 w #[.string ware,.int .i64 lim,.int .i64 by_,.slice A n k] 24 #[.int .i64 0,.int .i64 0] 41
 have b3:=hid (RdP.below (hr) b0.out)
 have b4:=iI hl b0
 clear hr hl
 obtain ⟨g6,g7,g8,g9⟩:=at4 a8
 obtain ⟨e9,f0⟩:=at2 a7
 have HR:=hid (show RdP w A n k ps from hr0);have HL:=hid (show RdI w B m d l from hl0)
 have hc:=xasked_is ware lim by_ A n k ps B m d l (((w.alloc (.cells #[.string ware,.int .i64 lim,.int .i64 by_,.slice A n k] 24)).alloc (.cells #[.int .i64 0,.int .i64 0] 41))) b3.out b4.out hn hm 0 HQ.out
 have HC:=hid hc;clear hc
 go_wp2_with fail
 refine HC.out.mono ?_
 rintro e a4 ⟨rfl,hb⟩
 clear HC
 clear g6 g7 g8 g9 e9 f0
 have b1:=hid hb
 clear hb
 replace a8:=kH a8 b1
 obtain ⟨h0,h1,h2,h3⟩:=at4 a8
 replace a7:=kH a7 b1
 obtain ⟨h4,h5⟩:=at2 a7
 have hlz:=Blk.lt a7.out
 obtain ⟨o_,ho_⟩:∃ o,o=((.cells #[.int .i64 0,.int .i64 1000] 41):Obj):=⟨_,rfl⟩
 replace b0:=bA (bH b0 b1) o_
 replace b3:=hid (RdP.alloc ((hid (RdP.below (b3.out) b1.out)).out) (o_))
 replace b4:=iA (iH b4 b1) o_
 replace a8:=kA a8 o_
 replace a7:=kA a7 o_
 subst ho_
 have b5:=hid (Blk.new a4 41 #[.int .i64 0,.int .i64 1000])
 obtain ⟨f1,f2,f3,f4⟩:=at4 a8
 obtain ⟨f5,f6⟩:=at2 a7
 obtain ⟨f7,f8⟩:=at2 b5
 go_wp2
 clear f1 f2 f3 f4 f5 f6 f7 f8
 go_loopw [9] (fun i wr=>∃ q:Nat,q≤m∧i=.int .i64 q∧Blk wr w.heap.size 24 #[.string ware,.int .i64 lim,.int .i64 by_,.slice A n k]∧Blk wr (w.heap.size+1) 41 #[.int .i64 0,.int .i64 0]∧Blk wr (a4.heap.size) 41 #[.int .i64 (comR ps (l.take q)).lo,.int .i64 (comR ps (l.take q)).hi]∧Below w.heap.size w wr) (fun i _=>m-(intOf i).toNat)
 case atStart=>exact ⟨0,Nat.zero_le _,rfl,a8.out,a7.out,b5.out,b0.out⟩
 case round =>
  clear b0 b3 b4 a8 a7 b5
  obtain ⟨q,hq,rfl,hbc,hbz,hbr,hbe⟩:=hrel
  have hlr:=Blk.lt hbr
  have hszr:=hbe.size
  have a1:=hid (hbc)
  have a6:=hid (hbz)
  have c1:=hid (hbr)
  have a0:=hid (hbe)
  clear hbc hbz hbr hbe
  by_cases hlt:q<m
  · have hlt':(q:Int)<m:=by omega
    obtain ⟨b9,o9,v,rfl,hb9,hv,e0⟩:=RdI.get HL.out hlt
    obtain ⟨i,rfl,hi⟩:=HIN.out v (List.mem_of_getElem? hv)
    have hi':(i:Int)<n:=by omega
    have HV:=hid hv;have HB9:=hid hb9;have E0:=hid e0;clear hv hb9 e0
    obtain ⟨b,o,p,x,rfl,hbw,hx,-,-,g1,g2,-,-,-,-,-⟩:=RdP.get HR.out hi
    have HBW:=hid hbw;have G1:=hid g1;have G2:=hid g2;have HP:=hid (ptA_at hx);clear hbw g1 g2 hx
    obtain ⟨R,hR⟩:∃ r,r=comR ps (l.take q):=⟨_,rfl⟩
    have hbr:=c1.out
    rw [← hR] at hbr
    have a5:=hid (hbr)
    clear hbr
    have HRR:=hid hR;clear hR
    obtain ⟨X,hX⟩:∃ v,(if R.lo<p.lo then p.lo else R.lo)=v:=⟨_,rfl⟩
    obtain ⟨Y,hY⟩:∃ v,(if p.hi<R.hi then p.hi else R.hi)=v:=⟨_,rfl⟩
    have HXY:=hid (show meetR R p=⟨X,Y⟩ by unfold meetR;rw [hX,hY])
    go_wp2
    replace a1:=kD a1
    replace a6:=kD a6
    replace a5:=kD a5
    replace a0:=bD a0
    refine wp_region_held_drew (S:=(fun W'=>Blk W' (w.heap.size) 24 #[.string ware,.int .i64 lim,.int .i64 by_,.slice (some ⟨b,o,none⟩) n k]∧Below w.heap.size w W')) (by kernel_rfl) ⟨a1.out,a0.out⟩ (fun _=>?_)
    obtain ⟨c3,b6⟩:∃ w',w'=(wr.drew):=⟨_,rfl⟩
    rw [← b6] at a1 a6 a5 a0
    rw [← b6]
    clear b6
    refine' twH 0 ⟨a1.out,a0.out⟩ ?_
    refine' twH 2 ⟨a1.out,a0.out⟩ ?_
    refine' tkH 3 ⟨a1.out,a0.out⟩ ?c7 ?_
    case c7=>(rintro W' ⟨hS0,hS1⟩;have hc0:=Blk.nth hS0 3;clear hS0 hS1;go_simp;try with_reducible rfl)
    refine' twH 4 ⟨a1.out,a0.out⟩ ?_
    try simp only [pq]
    refine' twH 5 ⟨a1.out,a0.out⟩ ?_
    refine' twH 6 ⟨a1.out,a0.out⟩ ?_
    refine' tkH 7 ⟨a1.out,a0.out⟩ ?c8 ?_
    case c8=>(rintro W' ⟨hS0,hS1⟩;have hc0:=(Below.cell hS1 (p:=⟨b9,_,none⟩) HB9.out).trans E0.out;clear hS0 hS1;go_simp;try with_reducible rfl)
    refine' twH 8 ⟨a1.out,a0.out⟩ ?_
    try simp only [pq]
    refine' twH 9 ⟨a1.out,a0.out⟩ ?_
    refine' twH 10 ⟨a1.out,a0.out⟩ ?_
    refine' tkH 11 ⟨a1.out,a0.out⟩ ?c9 ?_
    case c9=>(rintro W' ⟨hS0,hS1⟩;have hc0:=(Below.cell hS1 (p:=⟨b,_,none⟩) HBW.out).trans G1.out;clear hS0 hS1;go_simp;try with_reducible rfl)
    try simp only [pq]
    refine oneH 1 rfl fun K hK=>?_
    have zl582:=Blk.cell (a5.out) 0
    go_simp
    clear zl582
    refine hK.out _ _ ⟨a1.out,a0.out⟩ (fun _=>?_);clear hK K
    try simp only [pq]
    refine' tkH 12 ⟨a1.out,a0.out⟩ ?d0 ?_
    case d0=>(rintro W' -;go_simp;try with_reducible rfl)
    refine' twH 13 ⟨a1.out,a0.out⟩ ?_
    try simp only [pq]
    refine oneH 14 rfl fun K hK=>?_
    have f9:(c3).cell? ⟨a4.heap.size,0,none⟩=some (.int .i64 R.lo):=Blk.cell (a5.out) 0
    have g0:(c3).frozen? ⟨a4.heap.size,0,none⟩=false:=Blk.frozen (a5.out) 0
    have hlt_:=Blk.lt (a5.out)
    go_simp
    have a2:=hid (Blk.far (a1.out) (p:=⟨a4.heap.size,0,none⟩) (by first|omega | (simp;done) | (simp;omega) | (dsimp only;omega)) (.int .i64 X))
    have b2:=hid (Blk.far (a6.out) (p:=⟨a4.heap.size,0,none⟩) (by first|omega | (simp;done) | (simp;omega) | (dsimp only;omega)) (.int .i64 X))
    have a9:=hid (Blk.set_ (a5.out) 0 (.int .i64 X))
    have a3:=hid (Below.setCell (a0.out) (p:=⟨a4.heap.size,0,none⟩) (by first|omega | (simp;done) | (simp;omega) | (dsimp only;omega)) (.int .i64 X))
    obtain ⟨g3,b7⟩:∃ w',w'=((c3).setCell ⟨a4.heap.size,0,none⟩ (.int .i64 X)):=⟨_,rfl⟩
    rw [← b7] at a2 b2 a9 a3
    rw [← b7]
    clear b7 f9 g0 hlt_
    refine hK.out _ _ ⟨a2.out,a3.out⟩ (fun _=>?_);clear hK K
    try simp only [pq]
    refine wpAnyH_done (by kernel_rfl) ?_ _
    go_wp2
    replace a2:=kD a2
    replace b2:=kD b2
    replace a9:=kD a9
    replace a3:=bD a3
    refine wp_region_held_drew (S:=(fun W'=>Blk W' (w.heap.size) 24 #[.string ware,.int .i64 lim,.int .i64 by_,.slice (some ⟨b,o,none⟩) n k]∧Below w.heap.size w W')) (by kernel_rfl) ⟨a2.out,a3.out⟩ (fun _=>?_)
    obtain ⟨c4,b8⟩:∃ w',w'=(g3.drew):=⟨_,rfl⟩
    rw [← b8] at a2 b2 a9 a3
    rw [← b8]
    clear b8
    refine' twH 0 ⟨a2.out,a3.out⟩ ?_
    refine' twH 2 ⟨a2.out,a3.out⟩ ?_
    refine' tkH 3 ⟨a2.out,a3.out⟩ ?d1 ?_
    case d1=>(rintro W' ⟨hS0,hS1⟩;have hc0:=Blk.nth hS0 3;clear hS0 hS1;go_simp;try with_reducible rfl)
    refine' twH 4 ⟨a2.out,a3.out⟩ ?_
    try simp only [pq]
    refine' twH 5 ⟨a2.out,a3.out⟩ ?_
    refine' twH 6 ⟨a2.out,a3.out⟩ ?_
    refine' tkH 7 ⟨a2.out,a3.out⟩ ?d2 ?_
    case d2=>(rintro W' ⟨hS0,hS1⟩;have hc0:=(Below.cell hS1 (p:=⟨b9,_,none⟩) HB9.out).trans E0.out;clear hS0 hS1;go_simp;try with_reducible rfl)
    refine' twH 8 ⟨a2.out,a3.out⟩ ?_
    try simp only [pq]
    refine' twH 9 ⟨a2.out,a3.out⟩ ?_
    refine' twH 10 ⟨a2.out,a3.out⟩ ?_
    refine' tkH 11 ⟨a2.out,a3.out⟩ ?d3 ?_
    case d3=>(rintro W' ⟨hS0,hS1⟩;have hc0:=(Below.cell hS1 (p:=⟨b,_,none⟩) HBW.out).trans G2.out;clear hS0 hS1;go_simp;try with_reducible rfl)
    try simp only [pq]
    refine oneH 1 rfl fun K hK=>?_
    have zl606:=Blk.cell (a9.out) 1
    go_simp
    clear zl606
    refine hK.out _ _ ⟨a2.out,a3.out⟩ (fun _=>?_);clear hK K
    try simp only [pq]
    refine' tkH 12 ⟨a2.out,a3.out⟩ ?d4 ?_
    case d4=>(rintro W' -;go_simp;try with_reducible rfl)
    refine' twH 13 ⟨a2.out,a3.out⟩ ?_
    try simp only [pq]
    refine oneH 14 rfl fun K hK=>?_
    have g4:(c4).cell? ⟨a4.heap.size,1,none⟩=some (.int .i64 R.hi):=Blk.cell (a9.out) 1
    have g5:(c4).frozen? ⟨a4.heap.size,1,none⟩=false:=Blk.frozen (a9.out) 1
    have hlt_:=Blk.lt (a9.out)
    go_simp
    have c5:=hid (Blk.far (a2.out) (p:=⟨a4.heap.size,1,none⟩) (by first|omega | (simp;done) | (simp;omega) | (dsimp only;omega)) (.int .i64 Y))
    have d5:=hid (Blk.far (b2.out) (p:=⟨a4.heap.size,1,none⟩) (by first|omega | (simp;done) | (simp;omega) | (dsimp only;omega)) (.int .i64 Y))
    have d6:=hid (Blk.set_ (a9.out) 1 (.int .i64 Y))
    have c6:=hid (Below.setCell (a3.out) (p:=⟨a4.heap.size,1,none⟩) (by first|omega | (simp;done) | (simp;omega) | (dsimp only;omega)) (.int .i64 Y))
    obtain ⟨h6,c0⟩:∃ w',w'=((c4).setCell ⟨a4.heap.size,1,none⟩ (.int .i64 Y)):=⟨_,rfl⟩
    rw [← c0] at c5 d5 d6 c6
    rw [← c0]
    clear c0 g4 g5 hlt_
    refine hK.out _ _ ⟨c5.out,c6.out⟩ (fun _=>?_);clear hK K
    try simp only [pq]
    refine wpAnyH_done (by kernel_rfl) ?_ _
    clear hX hY
    go_wp2
    go_roundw
    case rel=>exact ⟨q+1,by omega,by go_num,c5.out,d5.out,by rw [List.take_add_one,HV.out,Option.toList_some,comR_snoc,← HRR.out,HP.out,HXY.out];exact d6.out,c6.out⟩
    case measure=>simp [intOf];omega
  · obtain rfl:m=q:=by omega
    have hln:=HL.out.len
    have hbr:=c1.out
    rw [List.take_of_length_le (by omega),HRR.out] at hbr
    clear hln
    have d7:=hid (hbr)
    clear hbr
    obtain ⟨e1,e2,e3,e4⟩:=at4 a1
    obtain ⟨e5,e6⟩:=at2 a6
    obtain ⟨e7,e8⟩:=at2 d7
    have d8:(wr).frozen? ⟨w.heap.size+1,0,none⟩=false:=Blk.frozen a6.out 0
    have d9:(wr).frozen? ⟨w.heap.size+1,1,none⟩=false:=Blk.frozen a6.out 1
    have c2:=a0.out
    go_wp2
    refine bodyPost_ret (v:=.tuple #[.agg #[.int .i64 0,.int .i64 0],.bool false,.int .i64 0]) (by simp [results,Tryz.results31,go_sem,e1,e2,e3,e4,e5,e6,e7,e8,d8,d9]) rfl ⟨rfl,(by have hsz_:=Below.size c2;repeat' (first|with_reducible exact c2|with_reducible exact Below.refl _ _|with_reducible refine Below.alloc ?_ ?_ _|with_reducible refine Below.setCell ?_ ?_ _|with_reducible refine Below.drew ?_|with_reducible refine below_setRow ?_ ?_ _|omega | (simp;done) | (simp;omega)))⟩
set_option maxRecDepth 100000 in
theorem xCommon_some (ware:ByteArray) (lim by_:Int) (A:Option Addr) (n k:Nat) (ps:List Prt) (B:Option Addr) (m d:Nat) (l:List Int) (w:World) (hr:RdP w A n k ps) (hl:RdI w B m d l) (hn:n≤maxLen) (hm:m≤maxLen) (hq:askP ⟨ware,lim,by_,ps⟩ l=0) (R:Rng) (hR:comR ps l=R) (hgt:¬ R.hi<R.lo):Calls Tryz.prog 31 #[.agg #[.string ware,.int .i64 lim,.int .i64 by_,.slice A n k],.slice B m d] w fun e w'=>e=.returned (.tuple #[.agg #[.int .i64 R.lo,.int .i64 R.hi],.bool true,.int .i64 0])∧Below w.heap.size w w':=by
 have HIN:=hid (askP_all hq (show (Cse.mk ware lim by_ ps).ps.length=n from hr.len))
 have HQ:=hid hq;have HRR:=hid hR;clear hq hR
 have hr0:=hr;have hl0:=hl;have hn2:=hn;have hm2:=hm;unfold maxLen at hn2 hm2
 go_enter Tryz.func31,Tryz.ntmps31
 obtain ⟨a8,a7,b0⟩:=ent2 w #[.string ware,.int .i64 lim,.int .i64 by_,.slice A n k] 24 #[.int .i64 0,.int .i64 0] 41
 have b3:=hid (RdP.below (hr) b0.out)
 have b4:=iI hl b0
 clear hr hl
 obtain ⟨g6,g7,g8,g9⟩:=at4 a8
 obtain ⟨e9,f0⟩:=at2 a7
 have HR:=hid (show RdP w A n k ps from hr0);have HL:=hid (show RdI w B m d l from hl0)
 have hc:=xasked_is ware lim by_ A n k ps B m d l (((w.alloc (.cells #[.string ware,.int .i64 lim,.int .i64 by_,.slice A n k] 24)).alloc (.cells #[.int .i64 0,.int .i64 0] 41))) b3.out b4.out hn hm 0 HQ.out
 have HC:=hid hc;clear hc
 go_wp2_with fail
 refine HC.out.mono ?_
 rintro e a4 ⟨rfl,hb⟩
 clear HC
 clear g6 g7 g8 g9 e9 f0
 have b1:=hid hb
 clear hb
 replace a8:=kH a8 b1
 obtain ⟨h0,h1,h2,h3⟩:=at4 a8
 replace a7:=kH a7 b1
 obtain ⟨h4,h5⟩:=at2 a7
 have hlz:=Blk.lt a7.out
 obtain ⟨o_,ho_⟩:∃ o,o=((.cells #[.int .i64 0,.int .i64 1000] 41):Obj):=⟨_,rfl⟩
 replace b0:=bA (bH b0 b1) o_
 replace b3:=hid (RdP.alloc ((hid (RdP.below (b3.out) b1.out)).out) (o_))
 replace b4:=iA (iH b4 b1) o_
 replace a8:=kA a8 o_
 replace a7:=kA a7 o_
 subst ho_
 have b5:=hid (Blk.new a4 41 #[.int .i64 0,.int .i64 1000])
 obtain ⟨f1,f2,f3,f4⟩:=at4 a8
 obtain ⟨f5,f6⟩:=at2 a7
 obtain ⟨f7,f8⟩:=at2 b5
 go_wp2
 clear f1 f2 f3 f4 f5 f6 f7 f8
 go_loopw [9] (fun i wr=>∃ q:Nat,q≤m∧i=.int .i64 q∧Blk wr w.heap.size 24 #[.string ware,.int .i64 lim,.int .i64 by_,.slice A n k]∧Blk wr (w.heap.size+1) 41 #[.int .i64 0,.int .i64 0]∧Blk wr (a4.heap.size) 41 #[.int .i64 (comR ps (l.take q)).lo,.int .i64 (comR ps (l.take q)).hi]∧Below w.heap.size w wr) (fun i _=>m-(intOf i).toNat)
 case atStart=>exact ⟨0,Nat.zero_le _,rfl,a8.out,a7.out,b5.out,b0.out⟩
 case round =>
  clear b0 b3 b4 a8 a7 b5
  obtain ⟨q,hq,rfl,hbc,hbz,hbr,hbe⟩:=hrel
  have hlr:=Blk.lt hbr
  have hszr:=hbe.size
  have a1:=hid (hbc)
  have a6:=hid (hbz)
  have c1:=hid (hbr)
  have a0:=hid (hbe)
  clear hbc hbz hbr hbe
  by_cases hlt:q<m
  · have hlt':(q:Int)<m:=by omega
    obtain ⟨b9,o9,v,rfl,hb9,hv,e0⟩:=RdI.get HL.out hlt
    obtain ⟨i,rfl,hi⟩:=HIN.out v (List.mem_of_getElem? hv)
    have hi':(i:Int)<n:=by omega
    have HV:=hid hv;have HB9:=hid hb9;have E0:=hid e0;clear hv hb9 e0
    obtain ⟨b,o,p,x,rfl,hbw,hx,-,-,g1,g2,-,-,-,-,-⟩:=RdP.get HR.out hi
    have HBW:=hid hbw;have G1:=hid g1;have G2:=hid g2;have HP:=hid (ptA_at hx);clear hbw g1 g2 hx
    obtain ⟨R,hR⟩:∃ r,r=comR ps (l.take q):=⟨_,rfl⟩
    have hbr:=c1.out
    rw [← hR] at hbr
    have a5:=hid (hbr)
    clear hbr
    have HRR:=hid hR;clear hR
    obtain ⟨X,hX⟩:∃ v,(if R.lo<p.lo then p.lo else R.lo)=v:=⟨_,rfl⟩
    obtain ⟨Y,hY⟩:∃ v,(if p.hi<R.hi then p.hi else R.hi)=v:=⟨_,rfl⟩
    have HXY:=hid (show meetR R p=⟨X,Y⟩ by unfold meetR;rw [hX,hY])
    go_wp2
    replace a1:=kD a1
    replace a6:=kD a6
    replace a5:=kD a5
    replace a0:=bD a0
    refine wp_region_held_drew (S:=(fun W'=>Blk W' (w.heap.size) 24 #[.string ware,.int .i64 lim,.int .i64 by_,.slice (some ⟨b,o,none⟩) n k]∧Below w.heap.size w W')) (by kernel_rfl) ⟨a1.out,a0.out⟩ (fun _=>?_)
    obtain ⟨c3,b6⟩:∃ w',w'=(wr.drew):=⟨_,rfl⟩
    rw [← b6] at a1 a6 a5 a0
    rw [← b6]
    clear b6
    refine' twH 0 ⟨a1.out,a0.out⟩ ?_
    refine' twH 2 ⟨a1.out,a0.out⟩ ?_
    refine' tkH 3 ⟨a1.out,a0.out⟩ ?c7 ?_
    case c7=>(rintro W' ⟨hS0,hS1⟩;have hc0:=Blk.nth hS0 3;clear hS0 hS1;go_simp;try with_reducible rfl)
    refine' twH 4 ⟨a1.out,a0.out⟩ ?_
    try simp only [pq]
    refine' twH 5 ⟨a1.out,a0.out⟩ ?_
    refine' twH 6 ⟨a1.out,a0.out⟩ ?_
    refine' tkH 7 ⟨a1.out,a0.out⟩ ?c8 ?_
    case c8=>(rintro W' ⟨hS0,hS1⟩;have hc0:=(Below.cell hS1 (p:=⟨b9,_,none⟩) HB9.out).trans E0.out;clear hS0 hS1;go_simp;try with_reducible rfl)
    refine' twH 8 ⟨a1.out,a0.out⟩ ?_
    try simp only [pq]
    refine' twH 9 ⟨a1.out,a0.out⟩ ?_
    refine' twH 10 ⟨a1.out,a0.out⟩ ?_
    refine' tkH 11 ⟨a1.out,a0.out⟩ ?c9 ?_
    case c9=>(rintro W' ⟨hS0,hS1⟩;have hc0:=(Below.cell hS1 (p:=⟨b,_,none⟩) HBW.out).trans G1.out;clear hS0 hS1;go_simp;try with_reducible rfl)
    try simp only [pq]
    refine oneH 1 rfl fun K hK=>?_
    have zl630:=Blk.cell (a5.out) 0
    go_simp
    clear zl630
    refine hK.out _ _ ⟨a1.out,a0.out⟩ (fun _=>?_);clear hK K
    try simp only [pq]
    refine' tkH 12 ⟨a1.out,a0.out⟩ ?d0 ?_
    case d0=>(rintro W' -;go_simp;try with_reducible rfl)
    refine' twH 13 ⟨a1.out,a0.out⟩ ?_
    try simp only [pq]
    refine oneH 14 rfl fun K hK=>?_
    have f9:(c3).cell? ⟨a4.heap.size,0,none⟩=some (.int .i64 R.lo):=Blk.cell (a5.out) 0
    have g0:(c3).frozen? ⟨a4.heap.size,0,none⟩=false:=Blk.frozen (a5.out) 0
    have hlt_:=Blk.lt (a5.out)
    go_simp
    have a2:=hid (Blk.far (a1.out) (p:=⟨a4.heap.size,0,none⟩) (by first|omega | (simp;done) | (simp;omega) | (dsimp only;omega)) (.int .i64 X))
    have b2:=hid (Blk.far (a6.out) (p:=⟨a4.heap.size,0,none⟩) (by first|omega | (simp;done) | (simp;omega) | (dsimp only;omega)) (.int .i64 X))
    have a9:=hid (Blk.set_ (a5.out) 0 (.int .i64 X))
    have a3:=hid (Below.setCell (a0.out) (p:=⟨a4.heap.size,0,none⟩) (by first|omega | (simp;done) | (simp;omega) | (dsimp only;omega)) (.int .i64 X))
    obtain ⟨g3,b7⟩:∃ w',w'=((c3).setCell ⟨a4.heap.size,0,none⟩ (.int .i64 X)):=⟨_,rfl⟩
    rw [← b7] at a2 b2 a9 a3
    rw [← b7]
    clear b7 f9 g0 hlt_
    refine hK.out _ _ ⟨a2.out,a3.out⟩ (fun _=>?_);clear hK K
    try simp only [pq]
    refine wpAnyH_done (by kernel_rfl) ?_ _
    go_wp2
    replace a2:=kD a2
    replace b2:=kD b2
    replace a9:=kD a9
    replace a3:=bD a3
    refine wp_region_held_drew (S:=(fun W'=>Blk W' (w.heap.size) 24 #[.string ware,.int .i64 lim,.int .i64 by_,.slice (some ⟨b,o,none⟩) n k]∧Below w.heap.size w W')) (by kernel_rfl) ⟨a2.out,a3.out⟩ (fun _=>?_)
    obtain ⟨c4,b8⟩:∃ w',w'=(g3.drew):=⟨_,rfl⟩
    rw [← b8] at a2 b2 a9 a3
    rw [← b8]
    clear b8
    refine' twH 0 ⟨a2.out,a3.out⟩ ?_
    refine' twH 2 ⟨a2.out,a3.out⟩ ?_
    refine' tkH 3 ⟨a2.out,a3.out⟩ ?d1 ?_
    case d1=>(rintro W' ⟨hS0,hS1⟩;have hc0:=Blk.nth hS0 3;clear hS0 hS1;go_simp;try with_reducible rfl)
    refine' twH 4 ⟨a2.out,a3.out⟩ ?_
    try simp only [pq]
    refine' twH 5 ⟨a2.out,a3.out⟩ ?_
    refine' twH 6 ⟨a2.out,a3.out⟩ ?_
    refine' tkH 7 ⟨a2.out,a3.out⟩ ?d2 ?_
    case d2=>(rintro W' ⟨hS0,hS1⟩;have hc0:=(Below.cell hS1 (p:=⟨b9,_,none⟩) HB9.out).trans E0.out;clear hS0 hS1;go_simp;try with_reducible rfl)
    refine' twH 8 ⟨a2.out,a3.out⟩ ?_
    try simp only [pq]
    refine' twH 9 ⟨a2.out,a3.out⟩ ?_
    refine' twH 10 ⟨a2.out,a3.out⟩ ?_
    refine' tkH 11 ⟨a2.out,a3.out⟩ ?d3 ?_
    case d3=>(rintro W' ⟨hS0,hS1⟩;have hc0:=(Below.cell hS1 (p:=⟨b,_,none⟩) HBW.out).trans G2.out;clear hS0 hS1;go_simp;try with_reducible rfl)
    try simp only [pq]
    refine oneH 1 rfl fun K hK=>?_
    have zl654:=Blk.cell (a9.out) 1
    go_simp
    clear zl654
    refine hK.out _ _ ⟨a2.out,a3.out⟩ (fun _=>?_);clear hK K
    try simp only [pq]
    refine' tkH 12 ⟨a2.out,a3.out⟩ ?d4 ?_
    case d4=>(rintro W' -;go_simp;try with_reducible rfl)
    refine' twH 13 ⟨a2.out,a3.out⟩ ?_
    try simp only [pq]
    refine oneH 14 rfl fun K hK=>?_
    have g4:(c4).cell? ⟨a4.heap.size,1,none⟩=some (.int .i64 R.hi):=Blk.cell (a9.out) 1
    have g5:(c4).frozen? ⟨a4.heap.size,1,none⟩=false:=Blk.frozen (a9.out) 1
    have hlt_:=Blk.lt (a9.out)
    go_simp
    have c5:=hid (Blk.far (a2.out) (p:=⟨a4.heap.size,1,none⟩) (by first|omega | (simp;done) | (simp;omega) | (dsimp only;omega)) (.int .i64 Y))
    have d5:=hid (Blk.far (b2.out) (p:=⟨a4.heap.size,1,none⟩) (by first|omega | (simp;done) | (simp;omega) | (dsimp only;omega)) (.int .i64 Y))
    have d6:=hid (Blk.set_ (a9.out) 1 (.int .i64 Y))
    have c6:=hid (Below.setCell (a3.out) (p:=⟨a4.heap.size,1,none⟩) (by first|omega | (simp;done) | (simp;omega) | (dsimp only;omega)) (.int .i64 Y))
    obtain ⟨h6,c0⟩:∃ w',w'=((c4).setCell ⟨a4.heap.size,1,none⟩ (.int .i64 Y)):=⟨_,rfl⟩
    rw [← c0] at c5 d5 d6 c6
    rw [← c0]
    clear c0 g4 g5 hlt_
    refine hK.out _ _ ⟨c5.out,c6.out⟩ (fun _=>?_);clear hK K
    try simp only [pq]
    refine wpAnyH_done (by kernel_rfl) ?_ _
    clear hX hY
    go_wp2
    go_roundw
    case rel=>exact ⟨q+1,by omega,by go_num,c5.out,d5.out,by rw [List.take_add_one,HV.out,Option.toList_some,comR_snoc,← HRR.out,HP.out,HXY.out];exact d6.out,c6.out⟩
    case measure=>simp [intOf];omega
  · obtain rfl:m=q:=by omega
    have hln:=HL.out.len
    have hbr:=c1.out
    rw [List.take_of_length_le (by omega),HRR.out] at hbr
    clear hln
    have d7:=hid (hbr)
    clear hbr
    obtain ⟨e1,e2,e3,e4⟩:=at4 a1
    obtain ⟨e5,e6⟩:=at2 a6
    obtain ⟨e7,e8⟩:=at2 d7
    have d8:(wr).frozen? ⟨w.heap.size+1,0,none⟩=false:=Blk.frozen a6.out 0
    have d9:(wr).frozen? ⟨w.heap.size+1,1,none⟩=false:=Blk.frozen a6.out 1
    have c2:=a0.out
    go_wp2
    refine bodyPost_ret (v:=.tuple #[.agg #[.int .i64 R.lo,.int .i64 R.hi],.bool true,.int .i64 0]) (by simp [results,Tryz.results31,go_sem,e1,e2,e3,e4,e5,e6,e7,e8,d8,d9]) rfl ⟨rfl,(by have hsz_:=Below.size c2;repeat' (first|with_reducible exact c2|with_reducible exact Below.refl _ _|with_reducible refine Below.alloc ?_ ?_ _|with_reducible refine Below.setCell ?_ ?_ _|with_reducible refine Below.drew ?_|with_reducible refine below_setRow ?_ ?_ _|omega | (simp;done) | (simp;omega)))⟩
set_option maxRecDepth 100000 in
theorem xOne_no (ware:ByteArray) (lim by_:Int) (A:Option Addr) (n k:Nat) (ps:List Prt) (B:Option Addr) (m d:Nat) (l:List Int) (w:World) (hr:RdP w A n k ps) (hl:RdI w B m d l) (hn:n≤maxLen) (hm:m≤maxLen) (q:Int) (hq:askP ⟨ware,lim,by_,ps⟩ l=q) (hne:q≠0):Calls Tryz.prog 33 #[.agg #[.string ware,.int .i64 lim,.int .i64 by_,.slice A n k],.slice B m d] w fun e w'=>e=.returned (.tuple #[.bool false,.int .i64 q])∧Below w.heap.size w w':=by
 have HQ:=hid hq;clear hq
 have hr0:=hr;have hl0:=hl
 go_enter Tryz.func33,Tryz.ntmps33
 obtain ⟨a1,a0⟩:=ent1 w #[.string ware,.int .i64 lim,.int .i64 by_,.slice A n k] 24
 have a3:=hid (RdP.below (hr) a0.out)
 have a4:=iI hl a0
 clear hr hl
 obtain ⟨a5,a6,a7,a8⟩:=at4 a1
 have HR:=hid (show RdP w A n k ps from hr0);have HL:=hid (show RdI w B m d l from hl0)
 have hc:=xasked_is ware lim by_ A n k ps B m d l ((w.alloc (.cells #[.string ware,.int .i64 lim,.int .i64 by_,.slice A n k] 24))) a3.out a4.out hn hm q HQ.out
 have HC:=hid hc;clear hc
 go_wp2_with fail
 refine HC.out.mono ?_
 rintro e b3 ⟨rfl,hb⟩
 clear HC
 clear a5 a6 a7 a8
 have a2:=hid hb
 clear hb
 replace a1:=kH a1 a2
 obtain ⟨a9,b0,b1,b2⟩:=at4 a1
 go_wp2
 go_ret2
 replace a0:=bH a0 a2
 exact ⟨rfl,a0.out⟩
set_option maxRecDepth 100000 in
theorem xOne_yes (ware:ByteArray) (lim by_:Int) (A:Option Addr) (n k:Nat) (ps:List Prt) (B:Option Addr) (m d:Nat) (l:List Int) (w:World) (hr:RdP w A n k ps) (hl:RdI w B m d l) (hn:n≤maxLen) (hm:m≤maxLen) (hq:askP ⟨ware,lim,by_,ps⟩ l=0) (v:Bool) (hv:v=true ↔ NoCl ps l):Calls Tryz.prog 33 #[.agg #[.string ware,.int .i64 lim,.int .i64 by_,.slice A n k],.slice B m d] w fun e w'=>e=.returned (.tuple #[.bool v,.int .i64 0])∧Below w.heap.size w w':=by
 have HIN:=hid (askP_all hq (show (Cse.mk ware lim by_ ps).ps.length=n from hr.len))
 have HQ:=hid hq;have HVV:=hid hv;clear hq hv
 have hr0:=hr;have hl0:=hl;have hn2:=hn;have hm2:=hm;unfold maxLen at hn2 hm2
 go_enter Tryz.func33,Tryz.ntmps33
 obtain ⟨a3,a2⟩:=ent1 w #[.string ware,.int .i64 lim,.int .i64 by_,.slice A n k] 24
 have a9:=hid (RdP.below (hr) a2.out)
 have b0:=iI hl a2
 clear hr hl
 obtain ⟨c7,c8,c9,d0⟩:=at4 a3
 have HR:=hid (show RdP w A n k ps from hr0);have HL:=hid (show RdI w B m d l from hl0)
 have hc:=xasked_is ware lim by_ A n k ps B m d l ((w.alloc (.cells #[.string ware,.int .i64 lim,.int .i64 by_,.slice A n k] 24))) a9.out b0.out hn hm 0 HQ.out
 have HC:=hid hc;clear hc
 go_wp2_with fail
 refine HC.out.mono ?_
 rintro e e3 ⟨rfl,hb⟩
 clear HC
 clear c7 c8 c9 d0
 have a5:=hid hb
 clear hb
 replace a3:=kH a3 a5
 obtain ⟨c1,c2,c3,c4⟩:=at4 a3
 go_wp2
 clear c1 c2 c3 c4
 replace a2:=bH a2 a5
 replace a9:=hid (RdP.below (a9.out) a5.out)
 replace b0:=iH b0 a5
 go_loopw [7] (fun i wr=>∃ q:Nat,q≤m∧i=.int .i64 q∧NoCl ps (l.take q)∧Blk wr w.heap.size 24 #[.string ware,.int .i64 lim,.int .i64 by_,.slice A n k]∧Below w.heap.size w wr) (fun i _=>m-(intOf i).toNat)
 case atStart=>exact ⟨0,Nat.zero_le _,rfl,noCl_zero,a3.out,a2.out⟩
 case round =>
  clear a2 a9 b0 a3
  obtain ⟨q,hq,rfl,hno,hbc,hbe⟩:=hrel
  have HNO:=hid hno;clear hno
  obtain ⟨wa,rfl⟩:∃ v,v=wr:=⟨wr,rfl⟩
  have a8:=hid (hbc)
  have a4:=hid (hbe)
  clear hbc hbe
  by_cases hlt:q<m
  · have hlt':(q:Int)<m:=by omega
    obtain ⟨b9,o9,v,rfl,hb9,hv,e0⟩:=RdI.get HL.out hlt
    obtain ⟨i,rfl,hi⟩:=HIN.out v (List.mem_of_getElem? hv)
    have HV:=hid hv;have HB9:=hid hb9;have E0:=hid e0;clear hv hb9 e0
    have HTS:=hid (show l.take (q+1)=l.take q++[(i:Int)] by rw [List.take_add_one,HV.out];rfl)
    go_wp2
    go_loopw [8] (fun i' wr=>∃ j:Nat,j≤q∧i'=.int .i64 j∧(∀ z∈l.take j,clB ps i z=false)∧Blk wr w.heap.size 24 #[.string ware,.int .i64 lim,.int .i64 by_,.slice A n k]∧Below w.heap.size w wr) (fun i' _=>q-(intOf i').toNat)
    case atStart=>exact ⟨0,Nat.zero_le _,rfl,by simp,a8.out,a4.out⟩
    case round =>
     clear a8 a4
     obtain ⟨j,hj,rfl,hal,hbc,hbe⟩:=hrel
     have HAL:=hid hal;clear hal
     have a1:=hid (hbc)
     have a0:=hid (hbe)
     clear hbc hbe
     by_cases hjq:j<q
     · have hjq':(j:Int)<q:=by omega
       have hjm:(j:Int)<m:=by omega
       obtain ⟨b8,o8,v2,hA2,-,hv2,e2⟩:=RdI.get HL.out (k:=j) (by omega)
       injection hA2 with hA2;injection hA2 with hA3 hA4;subst hA3 hA4
       obtain ⟨i2,rfl,hi2⟩:=HIN.out v2 (List.mem_of_getElem? hv2)
       have HV2:=hid hv2;have E2:=hid e2;clear hv2 e2
       have HTJ:=hid (show l.take (j+1)=l.take j++[(i2:Int)] by rw [List.take_add_one,HV2.out];rfl)
       go_wp2
       cases hcl:clB ps i i2
       · have HCL:=hid hcl;clear hcl
         replace a1:=kD a1
         replace a0:=bD a0
         refine wp_region_held_drew (S:=(fun W'=>Blk W' (w.heap.size) 24 #[.string ware,.int .i64 lim,.int .i64 by_,.slice A n k]∧Below w.heap.size w W')) (by kernel_rfl) ⟨a1.out,a0.out⟩ (fun _=>?_)
         obtain ⟨c5,b1⟩:∃ w',w'=(wr.drew):=⟨_,rfl⟩
         rw [← b1] at a1 a0
         rw [← b1]
         clear b1
         refine' twH 0 ⟨a1.out,a0.out⟩ ?_
         refine' tkH 1 ⟨a1.out,a0.out⟩ ?b3 ?_
         case b3=>(rintro W' ⟨hS0,hS1⟩;have hc0:=Blk.nth hS0 3;clear hS0 hS1;go_simp;try with_reducible rfl)
         refine' twH 2 ⟨a1.out,a0.out⟩ ?_
         refine' twH 3 ⟨a1.out,a0.out⟩ ?_
         try simp only [pq]
         refine' twH 4 ⟨a1.out,a0.out⟩ ?_
         refine' tkH 5 ⟨a1.out,a0.out⟩ ?b4 ?_
         case b4=>(rintro W' ⟨hS0,hS1⟩;have hc0:=(Below.cell hS1 (p:=⟨b9,_,none⟩) HB9.out).trans E0.out;clear hS0 hS1;go_simp;try with_reducible rfl)
         refine' twH 6 ⟨a1.out,a0.out⟩ ?_
         refine' twH 7 ⟨a1.out,a0.out⟩ ?_
         try simp only [pq]
         refine' twH 8 ⟨a1.out,a0.out⟩ ?_
         refine' tkH 9 ⟨a1.out,a0.out⟩ ?b5 ?_
         case b5=>(rintro W' ⟨hS0,hS1⟩;have hc0:=(Below.cell hS1 (p:=⟨b9,_,none⟩) HB9.out).trans E2.out;clear hS0 hS1;go_simp;try with_reducible rfl)
         try simp only [pq]
         refine oneH 10 rfl fun K hK=>?_
         go_simp
         go_at_call 70
         refine (xclash_is A n k ps (c5) (HR.out.below a0.out) hn i i2 hi hi2 _ HCL.out).mono ?_
         rintro e d9 ⟨rfl,a6⟩
         dsimp only
         replace a6:=hid a6
         replace a1:=kH a1 a6
         replace a0:=bH a0 a6
         refine hK.out _ _ ⟨a1.out,a0.out⟩ (fun _=>?_);clear hK K
         try simp only [pq]
         refine wpAnyH_done (by kernel_rfl) ?_ _
         go_wp2
         go_roundw
         case rel=>exact ⟨j+1,by omega,by go_num,by rw [HTJ.out];intro z hz;rcases List.mem_append.1 hz with hz|hz;exact HAL.out z hz;obtain rfl:=List.mem_singleton.1 hz;exact HCL.out,a1.out,a0.out⟩
         case measure=>simp [intOf];omega
       · have HCL:=hid hcl;clear hcl
         replace a1:=kD a1
         replace a0:=bD a0
         refine wp_region_held_drew (S:=(fun W'=>Blk W' (w.heap.size) 24 #[.string ware,.int .i64 lim,.int .i64 by_,.slice A n k]∧Below w.heap.size w W')) (by kernel_rfl) ⟨a1.out,a0.out⟩ (fun _=>?_)
         obtain ⟨c6,b2⟩:∃ w',w'=(wr.drew):=⟨_,rfl⟩
         rw [← b2] at a1 a0
         rw [← b2]
         clear b2
         refine' twH 0 ⟨a1.out,a0.out⟩ ?_
         refine' tkH 1 ⟨a1.out,a0.out⟩ ?b6 ?_
         case b6=>(rintro W' ⟨hS0,hS1⟩;have hc0:=Blk.nth hS0 3;clear hS0 hS1;go_simp;try with_reducible rfl)
         refine' twH 2 ⟨a1.out,a0.out⟩ ?_
         refine' twH 3 ⟨a1.out,a0.out⟩ ?_
         try simp only [pq]
         refine' twH 4 ⟨a1.out,a0.out⟩ ?_
         refine' tkH 5 ⟨a1.out,a0.out⟩ ?b7 ?_
         case b7=>(rintro W' ⟨hS0,hS1⟩;have hc0:=(Below.cell hS1 (p:=⟨b9,_,none⟩) HB9.out).trans E0.out;clear hS0 hS1;go_simp;try with_reducible rfl)
         refine' twH 6 ⟨a1.out,a0.out⟩ ?_
         refine' twH 7 ⟨a1.out,a0.out⟩ ?_
         try simp only [pq]
         refine' twH 8 ⟨a1.out,a0.out⟩ ?_
         refine' tkH 9 ⟨a1.out,a0.out⟩ ?c0 ?_
         case c0=>(rintro W' ⟨hS0,hS1⟩;have hc0:=(Below.cell hS1 (p:=⟨b9,_,none⟩) HB9.out).trans E2.out;clear hS0 hS1;go_simp;try with_reducible rfl)
         try simp only [pq]
         refine oneH 10 rfl fun K hK=>?_
         go_simp
         go_at_call 70
         refine (xclash_is A n k ps (c6) (HR.out.below a0.out) hn i i2 hi hi2 _ HCL.out).mono ?_
         rintro e e1 ⟨rfl,a7⟩
         dsimp only
         replace a7:=hid a7
         replace a1:=kH a1 a7
         replace a0:=bH a0 a7
         refine hK.out _ _ ⟨a1.out,a0.out⟩ (fun _=>?_);clear hK K
         try simp only [pq]
         refine wpAnyH_done (by kernel_rfl) ?_ _
         go_wp2
         go_ret2
         exact ⟨by rw [noCl_no HVV.out HV.out HV2.out hjq HCL.out];rfl,a0.out⟩
     · obtain rfl:q=j:=by omega
       obtain ⟨d1,d2,d3,d4⟩:=at4 a1
       go_wp2
       go_roundw
       case rel=>exact ⟨q+1,by omega,by go_num,by rw [HTS.out];exact noCl_snoc HNO.out HAL.out,a1.out,a0.out⟩
       case measure=>simp [intOf];omega
  · obtain rfl:m=q:=by omega
    have hln:=HL.out.len
    have HNN:=hid (show NoCl ps l by have:=HNO.out;rwa [List.take_of_length_le (by omega)] at this)
    clear hln
    obtain ⟨d5,d6,d7,d8⟩:=at4 a8
    go_wp2
    go_ret2
    exact ⟨by rw [HVV.out.2 HNN.out];rfl,a4.out⟩
end Go.Proofs.YtokpblmgdmokoaaGreat
