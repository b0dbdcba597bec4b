import Derived.Test.YtokpblmgdmokoaaGreatAVChk
import Derived.Test.YtokpblmgdmokoaaGreatAVLook
set_option linter.unusedSimpArgs false
set_option linter.unusedVariables false
namespace Go.Proofs.YtokpblmgdmokoaaGreat
open Go.Lib (hid)
open Go.RowKit Go.Maps
structure Vw (w:World) (g:Nat) (ware:ByteArray) (lim by_:Int) (A:Option Addr) (n k:Nat) (ps:List Prt):Prop where
 mem:∃ bm,Vb w g ware lim by_ A n k (matAt ps n n 0) (some bm)∧OwnR w bm ps
 prt:RdP w A n k ps
 len:n≤40
 wf:∀ p∈ps,WfR (colR p)
section
variable {w w':World} {g:Nat} {ware:ByteArray} {lim by_:Int} {A:Option Addr} {n k:Nat} {ps:List Prt}
theorem Vw.keep (h:Vw w g ware lim by_ A n k ps) (hb:Below w.heap.size w w'):Vw w' g ware lim by_ A n k ps:=by
 obtain ⟨⟨bm,h1,h2⟩,h3,h4,h5⟩:=h
 exact ⟨⟨bm,h1.keep hb,h2.keep hb⟩,h3.below hb,h4,h5⟩
theorem Vw.alloc (h:Vw w g ware lim by_ A n k ps) (o:Obj):Vw (w.alloc o) g ware lim by_ A n k ps:=h.keep ((Below.refl _ w).alloc (Nat.le_refl _) o)
theorem Vw.drew (h:Vw w g ware lim by_ A n k ps):Vw w.drew g ware lim by_ A n k ps:=h.keep ((Below.refl _ w).drew)
theorem Vw.lt (h:Vw w g ware lim by_ A n k ps):g<w.heap.size:=by obtain ⟨_,h1,_⟩:=h.mem;exact Blk.lt h1
theorem Vw.cl (h:Vw w g ware lim by_ A n k ps) {a b:Nat} (ha:a<n) (hb:b<n):w.cell? ⟨g,4+a * 40+b,none⟩=some (.bool (clN ps a b)):=by
 obtain ⟨_,h1,_⟩:=h.mem
 have:=h.len
 rw [Vb.at h1 (by omega) (by omega)]
 have e:matAt ps n n 0 a b=clN ps a b:=by simp [matAt,ha,hb]
 rw [e]
theorem Vw.cells (h:Vw w g ware lim by_ A n k ps):w.cell? ⟨g,0,none⟩=some (.string ware)∧w.cell? ⟨g,1,none⟩=some (.int .i64 lim)∧w.cell? ⟨g,2,none⟩=some (.int .i64 by_)∧w.cell? ⟨g,3,none⟩=some (.slice A n k):=by
 obtain ⟨_,h1,_⟩:=h.mem
 exact ⟨(Blk.cell h1 0).trans rfl,(Blk.cell h1 1).trans rfl,(Blk.cell h1 2).trans rfl,(Blk.cell h1 3).trans rfl⟩
end
theorem vchk_is (ware:ByteArray) (lim by_:Int) (A:Option Addr) (n k:Nat) (ps:List Prt) (w:World) (hr:RdP w A n k ps) (hn:n≤maxLen) (q:Int) (hq:chkC ⟨ware,lim,by_,ps⟩=q):Calls Tryz.prog 26 #[.agg #[.string ware,.int .i64 lim,.int .i64 by_,.slice A n k]] w fun e w'=>e=.returned (.int .i64 q)∧Below w.heap.size w w':=by
 subst hq
 exact vchk_any ware lim by_ A n k ps w hr hn
theorem wfR_of {c:Cse} (h:chkC c=0):∀ p∈c.ps,WfR (colR p):=fun p hp=>by
 obtain ⟨-,-,-,-,-,h6,-⟩:=chkC_ok h
 obtain ⟨-,-,-,h1,h2,h3,-⟩:=prtB_ok (h6 p hp)
 exact ⟨wfI_of (by simp only [colR];omega),wfI_of (by simp only [colR];omega)⟩
set_option maxRecDepth 100000 in
set_option maxHeartbeats 4000000 in
theorem vof_ok (ware:ByteArray) (lim by_:Int) (A:Option Addr) (n k:Nat) (ps:List Prt) (B:Option Addr) (m d:Nat) (l:List Int) (w:World) (hr:RdP w A n k ps) (hl:RdI w B m d l) (hn:n≤maxLen) (hm:m≤maxLen) (hq:chkC ⟨ware,lim,by_,ps⟩=0) (hok:∀ x∈l,inR x 0 ((n:Int)-1)=true):Calls Tryz.prog 67 #[.agg #[.string ware,.int .i64 lim,.int .i64 by_,.slice A n k],.slice B m d] w fun e w'=>(∃ g,e=.returned (.tuple #[.pointer (some ⟨g,0,none⟩),.int .i64 0])∧Vw w' g ware lim by_ A n k ps)∧Below w.heap.size w w':=by
 have h40:n≤40:=by have:=(chkC_ok hq).1;rw [hr.len] at this;exact this
 have HWF:=hid (wfR_of hq)
 have HC0:=hid hq;have HOK:=hid hok;clear hq hok
 have hmn:=hm;unfold maxLen at hmn
 go_enter Tryz.func67,Tryz.ntmps67
 obtain ⟨a3,a1⟩:=ent1 w #[.string ware,.int .i64 lim,.int .i64 by_,.slice A n k] 24
 have a5:=hid (RdP.below (hr) a1.out)
 have a8:=iI hl a1
 clear hr hl
 obtain ⟨b8,c0,c1,c2⟩:=at4 a3
 have hc:=vchk_is ware lim by_ A n k ps ((w.alloc (.cells #[.string ware,.int .i64 lim,.int .i64 by_,.slice A n k] 24))) a5.out hn _ HC0.out
 have HC:=hid hc;clear hc
 go_wp2_with fail
 refine HC.out.mono ?_
 rintro e c8 ⟨rfl,hb⟩
 clear HC
 clear b8 c0 c1 c2
 have a4:=hid hb
 clear hb
 replace a3:=kH a3 a4
 obtain ⟨b4,b5,b6,b7⟩:=at4 a3
 go_wp2
 clear b4 b5 b6 b7
 replace a1:=bH a1 a4
 replace a5:=hid (RdP.below (a5.out) a4.out)
 replace a8:=iH a8 a4
 go_loopw [16] (fun i wr=>∃ q:Nat,q≤m∧i=.int .i64 q∧(∀ x∈l.take q,inR x 0 ((n:Int)-1)=true)∧Blk wr w.heap.size 24 #[.string ware,.int .i64 lim,.int .i64 by_,.slice A n k]∧RdI wr B m d l∧RdP wr A n k ps∧Below w.heap.size w wr) (fun i _=>m-(intOf i).toNat)
 case atStart=>exact ⟨0,Nat.zero_le _,rfl,by simp,a3.out,a8.out,a5.out,a1.out⟩
 case round =>
  clear a1 a5 a8 a3
  obtain ⟨q,hq,rfl,hall,hbc,hrb,hrp,hbe⟩:=hrel
  have HALL:=hid hall;clear hall
  have a2:=hid (hbe)
  have a6:=hid (hbc)
  have a7:=hid (hrb)
  have a0:=hid (hrp)
  clear hbe hbc hrb hrp
  by_cases hlt:q<m
  · have hlt':(q:Int)<m:=by omega
    obtain ⟨b9,o9,v,rfl,hb9,hv,e0⟩:=RdI.get a7.out hlt
    have HV:=hid hv;clear hv
    obtain ⟨c3,c4,c5,c6⟩:=at4 a6
    cases hin:inR v 0 ((n:Int)-1)
    · have HIN:=hid hin;clear hin
      have HC:=hid (vwithin_is v 0 ((n:Int)-1) _ HIN.out wr)
      go_wp2_with fail
      refine HC.out.mono ?_
      rintro e _ ⟨rfl,rfl⟩
      clear HC
      exact absurd (HOK.out v (List.mem_of_getElem? HV.out)) (by rw [HIN.out];simp)
    · have HIN:=hid hin;clear hin
      have HC:=hid (vwithin_is v 0 ((n:Int)-1) _ HIN.out wr)
      go_wp2_with fail
      refine HC.out.mono ?_
      rintro e _ ⟨rfl,rfl⟩
      clear HC
      go_wp2
      go_roundw
      case rel=>exact ⟨q+1,by omega,by go_num,by rw [List.take_add_one,HV.out];intro z hz;rcases List.mem_append.1 hz with hz|hz;exact HALL.out z hz;obtain rfl:=List.mem_singleton.1 hz;exact HIN.out,a6.out,a7.out,a0.out,a2.out⟩
      case measure=>simp [intOf];omega
  · obtain rfl:q=m:=by omega
    have hln:=a7.out.len
    have HA2:=hid (show ∀ x∈l,inR x 0 ((n:Int)-1)=true by have:=HALL.out;rwa [List.take_of_length_le (by omega)] at this)
    clear hln HALL
    obtain ⟨b0,b1,b2,b3⟩:=at4 a6
    have hc:=look_any ware lim by_ A n k ps (wr) a0.out h40 HWF.out
    have HC:=hid hc;clear hc
    go_wp2_with fail
    refine HC.out.mono ?_
    rintro e c7 ⟨⟨g,bm,rfl,hv1,ho1⟩,hb⟩
    clear HC
    clear b0 b1 b2 b3
    have a9:=hid hb
    clear hb
    have HV1:=hid hv1;have HO1:=hid ho1;clear hv1 ho1
    go_wp2
    go_ret2
    replace a0:=hid (RdP.below (a0.out) a9.out)
    replace a2:=bH a2 a9
    exact ⟨⟨g,rfl,⟨⟨bm,HV1.out,HO1.out⟩,a0.out,h40,HWF.out⟩⟩,a2.out⟩
theorem askP_ok {c:Cse} {l:List Int} (h:askP c l=0):chkC c=0∧∀ x∈l,inR x 0 ((c.ps.length:Int)-1)=true:=by
 unfold askP at h
 split at h
 · rename_i h1;exact absurd h h1
 · rename_i h1
   split at h
   · rename_i h2;exact ⟨by simpa using h1,List.all_eq_true.1 h2⟩
   · cases h
theorem viewOf_yes (ware:ByteArray) (lim by_:Int) (A:Option Addr) (n k:Nat) (ps:List Prt) (B:Option Addr) (m d:Nat) (l:List Int) (w:World) (hr:RdP w A n k ps) (hl:RdI w B m d l) (hn:n≤maxLen) (hm:m≤maxLen) (hq:askP ⟨ware,lim,by_,ps⟩ l=0):Calls Tryz.prog 67 #[.agg #[.string ware,.int .i64 lim,.int .i64 by_,.slice A n k],.slice B m d] w fun e w'=>(∃ g,e=.returned (.tuple #[.pointer (some ⟨g,0,none⟩),.int .i64 0])∧Vw w' g ware lim by_ A n k ps)∧Below w.heap.size w w':=by
 obtain ⟨h1,h3⟩:=askP_ok hq
 exact vof_ok ware lim by_ A n k ps B m d l w hr hl hn hm h1 (by have:=hr.len;simp only [this] at h3;exact h3)
end Go.Proofs.YtokpblmgdmokoaaGreat
