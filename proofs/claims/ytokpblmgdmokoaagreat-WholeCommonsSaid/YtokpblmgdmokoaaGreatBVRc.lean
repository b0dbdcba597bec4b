import Derived.Test.YtokpblmgdmokoaaGreatBVRa
import Derived.Test.YtokpblmgdmokoaaGreatAVChk
set_option maxHeartbeats 4000000
set_option linter.unusedSimpArgs false
set_option linter.unusedVariables false
namespace Go.Proofs.YtokpblmgdmokoaaGreat
open Go.Lib (hid)
open Go.RowKit
theorem prtB_eq2 (sh rs:List Int) (lo hi lb hb fb:Int) (ft:Bool):prtB ⟨sh,lo,hi,lb,hb,ft,fb,rs⟩=(!decide ((sh.length:Int)<1)&&!decide ((40:Int)<sh.length)&&!decide ((200:Int)<rs.length)&&ascN sh 1 1000000&&ascN rs 1 1000000&&!decide (lo<0)&&!decide (hi<lo)&&!decide ((1000:Int)<hi) &&
 byB lb (lo != 0)&&byB hb (hi != 1000)&&byB fb ft):=by
 rw [prtB_eq]
 have n1:∀ a b:Int,(!decide (a<b))=decide (b≤a):=fun a b=>by rw [← decide_not];exact decide_eq_decide.2 Int.not_lt
 simp only [inR,n1]
 generalize ascN sh 1 1000000=a1
 generalize ascN rs 1 1000000=a2
 generalize byB lb (lo != 0)=a3
 generalize byB hb (hi != 1000)=a4
 generalize byB fb ft=a5
 generalize decide ((rs.length:Int)≤200)=a6
 generalize decide (1≤(sh.length:Int))=a7
 generalize decide ((sh.length:Int)≤40)=a8
 generalize decide (0≤lo)=a9
 generalize decide (lo≤hi)=a10
 generalize decide (hi≤1000)=a11
 cases a1<;>cases a2<;>cases a6<;>simp
set_option maxRecDepth 100000 in
theorem xpart_any (A B:Option Addr) (n c m d:Nat) (sh rs:List Int) (lo hi lb hb fb:Int) (ft:Bool) (w:World) (hr:RdI w A n c sh) (hs:RdI w B m d rs) (hn:n≤maxLen) (hm:m≤maxLen):Calls Tryz.prog 80 #[.agg #[.slice A n c,.int .i64 lo,.int .i64 hi,.int .i64 lb,.int .i64 hb,.bool ft,.int .i64 fb,.slice B m d]] w fun e w'=>e=.returned (.bool (prtB ⟨sh,lo,hi,lb,hb,ft,fb,rs⟩))∧Below w.heap.size w w':=by
 have HL:=hid hr.len;have HM:=hid hs.len
 go_enter Tryz.func80,Tryz.ntmps80
 obtain ⟨a3,a0⟩:=ent1 w #[.slice A n c,.int .i64 lo,.int .i64 hi,.int .i64 lb,.int .i64 hb,.bool ft,.int .i64 fb,.slice B m d] 48
 have b5:=iI hr a0
 have a5:=iI hs a0
 clear hr hs
 obtain ⟨c7,c8,c9,d0,d1,b6,b7,b8⟩:=at8 a3
 by_cases h0:(n:Int)<1
 · have K0:=hid h0
   go_wp2
   go_ret
   exact ⟨ret_bool (by rw [prtB_eq2,HL.out,HM.out];simp only [show decide ((n:Int)<1)=true from decide_eq_true (by have:=K0.out;omega),Bool.not_true,Bool.not_false,Bool.and_true,Bool.true_and,Bool.and_false,Bool.false_and]),a0.out⟩
 · have K0:=hid h0
   by_cases h1:(40:Int)<n
   · have K1:=hid h1
     go_wp2
     go_ret
     exact ⟨ret_bool (by rw [prtB_eq2,HL.out,HM.out];simp only [show decide ((n:Int)<1)=false from decide_eq_false (by have:=K0.out;omega),show decide ((40:Int)<n)=true from decide_eq_true (by have:=K1.out;omega),Bool.not_true,Bool.not_false,Bool.and_true,Bool.true_and,Bool.and_false,Bool.false_and]),a0.out⟩
   · have K1:=hid h1
     by_cases h2:(200:Int)<m
     · have K2:=hid h2
       go_wp2
       go_ret
       exact ⟨ret_bool (by rw [prtB_eq2,HL.out,HM.out];simp only [show decide ((n:Int)<1)=false from decide_eq_false (by have:=K0.out;omega),show decide ((40:Int)<n)=false from decide_eq_false (by have:=K1.out;omega),show decide ((200:Int)<m)=true from decide_eq_true (by have:=K2.out;omega),Bool.not_true,Bool.not_false,Bool.and_true,Bool.true_and,Bool.and_false,Bool.false_and]),a0.out⟩
     · have K2:=hid h2
       cases h3:ascN sh 1 1000000
       · have K3:=hid h3;clear h3
         have hc:=xrising_is A n c sh ((w.alloc (.cells #[.slice A n c,.int .i64 lo,.int .i64 hi,.int .i64 lb,.int .i64 hb,.bool ft,.int .i64 fb,.slice B m d] 48))) b5.out hn _ K3.out
         have HC:=hid hc;clear hc
         go_wp2_with fail
         refine HC.out.mono ?_
         rintro e a6 ⟨rfl,hb⟩
         clear HC
         clear c7 c8 c9 d0 d1 b6 b7 b8
         have a1:=hid hb
         clear hb
         replace a3:=kH a3 a1
         obtain ⟨a7,a8,a9,b0,b1,b2,b3,b4⟩:=at8 a3
         go_wp2
         go_ret
         replace a0:=bH a0 a1
         exact ⟨ret_bool (by rw [prtB_eq2,HL.out,HM.out];simp only [show decide ((n:Int)<1)=false from decide_eq_false (by have:=K0.out;omega),show decide ((40:Int)<n)=false from decide_eq_false (by have:=K1.out;omega),show decide ((200:Int)<m)=false from decide_eq_false (by have:=K2.out;omega),K3.out,Bool.not_true,Bool.not_false,Bool.and_true,Bool.true_and,Bool.and_false,Bool.false_and]),a0.out⟩
       · have K3:=hid h3;clear h3
         have hc:=xrising_is A n c sh ((w.alloc (.cells #[.slice A n c,.int .i64 lo,.int .i64 hi,.int .i64 lb,.int .i64 hb,.bool ft,.int .i64 fb,.slice B m d] 48))) b5.out hn _ K3.out
         have HC:=hid hc;clear hc
         go_wp2_with fail
         refine HC.out.mono ?_
         rintro e a6 ⟨rfl,hb⟩
         clear HC
         clear c7 c8 c9 d0 d1 b6 b7 b8
         have a1:=hid hb
         clear hb
         replace a3:=kH a3 a1
         obtain ⟨a7,a8,a9,b0,b1,b2,b3,b4⟩:=at8 a3
         cases h4:ascN rs 1 1000000
         · have K4:=hid h4;clear h4
           replace a5:=iH a5 a1
           have hc:=xrising_is B m d rs (a6) a5.out hm _ K4.out
           have HC:=hid hc;clear hc
           go_wp2_with fail
           refine HC.out.mono ?_
           rintro e a4 ⟨rfl,hb⟩
           clear HC
           clear a7 a8 a9 b0 b1 b2 b3 b4
           have a2:=hid hb
           clear hb
           replace a3:=kH a3 a2
           obtain ⟨b9,c0,c1,c2,c3,c4,c5,c6⟩:=at8 a3
           go_wp2
           go_ret
           replace a0:=bH (bH a0 a1) a2
           exact ⟨ret_bool (by rw [prtB_eq2,HL.out,HM.out];simp only [show decide ((n:Int)<1)=false from decide_eq_false (by have:=K0.out;omega),show decide ((40:Int)<n)=false from decide_eq_false (by have:=K1.out;omega),show decide ((200:Int)<m)=false from decide_eq_false (by have:=K2.out;omega),K3.out,K4.out,Bool.not_true,Bool.not_false,Bool.and_true,Bool.true_and,Bool.and_false,Bool.false_and]),a0.out⟩
         · have K4:=hid h4;clear h4
           replace a5:=iH a5 a1
           have hc:=xrising_is B m d rs (a6) a5.out hm _ K4.out
           have HC:=hid hc;clear hc
           go_wp2_with fail
           refine HC.out.mono ?_
           rintro e a4 ⟨rfl,hb⟩
           clear HC
           clear a7 a8 a9 b0 b1 b2 b3 b4
           have a2:=hid hb
           clear hb
           replace a3:=kH a3 a2
           obtain ⟨b9,c0,c1,c2,c3,c4,c5,c6⟩:=at8 a3
           by_cases h5:lo<0
           · have K5:=hid h5
             go_wp2
             go_ret
             replace a0:=bH (bH a0 a1) a2
             exact ⟨ret_bool (by rw [prtB_eq2,HL.out,HM.out];simp only [show decide ((n:Int)<1)=false from decide_eq_false (by have:=K0.out;omega),show decide ((40:Int)<n)=false from decide_eq_false (by have:=K1.out;omega),show decide ((200:Int)<m)=false from decide_eq_false (by have:=K2.out;omega),K3.out,K4.out,show decide (lo<0)=true from decide_eq_true (by have:=K5.out;omega),Bool.not_true,Bool.not_false,Bool.and_true,Bool.true_and,Bool.and_false,Bool.false_and]),a0.out⟩
           · have K5:=hid h5
             by_cases h6:hi<lo
             · have K6:=hid h6
               go_wp2
               go_ret
               replace a0:=bH (bH a0 a1) a2
               exact ⟨ret_bool (by rw [prtB_eq2,HL.out,HM.out];simp only [show decide ((n:Int)<1)=false from decide_eq_false (by have:=K0.out;omega),show decide ((40:Int)<n)=false from decide_eq_false (by have:=K1.out;omega),show decide ((200:Int)<m)=false from decide_eq_false (by have:=K2.out;omega),K3.out,K4.out,show decide (lo<0)=false from decide_eq_false (by have:=K5.out;omega),show decide (hi<lo)=true from decide_eq_true (by have:=K6.out;omega),Bool.not_true,Bool.not_false,Bool.and_true,Bool.true_and,Bool.and_false,Bool.false_and]),a0.out⟩
             · have K6:=hid h6
               by_cases h7:(1000:Int)<hi
               · have K7:=hid h7
                 go_wp2
                 go_ret
                 replace a0:=bH (bH a0 a1) a2
                 exact ⟨ret_bool (by rw [prtB_eq2,HL.out,HM.out];simp only [show decide ((n:Int)<1)=false from decide_eq_false (by have:=K0.out;omega),show decide ((40:Int)<n)=false from decide_eq_false (by have:=K1.out;omega),show decide ((200:Int)<m)=false from decide_eq_false (by have:=K2.out;omega),K3.out,K4.out,show decide (lo<0)=false from decide_eq_false (by have:=K5.out;omega),show decide (hi<lo)=false from decide_eq_false (by have:=K6.out;omega),show decide ((1000:Int)<hi)=true from decide_eq_true (by have:=K7.out;omega),Bool.not_true,Bool.not_false,Bool.and_true,Bool.true_and,Bool.and_false,Bool.false_and]),a0.out⟩
               · have K7:=hid h7
                 cases h8:byB lb (lo != 0)
                 · have K8:=hid h8;clear h8
                   have HC:=hid (xby_is lb (lo == 0) _ K8.out (a4))
                   go_wp2_with fail
                   refine HC.out.mono ?_
                   rintro e _ ⟨rfl,rfl⟩
                   clear HC
                   go_wp2
                   go_ret
                   replace a0:=bH (bH a0 a1) a2
                   exact ⟨ret_bool (by rw [prtB_eq2,HL.out,HM.out];simp only [show decide ((n:Int)<1)=false from decide_eq_false (by have:=K0.out;omega),show decide ((40:Int)<n)=false from decide_eq_false (by have:=K1.out;omega),show decide ((200:Int)<m)=false from decide_eq_false (by have:=K2.out;omega),K3.out,K4.out,show decide (lo<0)=false from decide_eq_false (by have:=K5.out;omega),show decide (hi<lo)=false from decide_eq_false (by have:=K6.out;omega),show decide ((1000:Int)<hi)=false from decide_eq_false (by have:=K7.out;omega),K8.out,Bool.not_true,Bool.not_false,Bool.and_true,Bool.true_and,Bool.and_false,Bool.false_and]),a0.out⟩
                 · have K8:=hid h8;clear h8
                   have HC:=hid (xby_is lb (lo == 0) _ K8.out (a4))
                   go_wp2_with fail
                   refine HC.out.mono ?_
                   rintro e _ ⟨rfl,rfl⟩
                   clear HC
                   cases h9:byB hb (hi != 1000)
                   · have K9:=hid h9;clear h9
                     have HC:=hid (xby_is hb (hi == 1000) _ K9.out (a4))
                     go_wp2_with fail
                     refine HC.out.mono ?_
                     rintro e _ ⟨rfl,rfl⟩
                     clear HC
                     go_wp2
                     go_ret
                     replace a0:=bH (bH a0 a1) a2
                     exact ⟨ret_bool (by rw [prtB_eq2,HL.out,HM.out];simp only [show decide ((n:Int)<1)=false from decide_eq_false (by have:=K0.out;omega),show decide ((40:Int)<n)=false from decide_eq_false (by have:=K1.out;omega),show decide ((200:Int)<m)=false from decide_eq_false (by have:=K2.out;omega),K3.out,K4.out,show decide (lo<0)=false from decide_eq_false (by have:=K5.out;omega),show decide (hi<lo)=false from decide_eq_false (by have:=K6.out;omega),show decide ((1000:Int)<hi)=false from decide_eq_false (by have:=K7.out;omega),K8.out,K9.out,Bool.not_true,Bool.not_false,Bool.and_true,Bool.true_and,Bool.and_false,Bool.false_and]),a0.out⟩
                   · have K9:=hid h9;clear h9
                     have HC:=hid (xby_is hb (hi == 1000) _ K9.out (a4))
                     go_wp2_with fail
                     refine HC.out.mono ?_
                     rintro e _ ⟨rfl,rfl⟩
                     clear HC
                     cases h10:byB fb ft
                     · have K10:=hid h10;clear h10
                       have HC:=hid (xby_is fb (!ft) false (by rw [Bool.not_not];exact K10.out) (a4))
                       go_wp2_with fail
                       refine HC.out.mono ?_
                       rintro e _ ⟨rfl,rfl⟩
                       clear HC
                       go_wp2
                       go_ret
                       replace a0:=bH (bH a0 a1) a2
                       exact ⟨ret_bool (by rw [prtB_eq2,HL.out,HM.out];simp only [show decide ((n:Int)<1)=false from decide_eq_false (by have:=K0.out;omega),show decide ((40:Int)<n)=false from decide_eq_false (by have:=K1.out;omega),show decide ((200:Int)<m)=false from decide_eq_false (by have:=K2.out;omega),K3.out,K4.out,show decide (lo<0)=false from decide_eq_false (by have:=K5.out;omega),show decide (hi<lo)=false from decide_eq_false (by have:=K6.out;omega),show decide ((1000:Int)<hi)=false from decide_eq_false (by have:=K7.out;omega),K8.out,K9.out,K10.out,Bool.not_true,Bool.not_false,Bool.and_true,Bool.true_and,Bool.and_false,Bool.false_and]),a0.out⟩
                     · have K10:=hid h10;clear h10
                       have HC:=hid (xby_is fb (!ft) true (by rw [Bool.not_not];exact K10.out) (a4))
                       go_wp2_with fail
                       refine HC.out.mono ?_
                       rintro e _ ⟨rfl,rfl⟩
                       clear HC
                       go_wp2
                       go_ret
                       replace a0:=bH (bH a0 a1) a2
                       exact ⟨ret_bool (by rw [prtB_eq2,HL.out,HM.out];simp only [show decide ((n:Int)<1)=false from decide_eq_false (by have:=K0.out;omega),show decide ((40:Int)<n)=false from decide_eq_false (by have:=K1.out;omega),show decide ((200:Int)<m)=false from decide_eq_false (by have:=K2.out;omega),K3.out,K4.out,show decide (lo<0)=false from decide_eq_false (by have:=K5.out;omega),show decide (hi<lo)=false from decide_eq_false (by have:=K6.out;omega),show decide ((1000:Int)<hi)=false from decide_eq_false (by have:=K7.out;omega),K8.out,K9.out,K10.out,Bool.not_true,Bool.not_false,Bool.and_true,Bool.true_and,Bool.and_false,Bool.false_and]),a0.out⟩
theorem xpart_is (A B:Option Addr) (n c m d:Nat) (sh rs:List Int) (lo hi lb hb fb:Int) (ft:Bool) (w:World) (hr:RdI w A n c sh) (hs:RdI w B m d rs) (hn:n≤maxLen) (hm:m≤maxLen) (b:Bool) (hp:prtB ⟨sh,lo,hi,lb,hb,ft,fb,rs⟩=b):Calls Tryz.prog 80 #[.agg #[.slice A n c,.int .i64 lo,.int .i64 hi,.int .i64 lb,.int .i64 hb,.bool ft,.int .i64 fb,.slice B m d]] w fun e w'=>e=.returned (.bool b)∧Below w.heap.size w w':=by
 subst hp
 exact xpart_any A B n c m d sh rs lo hi lb hb fb ft w hr hs hn hm
theorem asc_nodup {l:List Int} {lo hi:Int} (h:ascN l lo hi=true):l.Nodup:=by
 induction l generalizing lo with
 | nil=>exact List.nodup_nil
 | cons n l ih =>
  simp only [ascN,Bool.and_eq_true] at h
  refine List.nodup_cons.2 ⟨fun hm=>?_,ih h.2⟩
  have:=(ascN_mem h.2 n hm).1
  omega
theorem nodup_sh {p:Prt} (h:prtB p=true):p.sh.Nodup:=asc_nodup (prtB_ok h).2.2.2.2.2.2.1
theorem nodup_join {a b:List Int} (ha:a.Nodup) (hb:b.Nodup) (h:∀ v∈a,v ∉ b):(a++b).Nodup:=by
 rw [List.nodup_append]
 exact ⟨ha,hb,fun x hx y hy e=>h x hx (e ▸ hy)⟩
theorem goodP_two {ps:List Prt} {q j:Nat} {p p2:Prt} {v:Int} (h:ps[q]?=some p) (h2:ps[j]?=some p2) (hlt:j<q) (hv:v∈p.sh) (hv2:v∈p2.sh):goodP ps=false:=by
 obtain ⟨m,hm⟩:=List.getElem?_of_mem hv
 refine goodP_dup h hm (List.mem_append_left _ ?_)
 unfold idsP
 refine List.mem_flatMap.2 ⟨p2,?_,hv2⟩
 have:(ps.take q)[j]?=some p2:=by rw [List.getElem?_take_of_lt hlt];exact h2
 exact List.mem_of_getElem? this
set_option maxRecDepth 100000 in
theorem xchk_any (ware:ByteArray) (lim by_:Int) (A:Option Addr) (n k:Nat) (ps:List Prt) (w:World) (hr:RdP w A n k ps) (hn:n≤maxLen):Calls Tryz.prog 27 #[.agg #[.string ware,.int .i64 lim,.int .i64 by_,.slice A n k]] w fun e w'=>e=.returned (.int .i64 (chkC ⟨ware,lim,by_,ps⟩))∧Below w.heap.size w w':=by
 have hl:=hr.len
 have HR:=hid hr;clear hr
 obtain ⟨r,hr⟩:∃ r,chkC ⟨ware,lim,by_,ps⟩=r:=⟨_,rfl⟩
 unfold chkC at hr
 dsimp only at hr
 unfold maxLen at hn
 by_cases h40:40<n
 · rw [if_pos (by omega)] at hr
   subst hr
   have h40':(40:Int)<n:=by omega
   have HQ:=hid (show chkC ⟨ware,lim,by_,ps⟩=2 by unfold chkC;dsimp only;rw [if_pos (by omega)])
   go_enter Tryz.func27,Tryz.ntmps27
   obtain ⟨a5,a4⟩:=ent1 w #[.string ware,.int .i64 lim,.int .i64 by_,.slice A n k] 24
   obtain ⟨b0,b1,b2,b3⟩:=at4 a5
   go_wp2
   go_ret
   exact ⟨ret_int (by rw [HQ.out]),a4.out⟩
 · rw [if_neg (by omega)] at hr
   have h40':¬ (40:Int)<n:=by omega
   cases hb0:nameB ware
   · have HB0:=hid hb0
     have HQ:=hid (show chkC ⟨ware,lim,by_,ps⟩=1 by unfold chkC;dsimp only;rw [if_neg (by omega),hb0];rfl)
     clear hb0 hr
     go_enter Tryz.func27,Tryz.ntmps27
     obtain ⟨a5,a4⟩:=ent1 w #[.string ware,.int .i64 lim,.int .i64 by_,.slice A n k] 24
     obtain ⟨b0,b1,b2,b3⟩:=at4 a5
     have HC:=hid (xName_is ware _ HB0.out ((w.alloc (.cells #[.string ware,.int .i64 lim,.int .i64 by_,.slice A n k] 24))))
     go_wp2_with fail
     refine HC.out.mono ?_
     rintro e _ ⟨rfl,rfl⟩
     clear HC
     go_wp2
     go_ret
     exact ⟨ret_int (by rw [HQ.out]),a4.out⟩
   · cases hb1:inR lim 0 40
     · have HB0:=hid hb0;have HB1:=hid hb1
       have HQ:=hid (show chkC ⟨ware,lim,by_,ps⟩=1 by unfold chkC;dsimp only;rw [if_neg (by omega),hb0,hb1];rfl)
       clear hb0 hb1 hr
       go_enter Tryz.func27,Tryz.ntmps27
       obtain ⟨a5,a4⟩:=ent1 w #[.string ware,.int .i64 lim,.int .i64 by_,.slice A n k] 24
       obtain ⟨b0,b1,b2,b3⟩:=at4 a5
       have HC:=hid (xName_is ware _ HB0.out ((w.alloc (.cells #[.string ware,.int .i64 lim,.int .i64 by_,.slice A n k] 24))))
       go_wp2_with fail
       refine HC.out.mono ?_
       rintro e _ ⟨rfl,rfl⟩
       clear HC
       have HC:=hid (xwithin_is lim 0 40 _ HB1.out ((w.alloc (.cells #[.string ware,.int .i64 lim,.int .i64 by_,.slice A n k] 24))))
       go_wp2_with fail
       refine HC.out.mono ?_
       rintro e _ ⟨rfl,rfl⟩
       clear HC
       go_wp2
       go_ret
       exact ⟨ret_int (by rw [HQ.out]),a4.out⟩
     · cases hb2:byB by_ (lim != 0)
       · have HB0:=hid hb0;have HB1:=hid hb1;have HB2:=hid hb2
         have HQ:=hid (show chkC ⟨ware,lim,by_,ps⟩=1 by unfold chkC;dsimp only;rw [if_neg (by omega),hb0,hb1,hb2];rfl)
         clear hb0 hb1 hb2 hr
         go_enter Tryz.func27,Tryz.ntmps27
         obtain ⟨a5,a4⟩:=ent1 w #[.string ware,.int .i64 lim,.int .i64 by_,.slice A n k] 24
         obtain ⟨b0,b1,b2,b3⟩:=at4 a5
         have HC:=hid (xName_is ware _ HB0.out ((w.alloc (.cells #[.string ware,.int .i64 lim,.int .i64 by_,.slice A n k] 24))))
         go_wp2_with fail
         refine HC.out.mono ?_
         rintro e _ ⟨rfl,rfl⟩
         clear HC
         have HC:=hid (xwithin_is lim 0 40 _ HB1.out ((w.alloc (.cells #[.string ware,.int .i64 lim,.int .i64 by_,.slice A n k] 24))))
         go_wp2_with fail
         refine HC.out.mono ?_
         rintro e _ ⟨rfl,rfl⟩
         clear HC
         have HC:=hid (xby_is by_ (lim == 0) _ HB2.out ((w.alloc (.cells #[.string ware,.int .i64 lim,.int .i64 by_,.slice A n k] 24))))
         go_wp2_with fail
         refine HC.out.mono ?_
         rintro e _ ⟨rfl,rfl⟩
         clear HC
         go_wp2
         go_ret
         exact ⟨ret_int (by rw [HQ.out]),a4.out⟩
       · have HB0:=hid hb0;have HB1:=hid hb1;have HB2:=hid hb2
         have HQ:=hid (show chkC ⟨ware,lim,by_,ps⟩=if goodP ps then 0 else 1 by unfold chkC;dsimp only;rw [if_neg (by omega),hb0,hb1,hb2];rfl)
         clear hb0 hb1 hb2 hr hl
         go_enter Tryz.func27,Tryz.ntmps27
         obtain ⟨a5,a4⟩:=ent1 w #[.string ware,.int .i64 lim,.int .i64 by_,.slice A n k] 24
         obtain ⟨b0,b1,b2,b3⟩:=at4 a5
         have HC:=hid (xName_is ware _ HB0.out ((w.alloc (.cells #[.string ware,.int .i64 lim,.int .i64 by_,.slice A n k] 24))))
         go_wp2_with fail
         refine HC.out.mono ?_
         rintro e _ ⟨rfl,rfl⟩
         clear HC
         have HC:=hid (xwithin_is lim 0 40 _ HB1.out ((w.alloc (.cells #[.string ware,.int .i64 lim,.int .i64 by_,.slice A n k] 24))))
         go_wp2_with fail
         refine HC.out.mono ?_
         rintro e _ ⟨rfl,rfl⟩
         clear HC
         have HC:=hid (xby_is by_ (lim == 0) _ HB2.out ((w.alloc (.cells #[.string ware,.int .i64 lim,.int .i64 by_,.slice A n k] 24))))
         go_wp2_with fail
         refine HC.out.mono ?_
         rintro e _ ⟨rfl,rfl⟩
         clear HC
         go_wp2
         clear b0 b1 b2 b3
         go_loopw [3] (fun i wr=>∃ q:Nat,q≤n∧i=.int .i64 q∧(∀ p∈ps.take q,prtB p=true)∧(idsP (ps.take q)).Nodup∧Blk wr w.heap.size 24 #[.string ware,.int .i64 lim,.int .i64 by_,.slice A n k]∧Below w.heap.size w wr) (fun i _=>n-(intOf i).toNat)
         case atStart=>exact ⟨0,Nat.zero_le _,rfl,by simp,List.nodup_nil,a5.out,a4.out⟩
         case round =>
          clear a4 a5
          obtain ⟨q,hq,rfl,hall,hnd,hbc,hbe⟩:=hrel
          have HALL:=hid hall;have HND:=hid hnd;clear hall hnd
          obtain ⟨wa,rfl⟩:∃ v,v=wr:=⟨wr,rfl⟩
          have a3:=hid (hbc)
          have a2:=hid (hbe)
          clear hbc hbe
          by_cases hlt:q<n
          · have hlt':(q:Int)<n:=by omega
            obtain ⟨b,o,p,x,rfl,hbw,hx,hok,g0,g1,g2,g3,g4,g5,g6,g7⟩:=RdP.get HR.out hlt
            obtain ⟨b6,b7,b8,c8⟩:=at4 a3
            have c0:=(Below.cell a2.out (p:=⟨b,_,none⟩) hbw).trans g0
            have c1:=(Below.cell a2.out (p:=⟨b,_,none⟩) hbw).trans g1
            have c2:=(Below.cell a2.out (p:=⟨b,_,none⟩) hbw).trans g2
            have c3:=(Below.cell a2.out (p:=⟨b,_,none⟩) hbw).trans g3
            have c4:=(Below.cell a2.out (p:=⟨b,_,none⟩) hbw).trans g4
            have c5:=(Below.cell a2.out (p:=⟨b,_,none⟩) hbw).trans g5
            have c6:=(Below.cell a2.out (p:=⟨b,_,none⟩) hbw).trans g6
            have c7:=(Below.cell a2.out (p:=⟨b,_,none⟩) hbw).trans g7
            have hbw2:b<wa.heap.size:=Nat.lt_of_lt_of_le hbw (Below.size a2.out)
            have HBW:=hid hbw;have G0:=hid g0;clear g0 g1 g2 g3 g4 g5 g6 g7
            obtain ⟨o1,o2,o3,o4⟩:=hok
            have SA:=hid o1;have SB:=hid o2;clear o1 o2
            have O3:=hid o3;have O4:=hid o4;unfold maxLen at o3 o4
            have htk:ps.take (q+1)=ps.take q++[p]:=by rw [List.take_add_one,hx];rfl
            have HX:=hid hx;have HTK:=hid htk;clear hx htk
            cases hpb:prtB p
            · have HPB:=hid hpb;clear hpb
              have hc:=xpart_is x.A x.B x.n x.c x.m x.d p.sh p.rs p.lo p.hi p.lb p.hb p.fb p.ft (wa) (SA.out.below a2.out) (SB.out.below a2.out) O3.out O4.out _ HPB.out
              have HC:=hid hc;clear hc
              go_wp2_with fail
              refine HC.out.mono ?_
              rintro e h4 ⟨rfl,hb⟩
              clear HC
              clear b6 b7 b8 c8
              have b4:=hid hb
              clear hb
              replace a3:=kH a3 b4
              obtain ⟨h5,h6,h7,h8⟩:=at4 a3
              go_wp2
              go_ret
              replace a2:=bH a2 b4
              exact ⟨ret_int (by rw [HQ.out,goodP_bad HX.out HPB.out];rfl),a2.out⟩
            · have HPB:=hid hpb;clear hpb
              have hc:=xpart_is x.A x.B x.n x.c x.m x.d p.sh p.rs p.lo p.hi p.lb p.hb p.fb p.ft (wa) (SA.out.below a2.out) (SB.out.below a2.out) O3.out O4.out _ HPB.out
              have HC:=hid hc;clear hc
              go_wp2_with fail
              refine HC.out.mono ?_
              rintro e h9 ⟨rfl,hb⟩
              clear HC
              clear b6 b7 b8 c8
              have b5:=hid hb
              clear hb
              replace a3:=kH a3 b5
              obtain ⟨d9,e1,e2,e3⟩:=at4 a3
              clear c0 c1 c2 c3 c4 c5 c6 c7 hbw2
              go_wp2
              clear d9 e1 e2 e3
              replace a2:=bH a2 b5
              go_loopw [4] (fun i wr=>∃ k':Nat,k'≤q∧i=.int .i64 k'∧(∀ v∈idsP (ps.take k'),v ∉ p.sh)∧Blk wr w.heap.size 24 #[.string ware,.int .i64 lim,.int .i64 by_,.slice (some ⟨b,o,none⟩) n k]∧Below w.heap.size w wr) (fun i _=>q-(intOf i).toNat)
              case atStart=>exact ⟨0,Nat.zero_le _,rfl,by simp [idsP],a3.out,a2.out⟩
              case round =>
               clear a3 a2
               obtain ⟨j,hj,rfl,hno,hbc,hbe⟩:=hrel
               have HNO:=hid hno;clear hno
               obtain ⟨wb,rfl⟩:∃ v,v=wr:=⟨wr,rfl⟩
               have a6:=hid (hbc)
               have a7:=hid (hbe)
               clear hbc hbe
               by_cases hjt:j<q
               · have hjt':(j:Int)<q:=by omega
                 have hjn:(j:Int)<n:=by omega
                 obtain ⟨p2,x2,hbw3,hx2,hok2,g0,-,-,-,-,-,-,-⟩:=RdP.at HR.out (k:=j) (by omega)
                 clear hbw3
                 obtain ⟨o1,-,o3,-⟩:=hok2
                 have S2:=hid o1;have O32:=hid o3;unfold maxLen at o3;clear o1
                 have HX2:=hid hx2;have G20:=hid g0;clear hx2 g0
                 have HT2:=hid (show ps.take (j+1)=ps.take j++[p2] by rw [List.take_add_one,HX2.out];rfl)
                 obtain ⟨e4,e5,e6,e7⟩:=at4 a6
                 go_wp2
                 clear e4 e5 e6 e7
                 go_loopw [5] (fun i wr=>∃ m:Nat,m≤x2.n∧i=.int .i64 m∧(∀ v∈idsP (ps.take j)++p2.sh.take m,v ∉ p.sh)∧Blk wr w.heap.size 24 #[.string ware,.int .i64 lim,.int .i64 by_,.slice (some ⟨b,o,none⟩) n k]∧Below w.heap.size w wr) (fun i _=>x2.n-(intOf i).toNat)
                 case atStart=>exact ⟨0,Nat.zero_le _,rfl,by simpa using HNO.out,a6.out,a7.out⟩
                 case round =>
                  clear a6 a7
                  obtain ⟨m,hm,rfl,hno,hbc,hbe⟩:=hrel
                  have HNM:=hid hno;clear hno
                  have a1:=hid (hbc)
                  have a0:=hid (hbe)
                  clear hbc hbe
                  have c20:=(Below.cell a0.out (p:=⟨b,_,none⟩) HBW.out).trans G20.out
                  by_cases hmt:m<x2.n
                  · have hmt':(m:Int)<x2.n:=by omega
                    obtain ⟨b9,o9,v,hxa,hb9,hv,e0⟩:=RdI.get S2.out hmt
                    have G21:=hid (show w.cell? ⟨b,o+j * 8,none⟩=some (.slice (some ⟨b9,o9,none⟩) x2.n x2.c) by rw [G20.out,hxa])
                    have HV:=hid hv;have HB9:=hid hb9;have E0:=hid e0;clear hv hb9 e0 hxa
                    have HTS:=hid (show p2.sh.take (m+1)=p2.sh.take m++[v] by rw [List.take_add_one,HV.out];rfl)
                    obtain ⟨e8,e9,f0,f1⟩:=at4 a1
                    go_wp2
                    clear e8 e9 f0 f1
                    clear c20
                    by_cases hin:v∈p.sh
                    · have HIN:=hid hin;have HD:=hid (show decide (v∈p.sh)=true from decide_eq_true hin);clear hin
                      replace a1:=kD a1
                      replace a0:=bD a0
                      refine wp_region_held_drew (S:=(fun W'=>Blk W' (w.heap.size) 24 #[.string ware,.int .i64 lim,.int .i64 by_,.slice (some ⟨b,o,none⟩) n k]∧Below w.heap.size w W')) (by kernel_rfl) ⟨a1.out,a0.out⟩ (fun _=>?_)
                      obtain ⟨f2,a8⟩:∃ w',w'=(wr.drew):=⟨_,rfl⟩
                      rw [← a8] at a1 a0
                      rw [← a8]
                      clear a8
                      refine' twH 0 ⟨a1.out,a0.out⟩ ?_
                      refine' tkH 1 ⟨a1.out,a0.out⟩ ?c9 ?_
                      case c9=>(rintro W' ⟨hS0,hS1⟩;have hc0:=Blk.nth hS0 3;clear hS0 hS1;go_simp;try with_reducible rfl)
                      refine' twH 2 ⟨a1.out,a0.out⟩ ?_
                      refine' twH 3 ⟨a1.out,a0.out⟩ ?_
                      try simp only [pq]
                      refine' twH 4 ⟨a1.out,a0.out⟩ ?_
                      refine' tkH 5 ⟨a1.out,a0.out⟩ ?d0 ?_
                      case d0=>(rintro W' ⟨hS0,hS1⟩;have hc0:=(Below.cell hS1 (p:=⟨b,_,none⟩) HBW.out).trans G0.out;clear hS0 hS1;go_simp;try with_reducible rfl)
                      refine' twH 6 ⟨a1.out,a0.out⟩ ?_
                      refine' tkH 7 ⟨a1.out,a0.out⟩ ?d1 ?_
                      case d1=>(rintro W' ⟨hS0,hS1⟩;have hc0:=Blk.nth hS0 3;clear hS0 hS1;go_simp;try with_reducible rfl)
                      try simp only [pq]
                      refine' twH 8 ⟨a1.out,a0.out⟩ ?_
                      refine' twH 9 ⟨a1.out,a0.out⟩ ?_
                      refine' twH 10 ⟨a1.out,a0.out⟩ ?_
                      refine' tkH 11 ⟨a1.out,a0.out⟩ ?d2 ?_
                      case d2=>(rintro W' ⟨hS0,hS1⟩;have hc0:=(Below.cell hS1 (p:=⟨b,_,none⟩) HBW.out).trans G21.out;clear hS0 hS1;go_simp;try with_reducible rfl)
                      try simp only [pq]
                      refine' twH 12 ⟨a1.out,a0.out⟩ ?_
                      refine' twH 13 ⟨a1.out,a0.out⟩ ?_
                      refine' tkH 14 ⟨a1.out,a0.out⟩ ?d3 ?_
                      case d3=>(rintro W' ⟨hS0,hS1⟩;have hc0:=(Below.cell hS1 (p:=⟨b9,_,none⟩) HB9.out).trans E0.out;clear hS0 hS1;go_simp;try with_reducible rfl)
                      try simp only [pq]
                      refine oneH 15 rfl fun K hK=>?_
                      go_simp
                      go_at_call 81
                      refine (xhas_is x.A x.n x.c p.sh v (f2) (SA.out.below a0.out) O3.out _ HD.out).mono ?_
                      rintro e i0 ⟨rfl,rfl⟩
                      dsimp only
                      refine hK.out _ _ ⟨a1.out,a0.out⟩ (fun _=>?_);clear hK K
                      try simp only [pq]
                      refine wpAnyH_done (by kernel_rfl) ?_ _
                      go_wp2
                      go_ret
                      exact ⟨ret_int (by rw [HQ.out,goodP_two HX.out HX2.out hjt HIN.out (List.mem_of_getElem? HV.out)];rfl),a0.out⟩
                    · have HIN:=hid hin;have HD:=hid (show decide (v∈p.sh)=false from decide_eq_false hin);clear hin
                      replace a1:=kD a1
                      replace a0:=bD a0
                      refine wp_region_held_drew (S:=(fun W'=>Blk W' (w.heap.size) 24 #[.string ware,.int .i64 lim,.int .i64 by_,.slice (some ⟨b,o,none⟩) n k]∧Below w.heap.size w W')) (by kernel_rfl) ⟨a1.out,a0.out⟩ (fun _=>?_)
                      obtain ⟨f3,a9⟩:∃ w',w'=(wr.drew):=⟨_,rfl⟩
                      rw [← a9] at a1 a0
                      rw [← a9]
                      clear a9
                      refine' twH 0 ⟨a1.out,a0.out⟩ ?_
                      refine' tkH 1 ⟨a1.out,a0.out⟩ ?d4 ?_
                      case d4=>(rintro W' ⟨hS0,hS1⟩;have hc0:=Blk.nth hS0 3;clear hS0 hS1;go_simp;try with_reducible rfl)
                      refine' twH 2 ⟨a1.out,a0.out⟩ ?_
                      refine' twH 3 ⟨a1.out,a0.out⟩ ?_
                      try simp only [pq]
                      refine' twH 4 ⟨a1.out,a0.out⟩ ?_
                      refine' tkH 5 ⟨a1.out,a0.out⟩ ?d5 ?_
                      case d5=>(rintro W' ⟨hS0,hS1⟩;have hc0:=(Below.cell hS1 (p:=⟨b,_,none⟩) HBW.out).trans G0.out;clear hS0 hS1;go_simp;try with_reducible rfl)
                      refine' twH 6 ⟨a1.out,a0.out⟩ ?_
                      refine' tkH 7 ⟨a1.out,a0.out⟩ ?d6 ?_
                      case d6=>(rintro W' ⟨hS0,hS1⟩;have hc0:=Blk.nth hS0 3;clear hS0 hS1;go_simp;try with_reducible rfl)
                      try simp only [pq]
                      refine' twH 8 ⟨a1.out,a0.out⟩ ?_
                      refine' twH 9 ⟨a1.out,a0.out⟩ ?_
                      refine' twH 10 ⟨a1.out,a0.out⟩ ?_
                      refine' tkH 11 ⟨a1.out,a0.out⟩ ?d7 ?_
                      case d7=>(rintro W' ⟨hS0,hS1⟩;have hc0:=(Below.cell hS1 (p:=⟨b,_,none⟩) HBW.out).trans G21.out;clear hS0 hS1;go_simp;try with_reducible rfl)
                      try simp only [pq]
                      refine' twH 12 ⟨a1.out,a0.out⟩ ?_
                      refine' twH 13 ⟨a1.out,a0.out⟩ ?_
                      refine' tkH 14 ⟨a1.out,a0.out⟩ ?d8 ?_
                      case d8=>(rintro W' ⟨hS0,hS1⟩;have hc0:=(Below.cell hS1 (p:=⟨b9,_,none⟩) HB9.out).trans E0.out;clear hS0 hS1;go_simp;try with_reducible rfl)
                      try simp only [pq]
                      refine oneH 15 rfl fun K hK=>?_
                      go_simp
                      go_at_call 81
                      refine (xhas_is x.A x.n x.c p.sh v (f3) (SA.out.below a0.out) O3.out _ HD.out).mono ?_
                      rintro e i1 ⟨rfl,rfl⟩
                      dsimp only
                      refine hK.out _ _ ⟨a1.out,a0.out⟩ (fun _=>?_);clear hK K
                      try simp only [pq]
                      refine wpAnyH_done (by kernel_rfl) ?_ _
                      go_wp2
                      go_roundw
                      case rel=>exact ⟨m+1,by omega,by go_num,by rw [HTS.out,← List.append_assoc];intro z hz;rcases List.mem_append.1 hz with hz|hz;exact HNM.out z hz;obtain rfl:=List.mem_singleton.1 hz;exact HIN.out,a1.out,a0.out⟩
                      case measure=>simp [intOf];omega
                  · obtain rfl:m=x2.n:=by omega
                    have hln:=S2.out.len
                    have HSH:=hid (show p2.sh.take x2.n=p2.sh from List.take_of_length_le (by omega));clear hln
                    obtain ⟨f4,f5,f6,f7⟩:=at4 a1
                    go_wp2
                    go_roundw
                    case rel=>exact ⟨j+1,by omega,by go_num,by rw [HT2.out,ids_snoc];have:=HNM.out;rwa [HSH.out] at this,a1.out,a0.out⟩
                    case measure=>simp [intOf];omega
               · obtain rfl:j=q:=by omega
                 obtain ⟨f8,f9,g8,g9⟩:=at4 a6
                 go_wp2
                 go_roundw
                 case rel=>exact ⟨j+1,by omega,by go_num,by rw [HTK.out];intro z hz;rcases List.mem_append.1 hz with hz|hz;exact HALL.out z hz;obtain rfl:=List.mem_singleton.1 hz;exact HPB.out,by rw [HTK.out,ids_snoc];exact nodup_join HND.out (nodup_sh HPB.out) HNO.out,a6.out,a7.out⟩
                 case measure=>simp [intOf];omega
          · obtain rfl:n=q:=by omega
            have hln:=HR.out.len
            have HA2:=hid (show ∀ p∈ps,prtB p=true by have:=HALL.out;rwa [List.take_of_length_le (by omega)] at this)
            have HN2:=hid (show (idsP ps).Nodup by have:=HND.out;rwa [List.take_of_length_le (by omega)] at this)
            clear hln HALL HND
            obtain ⟨h0,h1,h2,h3⟩:=at4 a3
            go_wp2
            go_ret
            exact ⟨ret_int (by rw [HQ.out,goodP_ok HA2.out HN2.out];rfl),a2.out⟩
theorem xchk_is (ware:ByteArray) (lim by_:Int) (A:Option Addr) (n k:Nat) (ps:List Prt) (w:World) (hr:RdP w A n k ps) (hn:n≤maxLen) (q:Int) (hq:chkC ⟨ware,lim,by_,ps⟩=q):Calls Tryz.prog 27 #[.agg #[.string ware,.int .i64 lim,.int .i64 by_,.slice A n k]] w fun e w'=>e=.returned (.int .i64 q)∧Below w.heap.size w w':=by
 subst hq
 exact xchk_any ware lim by_ A n k ps w hr hn
end Go.Proofs.YtokpblmgdmokoaaGreat
