import Derived.Test.YtokpblmgdmokoaaGreatCVRa
set_option linter.unusedSimpArgs false
set_option linter.unusedVariables false
namespace Go.Proofs.YtokpblmgdmokoaaGreat
open Go.Lib (hid)
open Go.RowKit
theorem prtB_eq2 (sh rs:List Int) (lo hi lb hb fb:Int) (ft:Bool):prtB ⟨sh,lo,hi,lb,hb,ft,fb,rs⟩=(!decide ((sh.length:Int)<1)&&!decide ((40:Int)<sh.length)&&!decide ((200:Int)<rs.length)&&ascN sh 1 1000000&&ascN rs 1 1000000&&!decide (lo<0)&&!decide (hi<lo)&&!decide ((1000:Int)<hi) &&
 byB lb (lo != 0)&&byB hb (hi != 1000)&&byB fb ft):=by
 rw [prtB_eq]
 have n1:∀ a b:Int,(!decide (a<b))=decide (b≤a):=fun a b=>by rw [← decide_not];exact decide_eq_decide.2 Int.not_lt
 simp only [inR,n1]
 generalize ascN sh 1 1000000=a1
 generalize ascN rs 1 1000000=a2
 generalize byB lb (lo != 0)=a3
 generalize byB hb (hi != 1000)=a4
 generalize byB fb ft=a5
 generalize decide ((rs.length:Int)≤200)=a6
 generalize decide (1≤(sh.length:Int))=a7
 generalize decide ((sh.length:Int)≤40)=a8
 generalize decide (0≤lo)=a9
 generalize decide (lo≤hi)=a10
 generalize decide (hi≤1000)=a11
 cases a1<;>cases a2<;>cases a6<;>simp
set_option maxRecDepth 100000 in
set_option maxHeartbeats 4000000 in
theorem xpart_any (A B:Option Addr) (n c m d:Nat) (sh rs:List Int) (lo hi lb hb fb:Int) (ft:Bool) (w:World) (hr:RdI w A n c sh) (hs:RdI w B m d rs) (hn:n≤maxLen) (hm:m≤maxLen):Calls Tryz.prog 80 #[.agg #[.slice A n c,.int .i64 lo,.int .i64 hi,.int .i64 lb,.int .i64 hb,.bool ft,.int .i64 fb,.slice B m d]] w fun e w'=>e=.returned (.bool (prtB ⟨sh,lo,hi,lb,hb,ft,fb,rs⟩))∧Below w.heap.size w w':=by
 have HL:=hid hr.len;have HM:=hid hs.len
 go_enter Tryz.func80,Tryz.ntmps80
 obtain ⟨a3,a0⟩:=ent1 w #[.slice A n c,.int .i64 lo,.int .i64 hi,.int .i64 lb,.int .i64 hb,.bool ft,.int .i64 fb,.slice B m d] 48
 have b5:=iI hr a0
 have a5:=iI hs a0
 clear hr hs
 obtain ⟨c7,c8,c9,d0,d1,b6,b7,b8⟩:=at8 a3
 by_cases h0:(n:Int)<1
 · have K0:=hid h0
   go_wp2
   go_ret
   exact ⟨ret_bool (by rw [prtB_eq2,HL.out,HM.out];simp only [show decide ((n:Int)<1)=true from decide_eq_true (by have:=K0.out;omega),Bool.not_true,Bool.not_false,Bool.and_true,Bool.true_and,Bool.and_false,Bool.false_and]),a0.out⟩
 · have K0:=hid h0
   by_cases h1:(40:Int)<n
   · have K1:=hid h1
     go_wp2
     go_ret
     exact ⟨ret_bool (by rw [prtB_eq2,HL.out,HM.out];simp only [show decide ((n:Int)<1)=false from decide_eq_false (by have:=K0.out;omega),show decide ((40:Int)<n)=true from decide_eq_true (by have:=K1.out;omega),Bool.not_true,Bool.not_false,Bool.and_true,Bool.true_and,Bool.and_false,Bool.false_and]),a0.out⟩
   · have K1:=hid h1
     by_cases h2:(200:Int)<m
     · have K2:=hid h2
       go_wp2
       go_ret
       exact ⟨ret_bool (by rw [prtB_eq2,HL.out,HM.out];simp only [show decide ((n:Int)<1)=false from decide_eq_false (by have:=K0.out;omega),show decide ((40:Int)<n)=false from decide_eq_false (by have:=K1.out;omega),show decide ((200:Int)<m)=true from decide_eq_true (by have:=K2.out;omega),Bool.not_true,Bool.not_false,Bool.and_true,Bool.true_and,Bool.and_false,Bool.false_and]),a0.out⟩
     · have K2:=hid h2
       cases h3:ascN sh 1 1000000
       · have K3:=hid h3;clear h3
         have hc:=xrising_is A n c sh ((w.alloc (.cells #[.slice A n c,.int .i64 lo,.int .i64 hi,.int .i64 lb,.int .i64 hb,.bool ft,.int .i64 fb,.slice B m d] 48))) b5.out hn _ K3.out
         have HC:=hid hc;clear hc
         go_wp2_with fail
         refine HC.out.mono ?_
         rintro e a6 ⟨rfl,hb⟩
         clear HC
         clear c7 c8 c9 d0 d1 b6 b7 b8
         have a1:=hid hb
         clear hb
         replace a3:=kH a3 a1
         obtain ⟨a7,a8,a9,b0,b1,b2,b3,b4⟩:=at8 a3
         go_wp2
         go_ret
         replace a0:=bH a0 a1
         exact ⟨ret_bool (by rw [prtB_eq2,HL.out,HM.out];simp only [show decide ((n:Int)<1)=false from decide_eq_false (by have:=K0.out;omega),show decide ((40:Int)<n)=false from decide_eq_false (by have:=K1.out;omega),show decide ((200:Int)<m)=false from decide_eq_false (by have:=K2.out;omega),K3.out,Bool.not_true,Bool.not_false,Bool.and_true,Bool.true_and,Bool.and_false,Bool.false_and]),a0.out⟩
       · have K3:=hid h3;clear h3
         have hc:=xrising_is A n c sh ((w.alloc (.cells #[.slice A n c,.int .i64 lo,.int .i64 hi,.int .i64 lb,.int .i64 hb,.bool ft,.int .i64 fb,.slice B m d] 48))) b5.out hn _ K3.out
         have HC:=hid hc;clear hc
         go_wp2_with fail
         refine HC.out.mono ?_
         rintro e a6 ⟨rfl,hb⟩
         clear HC
         clear c7 c8 c9 d0 d1 b6 b7 b8
         have a1:=hid hb
         clear hb
         replace a3:=kH a3 a1
         obtain ⟨a7,a8,a9,b0,b1,b2,b3,b4⟩:=at8 a3
         cases h4:ascN rs 1 1000000
         · have K4:=hid h4;clear h4
           replace a5:=iH a5 a1
           have hc:=xrising_is B m d rs (a6) a5.out hm _ K4.out
           have HC:=hid hc;clear hc
           go_wp2_with fail
           refine HC.out.mono ?_
           rintro e a4 ⟨rfl,hb⟩
           clear HC
           clear a7 a8 a9 b0 b1 b2 b3 b4
           have a2:=hid hb
           clear hb
           replace a3:=kH a3 a2
           obtain ⟨b9,c0,c1,c2,c3,c4,c5,c6⟩:=at8 a3
           go_wp2
           go_ret
           replace a0:=bH (bH a0 a1) a2
           exact ⟨ret_bool (by rw [prtB_eq2,HL.out,HM.out];simp only [show decide ((n:Int)<1)=false from decide_eq_false (by have:=K0.out;omega),show decide ((40:Int)<n)=false from decide_eq_false (by have:=K1.out;omega),show decide ((200:Int)<m)=false from decide_eq_false (by have:=K2.out;omega),K3.out,K4.out,Bool.not_true,Bool.not_false,Bool.and_true,Bool.true_and,Bool.and_false,Bool.false_and]),a0.out⟩
         · have K4:=hid h4;clear h4
           replace a5:=iH a5 a1
           have hc:=xrising_is B m d rs (a6) a5.out hm _ K4.out
           have HC:=hid hc;clear hc
           go_wp2_with fail
           refine HC.out.mono ?_
           rintro e a4 ⟨rfl,hb⟩
           clear HC
           clear a7 a8 a9 b0 b1 b2 b3 b4
           have a2:=hid hb
           clear hb
           replace a3:=kH a3 a2
           obtain ⟨b9,c0,c1,c2,c3,c4,c5,c6⟩:=at8 a3
           by_cases h5:lo<0
           · have K5:=hid h5
             go_wp2
             go_ret
             replace a0:=bH (bH a0 a1) a2
             exact ⟨ret_bool (by rw [prtB_eq2,HL.out,HM.out];simp only [show decide ((n:Int)<1)=false from decide_eq_false (by have:=K0.out;omega),show decide ((40:Int)<n)=false from decide_eq_false (by have:=K1.out;omega),show decide ((200:Int)<m)=false from decide_eq_false (by have:=K2.out;omega),K3.out,K4.out,show decide (lo<0)=true from decide_eq_true (by have:=K5.out;omega),Bool.not_true,Bool.not_false,Bool.and_true,Bool.true_and,Bool.and_false,Bool.false_and]),a0.out⟩
           · have K5:=hid h5
             by_cases h6:hi<lo
             · have K6:=hid h6
               go_wp2
               go_ret
               replace a0:=bH (bH a0 a1) a2
               exact ⟨ret_bool (by rw [prtB_eq2,HL.out,HM.out];simp only [show decide ((n:Int)<1)=false from decide_eq_false (by have:=K0.out;omega),show decide ((40:Int)<n)=false from decide_eq_false (by have:=K1.out;omega),show decide ((200:Int)<m)=false from decide_eq_false (by have:=K2.out;omega),K3.out,K4.out,show decide (lo<0)=false from decide_eq_false (by have:=K5.out;omega),show decide (hi<lo)=true from decide_eq_true (by have:=K6.out;omega),Bool.not_true,Bool.not_false,Bool.and_true,Bool.true_and,Bool.and_false,Bool.false_and]),a0.out⟩
             · have K6:=hid h6
               by_cases h7:(1000:Int)<hi
               · have K7:=hid h7
                 go_wp2
                 go_ret
                 replace a0:=bH (bH a0 a1) a2
                 exact ⟨ret_bool (by rw [prtB_eq2,HL.out,HM.out];simp only [show decide ((n:Int)<1)=false from decide_eq_false (by have:=K0.out;omega),show decide ((40:Int)<n)=false from decide_eq_false (by have:=K1.out;omega),show decide ((200:Int)<m)=false from decide_eq_false (by have:=K2.out;omega),K3.out,K4.out,show decide (lo<0)=false from decide_eq_false (by have:=K5.out;omega),show decide (hi<lo)=false from decide_eq_false (by have:=K6.out;omega),show decide ((1000:Int)<hi)=true from decide_eq_true (by have:=K7.out;omega),Bool.not_true,Bool.not_false,Bool.and_true,Bool.true_and,Bool.and_false,Bool.false_and]),a0.out⟩
               · have K7:=hid h7
                 cases h8:byB lb (lo != 0)
                 · have K8:=hid h8;clear h8
                   have HC:=hid (xby_is lb (lo == 0) _ K8.out (a4))
                   go_wp2_with fail
                   refine HC.out.mono ?_
                   rintro e _ ⟨rfl,rfl⟩
                   clear HC
                   go_wp2
                   go_ret
                   replace a0:=bH (bH a0 a1) a2
                   exact ⟨ret_bool (by rw [prtB_eq2,HL.out,HM.out];simp only [show decide ((n:Int)<1)=false from decide_eq_false (by have:=K0.out;omega),show decide ((40:Int)<n)=false from decide_eq_false (by have:=K1.out;omega),show decide ((200:Int)<m)=false from decide_eq_false (by have:=K2.out;omega),K3.out,K4.out,show decide (lo<0)=false from decide_eq_false (by have:=K5.out;omega),show decide (hi<lo)=false from decide_eq_false (by have:=K6.out;omega),show decide ((1000:Int)<hi)=false from decide_eq_false (by have:=K7.out;omega),K8.out,Bool.not_true,Bool.not_false,Bool.and_true,Bool.true_and,Bool.and_false,Bool.false_and]),a0.out⟩
                 · have K8:=hid h8;clear h8
                   have HC:=hid (xby_is lb (lo == 0) _ K8.out (a4))
                   go_wp2_with fail
                   refine HC.out.mono ?_
                   rintro e _ ⟨rfl,rfl⟩
                   clear HC
                   cases h9:byB hb (hi != 1000)
                   · have K9:=hid h9;clear h9
                     have HC:=hid (xby_is hb (hi == 1000) _ K9.out (a4))
                     go_wp2_with fail
                     refine HC.out.mono ?_
                     rintro e _ ⟨rfl,rfl⟩
                     clear HC
                     go_wp2
                     go_ret
                     replace a0:=bH (bH a0 a1) a2
                     exact ⟨ret_bool (by rw [prtB_eq2,HL.out,HM.out];simp only [show decide ((n:Int)<1)=false from decide_eq_false (by have:=K0.out;omega),show decide ((40:Int)<n)=false from decide_eq_false (by have:=K1.out;omega),show decide ((200:Int)<m)=false from decide_eq_false (by have:=K2.out;omega),K3.out,K4.out,show decide (lo<0)=false from decide_eq_false (by have:=K5.out;omega),show decide (hi<lo)=false from decide_eq_false (by have:=K6.out;omega),show decide ((1000:Int)<hi)=false from decide_eq_false (by have:=K7.out;omega),K8.out,K9.out,Bool.not_true,Bool.not_false,Bool.and_true,Bool.true_and,Bool.and_false,Bool.false_and]),a0.out⟩
                   · have K9:=hid h9;clear h9
                     have HC:=hid (xby_is hb (hi == 1000) _ K9.out (a4))
                     go_wp2_with fail
                     refine HC.out.mono ?_
                     rintro e _ ⟨rfl,rfl⟩
                     clear HC
                     cases h10:byB fb ft
                     · have K10:=hid h10;clear h10
                       have HC:=hid (xby_is fb (!ft) false (by rw [Bool.not_not];exact K10.out) (a4))
                       go_wp2_with fail
                       refine HC.out.mono ?_
                       rintro e _ ⟨rfl,rfl⟩
                       clear HC
                       go_wp2
                       go_ret
                       replace a0:=bH (bH a0 a1) a2
                       exact ⟨ret_bool (by rw [prtB_eq2,HL.out,HM.out];simp only [show decide ((n:Int)<1)=false from decide_eq_false (by have:=K0.out;omega),show decide ((40:Int)<n)=false from decide_eq_false (by have:=K1.out;omega),show decide ((200:Int)<m)=false from decide_eq_false (by have:=K2.out;omega),K3.out,K4.out,show decide (lo<0)=false from decide_eq_false (by have:=K5.out;omega),show decide (hi<lo)=false from decide_eq_false (by have:=K6.out;omega),show decide ((1000:Int)<hi)=false from decide_eq_false (by have:=K7.out;omega),K8.out,K9.out,K10.out,Bool.not_true,Bool.not_false,Bool.and_true,Bool.true_and,Bool.and_false,Bool.false_and]),a0.out⟩
                     · have K10:=hid h10;clear h10
                       have HC:=hid (xby_is fb (!ft) true (by rw [Bool.not_not];exact K10.out) (a4))
                       go_wp2_with fail
                       refine HC.out.mono ?_
                       rintro e _ ⟨rfl,rfl⟩
                       clear HC
                       go_wp2
                       go_ret
                       replace a0:=bH (bH a0 a1) a2
                       exact ⟨ret_bool (by rw [prtB_eq2,HL.out,HM.out];simp only [show decide ((n:Int)<1)=false from decide_eq_false (by have:=K0.out;omega),show decide ((40:Int)<n)=false from decide_eq_false (by have:=K1.out;omega),show decide ((200:Int)<m)=false from decide_eq_false (by have:=K2.out;omega),K3.out,K4.out,show decide (lo<0)=false from decide_eq_false (by have:=K5.out;omega),show decide (hi<lo)=false from decide_eq_false (by have:=K6.out;omega),show decide ((1000:Int)<hi)=false from decide_eq_false (by have:=K7.out;omega),K8.out,K9.out,K10.out,Bool.not_true,Bool.not_false,Bool.and_true,Bool.true_and,Bool.and_false,Bool.false_and]),a0.out⟩
theorem xpart_is (A B:Option Addr) (n c m d:Nat) (sh rs:List Int) (lo hi lb hb fb:Int) (ft:Bool) (w:World) (hr:RdI w A n c sh) (hs:RdI w B m d rs) (hn:n≤maxLen) (hm:m≤maxLen) (b:Bool) (hp:prtB ⟨sh,lo,hi,lb,hb,ft,fb,rs⟩=b):Calls Tryz.prog 80 #[.agg #[.slice A n c,.int .i64 lo,.int .i64 hi,.int .i64 lb,.int .i64 hb,.bool ft,.int .i64 fb,.slice B m d]] w fun e w'=>e=.returned (.bool b)∧Below w.heap.size w w':=by
 subst hp
 exact xpart_any A B n c m d sh rs lo hi lb hb fb ft w hr hs hn hm
end Go.Proofs.YtokpblmgdmokoaaGreat
