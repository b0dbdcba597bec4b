import Derived.Test.YtokpblmgdmokoaaGreatAVMem
set_option maxHeartbeats 4000000
set_option linter.unusedSimpArgs false
set_option linter.unusedVariables false
namespace Go.Proofs.YtokpblmgdmokoaaGreat
open Go.Lib (hid)
open Go.RowKit
theorem vwithin_any (n lo hi:Int) (w:World) :
 Calls Tryz.prog 74 #[.int .i64 n,.int .i64 lo,.int .i64 hi] w fun e w'=>e=.returned (.bool (inR n lo hi))∧w=w':=by
 by_cases h:lo≤n
 · go_enter Tryz.func74,Tryz.ntmps74
   go_wp2
   go_ret
   exact ⟨by simp [inR,h],rfl⟩
 · go_enter Tryz.func74,Tryz.ntmps74
   go_wp2
   go_ret
   exact ⟨by simp [inR,h];try omega,rfl⟩
theorem vwithin_is (n lo hi:Int) (b:Bool) (h:inR n lo hi=b) (w:World) :
 Calls Tryz.prog 74 #[.int .i64 n,.int .i64 lo,.int .i64 hi] w fun e w'=>e=.returned (.bool b)∧w=w':=by
 subst h
 exact vwithin_any n lo hi w
theorem visBy_any (n:Int) (so:Bool) (w:World) :
 Calls Tryz.prog 75 #[.int .i64 n,.bool so] w fun e w'=>e=.returned (.bool (byB n so))∧w=w':=by
 have hw:=vwithin_any n 1 1000000
 by_cases h:n=0
 · subst h
   clear hw
   go_enter Tryz.func75,Tryz.ntmps75
   go_wp2
   go_ret
   exact ⟨by simp [byB],rfl⟩
 · have h1:(n == 0)=false:=by simpa using h
   have H:=hid h;clear h
   cases so
   · clear hw
     go_enter Tryz.func75,Tryz.ntmps75
     go_wp2
     go_ret
     exact ⟨by simp [byB,H.out],rfl⟩
   · go_enter Tryz.func75,Tryz.ntmps75
     go_wp2_with (go_at_call 74;refine (hw _).mono ?_;rintro e w' ⟨rfl,rfl⟩)
     go_ret
     exact ⟨by simp [byB,H.out],rfl⟩
theorem visBy_is (n:Int) (so b:Bool) (h:byB n so=b) (w:World) :
 Calls Tryz.prog 75 #[.int .i64 n,.bool so] w fun e w'=>e=.returned (.bool b)∧w=w':=by
 subst h
 exact visBy_any n so w
theorem ascN_step {l:List Int} {k:Nat} {v z hi:Int} (h:l[k]?=some v):ascN (l.drop k) z hi=(inR v z hi&&ascN (l.drop (k+1)) (v+1) hi):=by
 obtain ⟨hk,rfl⟩:=List.getElem?_eq_some_iff.1 h
 rw [List.drop_eq_getElem_cons hk]
 rfl
theorem visAsc_any (A:Option Addr) (n c:Nat) (l:List Int) (lo hi:Int) (w:World) (hr:RdI w A n c l) (hn:n≤maxLen) (h1:hi≤1000000000000) (h0:-1000000000000≤lo) :
 Calls Tryz.prog 109 #[.slice A n c,.int .i64 lo,.int .i64 hi] w fun e w'=>e=.returned (.bool (ascN l lo hi))∧w=w':=by
 unfold maxLen at hn
 have HR:=hid hr;clear hr
 have hw:=fun v z=>vwithin_any v z hi
 obtain ⟨q,hq⟩:∃ q,ascN l lo hi=q:=⟨_,rfl⟩
 rw [hq]
 have HQ:=hid hq;clear hq
 have H1:=hid h1;clear h1
 go_enter Tryz.func109,Tryz.ntmps109
 go_wp2
 go_loop [1,11] (fun z i=>∃ (k:Nat) (zz:Int),k≤n∧z=.int .i64 zz∧i=.int .i64 k∧ascN (l.drop k) zz hi=q∧-1000000000000≤zz) (fun _ i=>n-(intOf i).toNat)
 case atStart=>exact ⟨0,lo,Nat.zero_le _,rfl,rfl,HQ.out,h0⟩
 case round =>
  obtain ⟨k,zz,hk,rfl,rfl,ha,hz⟩:=hrel
  have HA:=hid ha;clear ha
  by_cases hlt:k<n
  · obtain ⟨b,o,v,rfl,hbw,hx,e0⟩:=RdI.get HR.out hlt
    have hs:=ascN_step (z:=zz) (hi:=hi) hx
    have HS:=hid hs;clear hs hx
    cases hin:inR v zz hi
    · have HI:=hid hin;clear hin
      go_wp2_with (go_at_call 74;refine (vwithin_is _ _ _ _ HI.out _).mono ?_;rintro e w' ⟨rfl,rfl⟩)
      go_ret
      exact ⟨ret_bool (by rw [← HA.out,HS.out,HI.out];rfl),rfl⟩
    · have HI:=hid hin
      simp only [inR,Bool.and_eq_true,decide_eq_true_eq] at hin
      have hv2:v≤1000000000000:=Int.le_trans hin.2 H1.out
      have hv1:=hin.1
      clear hin
      go_wp2_with (go_at_call 74;refine (vwithin_is _ _ _ _ HI.out _).mono ?_;rintro e w' ⟨rfl,rfl⟩)
      go_round
      case rel=>exact ⟨k+1,v+1,by omega,by go_num,by go_num,by rw [← HA.out,HS.out,HI.out];rfl,by omega⟩
      case measure=>simp [intOf];omega
  · have hkn:k=n:=by omega
    subst hkn
    go_wp2
    go_ret
    exact ⟨ret_bool (by rw [← HA.out,List.drop_eq_nil_of_le (by rw [HR.out.len];omega)];rfl),rfl⟩
theorem visAsc_is (A:Option Addr) (n c:Nat) (l:List Int) (lo hi:Int) (w:World) (hr:RdI w A n c l) (hn:n≤maxLen) (h1:hi≤1000000000000) (h0:-1000000000000≤lo) (b:Bool) (h:ascN l lo hi=b) :
 Calls Tryz.prog 109 #[.slice A n c,.int .i64 lo,.int .i64 hi] w fun e w'=>e=.returned (.bool b)∧w=w':=by
 subst h
 exact visAsc_any A n c l lo hi w hr hn h1 h0
theorem prtB_eq (sh rs:List Int) (lo hi lb hb fb:Int) (ft:Bool):prtB ⟨sh,lo,hi,lb,hb,ft,fb,rs⟩=(inR sh.length 1 40&&ascN sh 1 1000000&&decide ((rs.length:Int)≤200)&&ascN rs 1 1000000&&decide (0≤lo)&&decide (lo≤hi)&&decide (hi≤1000) &&
 byB lb (lo != 0)&&byB hb (hi != 1000)&&byB fb ft):=by
 have e:decide ((rs.length:Int)≤200)=decide (rs.length≤200):=by congr 1;exact propext (by omega)
 rw [e]
 rfl
set_option maxRecDepth 100000 in
theorem visPart_any (A B:Option Addr) (n c m d:Nat) (sh rs:List Int) (lo hi lb hb fb:Int) (ft:Bool) (w:World) (hr:RdI w A n c sh) (hs:RdI w B m d rs) (hn:n≤maxLen) (hm:m≤maxLen):Calls Tryz.prog 76 #[.agg #[.slice A n c,.int .i64 lo,.int .i64 hi,.int .i64 lb,.int .i64 hb,.bool ft,.int .i64 fb,.slice B m d]] w fun e w'=>e=.returned (.bool (prtB ⟨sh,lo,hi,lb,hb,ft,fb,rs⟩))∧Below w.heap.size w w':=by
 have HL:=hid hr.len;have HM:=hid hs.len
 go_enter Tryz.func76,Tryz.ntmps76
 obtain ⟨a1,a0⟩:=ent1 w #[.slice A n c,.int .i64 lo,.int .i64 hi,.int .i64 lb,.int .i64 hb,.bool ft,.int .i64 fb,.slice B m d] 48
 have a2:=iI hr a0
 have a3:=iI hs a0
 clear hr hs
 obtain ⟨c0,c1,c2,c3,c4,a5,a6,a7⟩:=at8 a1
 obtain ⟨o_,ho_⟩:∃ o,o=((.cells #[.int .i64 lo,.int .i64 hi,.int .i64 lb,.int .i64 hb] 46):Obj):=⟨_,rfl⟩
 replace a0:=bA a0 o_
 replace a2:=iA a2 o_
 replace a3:=iA a3 o_
 replace a1:=kA a1 o_
 subst ho_
 have a4:=hid (Blk.new (w.alloc (.cells #[.slice A n c,.int .i64 lo,.int .i64 hi,.int .i64 lb,.int .i64 hb,.bool ft,.int .i64 fb,.slice B m d] 48)) 46 #[.int .i64 lo,.int .i64 hi,.int .i64 lb,.int .i64 hb])
 obtain ⟨a8,a9,b0,b1,b2,b3,b4,b5⟩:=at8 a1
 obtain ⟨b6,b7,b8,b9⟩:=at4 a4
 cases h0:inR (n:Int) 1 40
 · have K0:=hid h0;clear h0
   have HC:=hid (vwithin_is (n:Int) 1 40 _ K0.out (((w.alloc (.cells #[.slice A n c,.int .i64 lo,.int .i64 hi,.int .i64 lb,.int .i64 hb,.bool ft,.int .i64 fb,.slice B m d] 48)).alloc (.cells #[.int .i64 lo,.int .i64 hi,.int .i64 lb,.int .i64 hb] 46))))
   go_wp2_with fail
   refine HC.out.mono ?_
   rintro e _ ⟨rfl,rfl⟩
   clear HC
   go_wp2
   go_ret
   exact ⟨ret_bool (by rw [prtB_eq,HL.out,HM.out];simp only [K0.out,Bool.and_true,Bool.true_and,Bool.and_false,Bool.false_and]),a0.out⟩
 · have K0:=hid h0;clear h0
   have HC:=hid (vwithin_is (n:Int) 1 40 _ K0.out (((w.alloc (.cells #[.slice A n c,.int .i64 lo,.int .i64 hi,.int .i64 lb,.int .i64 hb,.bool ft,.int .i64 fb,.slice B m d] 48)).alloc (.cells #[.int .i64 lo,.int .i64 hi,.int .i64 lb,.int .i64 hb] 46))))
   go_wp2_with fail
   refine HC.out.mono ?_
   rintro e _ ⟨rfl,rfl⟩
   clear HC
   cases h1:ascN sh 1 1000000
   · have K1:=hid h1;clear h1
     have HC:=hid (visAsc_is A n c _ 1 1000000 _ a2.out hn (by omega) (by omega) _ K1.out)
     go_wp2_with fail
     refine HC.out.mono ?_
     rintro e _ ⟨rfl,rfl⟩
     clear HC
     go_wp2
     go_ret
     exact ⟨ret_bool (by rw [prtB_eq,HL.out,HM.out];simp only [K0.out,K1.out,Bool.and_true,Bool.true_and,Bool.and_false,Bool.false_and]),a0.out⟩
   · have K1:=hid h1;clear h1
     have HC:=hid (visAsc_is A n c _ 1 1000000 _ a2.out hn (by omega) (by omega) _ K1.out)
     go_wp2_with fail
     refine HC.out.mono ?_
     rintro e _ ⟨rfl,rfl⟩
     clear HC
     by_cases h2:(m:Int)≤200
     · have K2:=hid h2
       cases h3:ascN rs 1 1000000
       · have K3:=hid h3;clear h3
         have HC:=hid (visAsc_is B m d _ 1 1000000 _ a3.out hm (by omega) (by omega) _ K3.out)
         go_wp2_with fail
         refine HC.out.mono ?_
         rintro e _ ⟨rfl,rfl⟩
         clear HC
         go_wp2
         go_ret
         exact ⟨ret_bool (by rw [prtB_eq,HL.out,HM.out];simp only [K0.out,K1.out,show decide ((m:Int)≤200)=true from decide_eq_true (by have:=K2.out;omega),K3.out,Bool.and_true,Bool.true_and,Bool.and_false,Bool.false_and]),a0.out⟩
       · have K3:=hid h3;clear h3
         have HC:=hid (visAsc_is B m d _ 1 1000000 _ a3.out hm (by omega) (by omega) _ K3.out)
         go_wp2_with fail
         refine HC.out.mono ?_
         rintro e _ ⟨rfl,rfl⟩
         clear HC
         by_cases h4:0≤lo
         · have K4:=hid h4
           by_cases h5:lo≤hi
           · have K5:=hid h5
             by_cases h6:hi≤1000
             · have K6:=hid h6
               cases h7:byB lb (lo != 0)
               · have K7:=hid h7;clear h7
                 have HC:=hid (visBy_is _ _ _ K7.out (((w.alloc (.cells #[.slice A n c,.int .i64 lo,.int .i64 hi,.int .i64 lb,.int .i64 hb,.bool ft,.int .i64 fb,.slice B m d] 48)).alloc (.cells #[.int .i64 lo,.int .i64 hi,.int .i64 lb,.int .i64 hb] 46))))
                 go_wp2_with fail
                 refine HC.out.mono ?_
                 rintro e _ ⟨rfl,rfl⟩
                 clear HC
                 go_wp2
                 go_ret
                 exact ⟨ret_bool (by rw [prtB_eq,HL.out,HM.out];simp only [K0.out,K1.out,show decide ((m:Int)≤200)=true from decide_eq_true (by have:=K2.out;omega),K3.out,show decide (0≤lo)=true from decide_eq_true (by have:=K4.out;omega),show decide (lo≤hi)=true from decide_eq_true (by have:=K5.out;omega),show decide (hi≤1000)=true from decide_eq_true (by have:=K6.out;omega),K7.out,Bool.and_true,Bool.true_and,Bool.and_false,Bool.false_and]),a0.out⟩
               · have K7:=hid h7;clear h7
                 have HC:=hid (visBy_is _ _ _ K7.out (((w.alloc (.cells #[.slice A n c,.int .i64 lo,.int .i64 hi,.int .i64 lb,.int .i64 hb,.bool ft,.int .i64 fb,.slice B m d] 48)).alloc (.cells #[.int .i64 lo,.int .i64 hi,.int .i64 lb,.int .i64 hb] 46))))
                 go_wp2_with fail
                 refine HC.out.mono ?_
                 rintro e _ ⟨rfl,rfl⟩
                 clear HC
                 cases h8:byB hb (hi != 1000)
                 · have K8:=hid h8;clear h8
                   have HC:=hid (visBy_is _ _ _ K8.out (((w.alloc (.cells #[.slice A n c,.int .i64 lo,.int .i64 hi,.int .i64 lb,.int .i64 hb,.bool ft,.int .i64 fb,.slice B m d] 48)).alloc (.cells #[.int .i64 lo,.int .i64 hi,.int .i64 lb,.int .i64 hb] 46))))
                   go_wp2_with fail
                   refine HC.out.mono ?_
                   rintro e _ ⟨rfl,rfl⟩
                   clear HC
                   go_wp2
                   go_ret
                   exact ⟨ret_bool (by rw [prtB_eq,HL.out,HM.out];simp only [K0.out,K1.out,show decide ((m:Int)≤200)=true from decide_eq_true (by have:=K2.out;omega),K3.out,show decide (0≤lo)=true from decide_eq_true (by have:=K4.out;omega),show decide (lo≤hi)=true from decide_eq_true (by have:=K5.out;omega),show decide (hi≤1000)=true from decide_eq_true (by have:=K6.out;omega),K7.out,K8.out,Bool.and_true,Bool.true_and,Bool.and_false,Bool.false_and]),a0.out⟩
                 · have K8:=hid h8;clear h8
                   have HC:=hid (visBy_is _ _ _ K8.out (((w.alloc (.cells #[.slice A n c,.int .i64 lo,.int .i64 hi,.int .i64 lb,.int .i64 hb,.bool ft,.int .i64 fb,.slice B m d] 48)).alloc (.cells #[.int .i64 lo,.int .i64 hi,.int .i64 lb,.int .i64 hb] 46))))
                   go_wp2_with fail
                   refine HC.out.mono ?_
                   rintro e _ ⟨rfl,rfl⟩
                   clear HC
                   cases h9:byB fb ft
                   · have K9:=hid h9;clear h9
                     have HC:=hid (visBy_is _ _ _ K9.out (((w.alloc (.cells #[.slice A n c,.int .i64 lo,.int .i64 hi,.int .i64 lb,.int .i64 hb,.bool ft,.int .i64 fb,.slice B m d] 48)).alloc (.cells #[.int .i64 lo,.int .i64 hi,.int .i64 lb,.int .i64 hb] 46))))
                     go_wp2_with fail
                     refine HC.out.mono ?_
                     rintro e _ ⟨rfl,rfl⟩
                     clear HC
                     go_wp2
                     go_ret
                     exact ⟨ret_bool (by rw [prtB_eq,HL.out,HM.out];simp only [K0.out,K1.out,show decide ((m:Int)≤200)=true from decide_eq_true (by have:=K2.out;omega),K3.out,show decide (0≤lo)=true from decide_eq_true (by have:=K4.out;omega),show decide (lo≤hi)=true from decide_eq_true (by have:=K5.out;omega),show decide (hi≤1000)=true from decide_eq_true (by have:=K6.out;omega),K7.out,K8.out,K9.out,Bool.and_true,Bool.true_and,Bool.and_false,Bool.false_and]),a0.out⟩
                   · have K9:=hid h9;clear h9
                     have HC:=hid (visBy_is _ _ _ K9.out (((w.alloc (.cells #[.slice A n c,.int .i64 lo,.int .i64 hi,.int .i64 lb,.int .i64 hb,.bool ft,.int .i64 fb,.slice B m d] 48)).alloc (.cells #[.int .i64 lo,.int .i64 hi,.int .i64 lb,.int .i64 hb] 46))))
                     go_wp2_with fail
                     refine HC.out.mono ?_
                     rintro e _ ⟨rfl,rfl⟩
                     clear HC
                     go_wp2
                     go_ret
                     exact ⟨ret_bool (by rw [prtB_eq,HL.out,HM.out];simp only [K0.out,K1.out,show decide ((m:Int)≤200)=true from decide_eq_true (by have:=K2.out;omega),K3.out,show decide (0≤lo)=true from decide_eq_true (by have:=K4.out;omega),show decide (lo≤hi)=true from decide_eq_true (by have:=K5.out;omega),show decide (hi≤1000)=true from decide_eq_true (by have:=K6.out;omega),K7.out,K8.out,K9.out,Bool.and_true,Bool.true_and,Bool.and_false,Bool.false_and]),a0.out⟩
             · have K6:=hid h6
               go_wp2
               go_ret
               exact ⟨ret_bool (by rw [prtB_eq,HL.out,HM.out];simp only [K0.out,K1.out,show decide ((m:Int)≤200)=true from decide_eq_true (by have:=K2.out;omega),K3.out,show decide (0≤lo)=true from decide_eq_true (by have:=K4.out;omega),show decide (lo≤hi)=true from decide_eq_true (by have:=K5.out;omega),show decide (hi≤1000)=false from decide_eq_false (by have:=K6.out;omega),Bool.and_true,Bool.true_and,Bool.and_false,Bool.false_and]),a0.out⟩
           · have K5:=hid h5
             go_wp2
             go_ret
             exact ⟨ret_bool (by rw [prtB_eq,HL.out,HM.out];simp only [K0.out,K1.out,show decide ((m:Int)≤200)=true from decide_eq_true (by have:=K2.out;omega),K3.out,show decide (0≤lo)=true from decide_eq_true (by have:=K4.out;omega),show decide (lo≤hi)=false from decide_eq_false (by have:=K5.out;omega),Bool.and_true,Bool.true_and,Bool.and_false,Bool.false_and]),a0.out⟩
         · have K4:=hid h4
           go_wp2
           go_ret
           exact ⟨ret_bool (by rw [prtB_eq,HL.out,HM.out];simp only [K0.out,K1.out,show decide ((m:Int)≤200)=true from decide_eq_true (by have:=K2.out;omega),K3.out,show decide (0≤lo)=false from decide_eq_false (by have:=K4.out;omega),Bool.and_true,Bool.true_and,Bool.and_false,Bool.false_and]),a0.out⟩
     · have K2:=hid h2
       go_wp2
       go_ret
       exact ⟨ret_bool (by rw [prtB_eq,HL.out,HM.out];simp only [K0.out,K1.out,show decide ((m:Int)≤200)=false from decide_eq_false (by have:=K2.out;omega),Bool.and_true,Bool.true_and,Bool.and_false,Bool.false_and]),a0.out⟩
theorem visPart_is (A B:Option Addr) (n c m d:Nat) (sh rs:List Int) (lo hi lb hb fb:Int) (ft:Bool) (w:World) (hr:RdI w A n c sh) (hs:RdI w B m d rs) (hn:n≤maxLen) (hm:m≤maxLen) (b:Bool) (hp:prtB ⟨sh,lo,hi,lb,hb,ft,fb,rs⟩=b):Calls Tryz.prog 76 #[.agg #[.slice A n c,.int .i64 lo,.int .i64 hi,.int .i64 lb,.int .i64 hb,.bool ft,.int .i64 fb,.slice B m d]] w fun e w'=>e=.returned (.bool b)∧Below w.heap.size w w':=by
 subst hp
 exact visPart_any A B n c m d sh rs lo hi lb hb fb ft w hr hs hn hm
end Go.Proofs.YtokpblmgdmokoaaGreat
