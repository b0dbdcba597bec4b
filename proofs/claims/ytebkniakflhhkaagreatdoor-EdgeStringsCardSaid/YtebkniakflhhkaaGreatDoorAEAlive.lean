import Derived.Test.YtebkniakflhhkaaGreatDoorARef
import Derived.Test.YtebkniakflhhkaaGreatDoorAESameP
import Derived.Test.YtebkniakflhhkaaGreatDoorAEJoinR
set_option linter.unusedSimpArgs false
set_option linter.unusedVariables false
namespace Go.Proofs.YtebkniakflhhkaaGreatDoor
open Go.Lib (hid)
open Go.RowKit
theorem rdI_blk {w:World} {g:Nat} (h:Blk w g 3 #[.int .i64 0,.int .i64 7]):RdI w (some ⟨g,0,none⟩) 2 2 [0,7]:=by
 refine ⟨rfl,Nat.le_refl _,(fun h=>by cases h),.inr ⟨g,0,rfl,h.lt,fun j u hu=>?_⟩⟩
 rw [Nat.zero_add,h.cell j]
 simpa using hu
theorem Same_yes2 (A B:Option Addr) (m d m' d':Nat) (x:List Int) (w:World) (hx:RdI w A m d x) (hy:RdI w B m' d' x) (hm:m≤maxLen) :
 Calls Tryz.prog 21 #[.slice A m d,.slice B m' d'] w fun e w'=>e=.returned (.bool true)∧Below w.heap.size w w' :=
 (Same_any A B m d m' d' x x w hx hy hm).mono (fun e w' h=>⟨by rw [h.1,decide_eq_true rfl],h.2⟩)
set_option maxRecDepth 100000 in
set_option maxHeartbeats 8000000 in
theorem joined_any (w:World):Calls Tryz.prog 4 #[] w fun e w'=>e=.returned (.bool true)∧Below w.heap.size w w':=by
 go_enter Tryz.func4,Tryz.ntmps4
 have b4:=hid (show Below w.heap.size w w from Below.refl _ w)
 have hc:=ffirst_any w
 have HC:=hid hc;clear hc
 go_wp2_with fail
 refine HC.out.mono ?_
 rintro e f3 ⟨A1,B1,rfl,rA,rB,hb⟩
 clear HC
 have r9:=hid hb
 clear hb
 have b0:=hid (rA)
 clear rA
 have b1:=hid (rB)
 clear rB
 obtain ⟨o_,ho_⟩:∃ o,o=((.cells #[.int .i64 3,.slice A1 6 6,.slice B1 4 4] 35):Obj):=⟨_,rfl⟩
 replace b4:=bA (bH b4 r9) o_
 replace b0:=rA b0 o_
 replace b1:=rA b1 o_
 subst ho_
 have a6:=hid (Blk.new f3 35 #[.int .i64 3,.slice A1 6 6,.slice B1 4 4])
 obtain ⟨s0,s1,s2⟩:=at3 a6
 have hc:=sfirst_any ((f3.alloc (.cells #[.int .i64 3,.slice A1 6 6,.slice B1 4 4] 35)))
 have HC:=hid hc;clear hc
 go_wp2_with fail
 refine HC.out.mono ?_
 rintro e e6 ⟨C1,D1,rfl,rC,rD,hb⟩
 clear HC
 clear s0 s1 s2
 have g4:=hid hb
 clear hb
 have a7:=hid (rC)
 clear rC
 have a8:=hid (rD)
 clear rD
 obtain ⟨o_,ho_⟩:∃ o,o=((.cells #[.int .i64 3,.slice C1 6 6,.slice D1 4 4] 35):Obj):=⟨_,rfl⟩
 replace b4:=bA (bH b4 g4) o_
 replace b0:=rA (rH b0 g4) o_
 replace b1:=rA (rH b1 g4) o_
 replace a6:=kA (kH a6 g4) o_
 replace a7:=rA a7 o_
 replace a8:=rA a8 o_
 subst ho_
 have a2:=hid (Blk.new e6 35 #[.int .i64 3,.slice C1 6 6,.slice D1 4 4])
 go_upto_region 3 with fail
 replace b4:=bD b4
 replace b0:=rD b0
 replace b1:=rD b1
 replace a6:=kD a6
 replace a7:=rD a7
 replace a8:=rD a8
 replace a2:=kD a2
 refine wp_region_held_drew (S:=(fun W'=>Blk W' (f3.heap.size) 35 #[.int .i64 3,.slice A1 6 6,.slice B1 4 4]∧Blk W' (e6.heap.size) 35 #[.int .i64 3,.slice C1 6 6,.slice D1 4 4])) (by kernel_rfl) ⟨a6.out,a2.out⟩ (fun _=>?_)
 obtain ⟨s8,h1⟩:∃ w',w'=((e6.alloc (.cells #[.int .i64 3,.slice C1 6 6,.slice D1 4 4] 35)).drew):=⟨_,rfl⟩
 rw [← h1] at b4 b0 b1 a6 a7 a8 a2
 rw [← h1]
 clear h1
 refine' tkH 0 ⟨a6.out,a2.out⟩ ?l1 ?_
 case l1=>(rintro W' ⟨hS0,hS1⟩;have hc0:=Blk.nth hS0 0;have hc1:=Blk.nth hS0 1;have hc2:=Blk.nth hS0 2;clear hS0 hS1;go_simp;try with_reducible rfl)
 refine' tkH 1 ⟨a6.out,a2.out⟩ ?l2 ?_
 case l2=>(rintro W' ⟨hS0,hS1⟩;have hc0:=Blk.nth hS1 0;have hc1:=Blk.nth hS1 1;have hc2:=Blk.nth hS1 2;clear hS0 hS1;go_simp;try with_reducible rfl)
 try simp only [pq]
 refine oneH 2 rfl fun K hK=>?_
 go_simp
 go_at_call 12
 refine (of_any 0 2 0 2 _).mono ?_
 rintro e s9 ⟨rfl,d1⟩
 dsimp only
 replace d1:=hid d1
 replace a6:=kH a6 d1
 replace a2:=kH a2 d1
 refine hK.out _ _ ⟨a6.out,a2.out⟩ (fun _=>?_);clear hK K
 try simp only [pq]
 refine oneH 3 rfl fun K hK=>?_
 replace b0:=rH b0 d1
 replace b1:=rH b1 d1
 replace a7:=rH a7 d1
 replace a8:=rH a8 d1
 go_simp
 go_at_call 11
 refine (j_meets _ A1 B1 C1 D1 b0.out b1.out a7.out a8.out).mono ?_
 rintro e q5 ⟨rfl,d2⟩
 dsimp only
 replace d2:=hid d2
 replace a6:=kH a6 d2
 replace a2:=kH a2 d2
 refine hK.out _ _ ⟨a6.out,a2.out⟩ (fun _=>?_);clear hK K
 try simp only [pq]
 refine' twH 4 ⟨a6.out,a2.out⟩ ?_
 refine' twH 5 ⟨a6.out,a2.out⟩ ?_
 refine' twH 6 ⟨a6.out,a2.out⟩ ?_
 refine' twH 7 ⟨a6.out,a2.out⟩ ?_
 try simp only [pq]
 refine' twH 8 ⟨a6.out,a2.out⟩ ?_
 try simp only [pq]
 refine wpAnyH_done (by kernel_rfl) ?_ _
 go_upto_region 4 with fail
 replace b4:=bD (bH (bH b4 d1) d2)
 replace b0:=rD (rH b0 d2)
 replace b1:=rD (rH b1 d2)
 replace a6:=kD a6
 replace a7:=rD (rH a7 d2)
 replace a8:=rD (rH a8 d2)
 replace a2:=kD a2
 refine wp_region_held_drew (S:=(fun W'=>Blk W' (f3.heap.size) 35 #[.int .i64 3,.slice A1 6 6,.slice B1 4 4]∧Blk W' (e6.heap.size) 35 #[.int .i64 3,.slice C1 6 6,.slice D1 4 4])) (by kernel_rfl) ⟨a6.out,a2.out⟩ (fun _=>?_)
 obtain ⟨t0,h2⟩:∃ w',w'=(q5.drew):=⟨_,rfl⟩
 rw [← h2] at b4 b0 b1 a6 a7 a8 a2
 rw [← h2]
 clear h2
 refine' tkH 0 ⟨a6.out,a2.out⟩ ?l3 ?_
 case l3=>(rintro W' ⟨hS0,hS1⟩;have hc0:=Blk.nth hS0 0;have hc1:=Blk.nth hS0 1;have hc2:=Blk.nth hS0 2;clear hS0 hS1;go_simp;try with_reducible rfl)
 refine' tkH 1 ⟨a6.out,a2.out⟩ ?l4 ?_
 case l4=>(rintro W' ⟨hS0,hS1⟩;have hc0:=Blk.nth hS1 0;have hc1:=Blk.nth hS1 1;have hc2:=Blk.nth hS1 2;clear hS0 hS1;go_simp;try with_reducible rfl)
 try simp only [pq]
 refine oneH 2 rfl fun K hK=>?_
 go_simp
 go_at_call 12
 refine (of_any 0 1 0 1 _).mono ?_
 rintro e t1 ⟨rfl,d3⟩
 dsimp only
 replace d3:=hid d3
 replace a6:=kH a6 d3
 replace a2:=kH a2 d3
 refine hK.out _ _ ⟨a6.out,a2.out⟩ (fun _=>?_);clear hK K
 try simp only [pq]
 refine oneH 3 rfl fun K hK=>?_
 replace b0:=rH b0 d3
 replace b1:=rH b1 d3
 replace a7:=rH a7 d3
 replace a8:=rH a8 d3
 go_simp
 go_at_call 11
 refine (j_not _ A1 B1 C1 D1 b0.out b1.out a7.out a8.out).mono ?_
 rintro e q6 ⟨rfl,d4⟩
 dsimp only
 replace d4:=hid d4
 replace a6:=kH a6 d4
 replace a2:=kH a2 d4
 refine hK.out _ _ ⟨a6.out,a2.out⟩ (fun _=>?_);clear hK K
 try simp only [pq]
 refine' twH 4 ⟨a6.out,a2.out⟩ ?_
 refine' twH 5 ⟨a6.out,a2.out⟩ ?_
 refine' twH 6 ⟨a6.out,a2.out⟩ ?_
 refine' twH 7 ⟨a6.out,a2.out⟩ ?_
 try simp only [pq]
 refine' twH 8 ⟨a6.out,a2.out⟩ ?_
 try simp only [pq]
 refine wpAnyH_done (by kernel_rfl) ?_ _
 go_upto_region 5 with fail
 replace b4:=bD (bH (bH b4 d3) d4)
 replace b0:=rD (rH b0 d4)
 replace b1:=rD (rH b1 d4)
 replace a6:=kD a6
 replace a7:=rD (rH a7 d4)
 replace a8:=rD (rH a8 d4)
 replace a2:=kD a2
 refine wp_region_held_drew (S:=(fun W'=>Blk W' (f3.heap.size) 35 #[.int .i64 3,.slice A1 6 6,.slice B1 4 4]∧Blk W' (e6.heap.size) 35 #[.int .i64 3,.slice C1 6 6,.slice D1 4 4])) (by kernel_rfl) ⟨a6.out,a2.out⟩ (fun _=>?_)
 obtain ⟨t2,h3⟩:∃ w',w'=(q6.drew):=⟨_,rfl⟩
 rw [← h3] at b4 b0 b1 a6 a7 a8 a2
 rw [← h3]
 clear h3
 refine' tkH 0 ⟨a6.out,a2.out⟩ ?l5 ?_
 case l5=>(rintro W' ⟨hS0,hS1⟩;have hc0:=Blk.nth hS0 0;have hc1:=Blk.nth hS0 1;have hc2:=Blk.nth hS0 2;clear hS0 hS1;go_simp;try with_reducible rfl)
 refine' tkH 1 ⟨a6.out,a2.out⟩ ?l6 ?_
 case l6=>(rintro W' ⟨hS0,hS1⟩;have hc0:=Blk.nth hS1 0;have hc1:=Blk.nth hS1 1;have hc2:=Blk.nth hS1 2;clear hS0 hS1;go_simp;try with_reducible rfl)
 try simp only [pq]
 refine oneH 2 rfl fun K hK=>?_
 go_simp
 go_at_call 12
 refine (of_any 0 1 1 2 _).mono ?_
 rintro e t3 ⟨rfl,d5⟩
 dsimp only
 replace d5:=hid d5
 replace a6:=kH a6 d5
 replace a2:=kH a2 d5
 refine hK.out _ _ ⟨a6.out,a2.out⟩ (fun _=>?_);clear hK K
 try simp only [pq]
 refine oneH 3 rfl fun K hK=>?_
 replace b0:=rH b0 d5
 replace b1:=rH b1 d5
 replace a7:=rH a7 d5
 replace a8:=rH a8 d5
 go_simp
 go_at_call 13
 refine (j_shared _ A1 B1 C1 D1 b0.out b1.out a7.out a8.out).mono ?_
 rintro e t4 ⟨rfl,d6⟩
 dsimp only
 replace d6:=hid d6
 replace a6:=kH a6 d6
 replace a2:=kH a2 d6
 refine hK.out _ _ ⟨a6.out,a2.out⟩ (fun _=>?_);clear hK K
 try simp only [pq]
 refine' twH 4 ⟨a6.out,a2.out⟩ ?_
 refine' twH 5 ⟨a6.out,a2.out⟩ ?_
 refine' twH 6 ⟨a6.out,a2.out⟩ ?_
 refine' twH 7 ⟨a6.out,a2.out⟩ ?_
 try simp only [pq]
 refine' twH 8 ⟨a6.out,a2.out⟩ ?_
 refine' twH 9 ⟨a6.out,a2.out⟩ ?_
 refine' twH 10 ⟨a6.out,a2.out⟩ ?_
 try simp only [pq]
 refine wpAnyH_done (by kernel_rfl) ?_ _
 obtain ⟨m4,m5,m6⟩:=at3 a6
 obtain ⟨m7,m8,m9⟩:=at3 a2
 replace b0:=rH b0 d6
 replace b1:=rH b1 d6
 replace a7:=rH a7 d6
 replace a8:=rH a8 d6
 have hc:=j_max _ A1 B1 C1 D1 b0.out b1.out a7.out a8.out
 have HC:=hid hc;clear hc
 go_wp2_with fail
 refine HC.out.mono ?_
 rintro e s3 ⟨EM,cm,rfl,rM,hb⟩
 clear HC
 clear m4 m5 m6 m7 m8 m9
 have d7:=hid hb
 clear hb
 have d8:=hid (rM)
 clear rM
 replace a6:=kH a6 d7
 obtain ⟨n0,n1,n2⟩:=at3 a6
 replace a2:=kH a2 d7
 obtain ⟨n3,n4,n5⟩:=at3 a2
 replace b0:=rH b0 d7
 replace b1:=rH b1 d7
 replace a7:=rH a7 d7
 replace a8:=rH a8 d7
 have hc:=j_long _ A1 B1 C1 D1 b0.out b1.out a7.out a8.out
 have HC:=hid hc;clear hc
 go_wp2_with fail
 refine HC.out.mono ?_
 rintro e s4 ⟨rfl,hb⟩
 clear HC
 clear n0 n1 n2 n3 n4 n5
 have c8:=hid hb
 clear hb
 replace a6:=kH a6 c8
 obtain ⟨n6,n7,n8⟩:=at3 a6
 replace a2:=kH a2 c8
 obtain ⟨n9,o0,o1⟩:=at3 a2
 replace a7:=rH a7 c8
 replace a8:=rH a8 c8
 have hc:=j_with _ C1 D1 a7.out a8.out
 have HC:=hid hc;clear hc
 go_wp2_with fail
 refine HC.out.mono ?_
 rintro e h4 ⟨EW_,kw,GW_,lw,rfl,rE,rG,hb⟩
 clear HC
 clear n6 n7 n8 n9 o0 o1
 have c9:=hid hb
 clear hb
 have d9:=hid (rE)
 clear rE
 have e0:=hid (rG)
 clear rG
 obtain ⟨o_,ho_⟩:∃ o,o=((.cells #[.int .i64 3,.slice EW_ 6 kw,.slice GW_ 5 lw] 35):Obj):=⟨_,rfl⟩
 replace b4:=bA (bH (bH (bH (bH (bH b4 d5) d6) d7) c8) c9) o_
 replace b0:=rA (rH (rH b0 c8) c9) o_
 replace b1:=rA (rH (rH b1 c8) c9) o_
 replace a6:=kA (kH a6 c9) o_
 replace a7:=rA (rH a7 c9) o_
 replace a8:=rA (rH a8 c9) o_
 replace a2:=kA (kH a2 c9) o_
 replace d8:=rA (rH (rH d8 c8) c9) o_
 replace d9:=rA d9 o_
 replace e0:=rA e0 o_
 subst ho_
 have f5:=hid (Blk.new h4 35 #[.int .i64 3,.slice EW_ 6 kw,.slice GW_ 5 lw])
 obtain ⟨o2,o3,o4⟩:=at3 a6
 obtain ⟨o5,o6,o7⟩:=at3 a2
 obtain ⟨o8,o9,p0⟩:=at3 f5
 go_upto_region 9 with fail
 clear o2 o3 o4 o5 o6 o7 o8 o9 p0
 obtain ⟨h5,hW⟩:∃ w',w'=(h4.alloc (.cells #[.int .i64 3,.slice EW_ 6 kw,.slice GW_ 5 lw] 35)):=⟨_,rfl⟩
 rw [← hW] at b4 b0 b1 a6 a7 a8 a2 d8 d9 e0 f5
 rw [← hW]
 clear hW
 go_cut [16,17,18] from 65 to 171 (fun s16 s17 s18 wx=>∃ (gF:Nat) (I:Option Addr) (ci:Nat),s16=.pointer (some ⟨gF,0,none⟩)∧s17=.bool true∧s18=.int .i64 0∧Blk wx gF 53 #[.bool true,.slice I 2 ci]∧Blk wx (f3.heap.size) 35 #[.int .i64 3,.slice A1 6 6,.slice B1 4 4]∧Blk wx (e6.heap.size) 35 #[.int .i64 3,.slice C1 6 6,.slice D1 4 4]∧RdB wx A1 6 6 fW∧RdB wx B1 4 4 fT∧RdB wx C1 6 6 sW∧RdB wx D1 4 4 sT∧RdB wx EM 1 cm ([⟨0,2,0,2⟩].map pB)∧Below w.heap.size w wx)
 case first =>
  have a0:=hid (a6.out)
  have a1:=hid (f5.out)
  have a3:=hid (Below.refl h5.heap.size h5)
  replace a0:=kD a0
  replace a1:=kD a1
  replace a3:=bD a3
  refine wp_region_held_drew (S:=(fun W'=>Blk W' (f3.heap.size) 35 #[.int .i64 3,.slice A1 6 6,.slice B1 4 4]∧Blk W' (h4.heap.size) 35 #[.int .i64 3,.slice EW_ 6 kw,.slice GW_ 5 lw])) (by kernel_rfl) ⟨a0.out,a1.out⟩ (fun _=>?_)
  obtain ⟨k3,h6⟩:∃ w',w'=(h5.drew):=⟨_,rfl⟩
  rw [← h6] at a0 a1 a3
  rw [← h6]
  clear h6
  refine' tkH 0 ⟨a0.out,a1.out⟩ ?l7 ?_
  case l7=>(rintro W' ⟨hS0,hS1⟩;have hc0:=Blk.nth hS0 0;have hc1:=Blk.nth hS0 1;have hc2:=Blk.nth hS0 2;clear hS0 hS1;go_simp;try with_reducible rfl)
  refine' tkH 1 ⟨a0.out,a1.out⟩ ?l8 ?_
  case l8=>(rintro W' ⟨hS0,hS1⟩;have hc0:=Blk.nth hS1 0;have hc1:=Blk.nth hS1 1;have hc2:=Blk.nth hS1 2;clear hS0 hS1;go_simp;try with_reducible rfl)
  try simp only [pq]
  refine wpAnyH_ready (rs:=[2,8]) (by kernel_rfl) (by simp) ?_
  refine rdH rfl (fun K hK=>?_) ?_
  · -- 2: call
   go_simp
   go_at_call 12
   refine (of_any 0 2 0 2 _).mono ?_
   rintro e k4 ⟨rfl,e7⟩
   dsimp only
   replace e7:=hid e7
   replace a0:=kH a0 e7
   replace a1:=kH a1 e7
   refine hK.out _ _ ⟨a0.out,a1.out⟩ (fun _=>?_);clear hK K
   try simp only [pq]
   refine wpAnyH_ready (rs:=[3,8]) (by kernel_rfl) (by simp) ?_
   refine rdH rfl (fun K hK=>?_) ?_
   · -- 3: call
    replace a3:=bH a3 e7
    go_simp
    go_at_call 17
    refine (j_clash _ A1 B1 (RdB.below b0.out a3.out) (RdB.below b1.out a3.out) EW_ kw GW_ lw (RdB.below d9.out a3.out) (RdB.below e0.out a3.out)).mono ?_
    rintro e k5 ⟨IC,cc,rfl,f4⟩
    dsimp only
    replace f4:=hid f4
    replace a0:=kH a0 f4
    replace a1:=kH a1 f4
    refine hK.out _ _ ⟨a0.out,a1.out⟩ (fun _=>?_);clear hK K
    try simp only [pq]
    refine' twH 4 ⟨a0.out,a1.out⟩ ?_
    refine' twH 5 ⟨a0.out,a1.out⟩ ?_
    refine' twH 6 ⟨a0.out,a1.out⟩ ?_
    refine' twH 7 ⟨a0.out,a1.out⟩ ?_
    try simp only [pq]
    refine oneH 8 rfl fun K hK=>?_
    replace a3:=bH a3 f4
    go_simp
    have h7:=hid (Nat.ne_of_lt (Blk.lt a0.out))
    have h8:=hid (Nat.ne_of_lt (Blk.lt a1.out))
    have h9:=hid (a3.out.size)
    obtain ⟨o_,ho_⟩:∃ o,o=(.cells #[.bool false,.slice none 0 0] 53:Obj):=⟨_,rfl⟩
    replace a0:=kA a0 o_
    replace a1:=kA a1 o_
    replace a3:=bA a3 o_
    subst ho_
    have d0:=hid (Blk.new (k5) 53 #[.bool false,.slice none 0 0])
    obtain ⟨c4,i0⟩:∃ g,g=(k5).heap.size:=⟨_,rfl⟩
    obtain ⟨f8,i1⟩:∃ w',w'=(k5).alloc (.cells #[.bool false,.slice none 0 0] 53):=⟨_,rfl⟩
    rw [← i1] at a0 a1 a3 d0
    rw [← i0] at h7 h8 h9 d0
    rw [← i0,← i1]
    clear i0 i1
    refine hK.out _ _ ⟨a0.out,a1.out⟩ (fun _=>?_);clear hK K
    try simp only [pq]
    refine oneH 9 rfl fun K hK=>?_
    have q7:(f8).cell? ⟨c4,0,none⟩=some (.bool false):=Blk.cell (d0.out) 0
    have q8:(f8).frozen? ⟨c4,0,none⟩=false:=Blk.frozen (d0.out) 0
    have q9:(f8).cell? ⟨c4,1,none⟩=some (.slice none 0 0):=Blk.cell (d0.out) 1
    have r0:(f8).frozen? ⟨c4,1,none⟩=false:=Blk.frozen (d0.out) 1
    have hlt_:=Blk.lt (d0.out)
    go_simp
    have g5:=hid (Blk.far (Blk.far (a0.out) (p:=⟨c4,0,none⟩) (h7.out) (.bool true)) (p:=⟨c4,1,none⟩) (h7.out) (.slice IC 2 cc))
    have g6:=hid (Blk.far (Blk.far (a1.out) (p:=⟨c4,0,none⟩) (h8.out) (.bool true)) (p:=⟨c4,1,none⟩) (h8.out) (.slice IC 2 cc))
    have e1:=hid (Below.setCell (Below.setCell (a3.out) (p:=⟨c4,0,none⟩) (h9.out) (.bool true)) (p:=⟨c4,1,none⟩) (h9.out) (.slice IC 2 cc))
    have k8:=hid (Blk.set_ (Blk.set_ (d0.out) 0 (.bool true)) 1 (.slice IC 2 cc))
    obtain ⟨t5,i2⟩:∃ w',w'=(((f8).setCell ⟨c4,0,none⟩ (.bool true)).setCell ⟨c4,1,none⟩ (.slice IC 2 cc)):=⟨_,rfl⟩
    rw [← i2] at g5 g6 e1 k8
    rw [← i2]
    clear i2 q7 q8 q9 r0 hlt_
    refine hK.out _ _ ⟨g5.out,g6.out⟩ (fun _=>?_);clear hK K
    try simp only [pq]
    refine' twH 10 ⟨g5.out,g6.out⟩ ?_
    refine' twH 11 ⟨g5.out,g6.out⟩ ?_
    try simp only [pq]
    refine wpAnyH_done (by kernel_rfl) ?_ _
    go_wp2
    go_meet
    exact ⟨_,_,_,rfl,rfl,rfl,k8.out,Blk.keep a6.out e1.out,Blk.keep a2.out e1.out,RdB.below b0.out e1.out,RdB.below b1.out e1.out,RdB.below a7.out e1.out,RdB.below a8.out e1.out,RdB.below d8.out e1.out,Below.trans b4.out (Below.mono e1.out (b4.out.size))⟩
   refine rdH rfl (fun K hK=>?_) ?_
   · -- 8: alloc
    replace a3:=bH a3 e7
    go_simp
    have i3:=hid (Nat.ne_of_lt (Blk.lt a0.out))
    have i4:=hid (Nat.ne_of_lt (Blk.lt a1.out))
    have i5:=hid (a3.out.size)
    obtain ⟨o_,ho_⟩:∃ o,o=(.cells #[.bool false,.slice none 0 0] 53:Obj):=⟨_,rfl⟩
    replace a0:=kA a0 o_
    replace a1:=kA a1 o_
    replace a3:=bA a3 o_
    subst ho_
    have c1:=hid (Blk.new (k4) 53 #[.bool false,.slice none 0 0])
    obtain ⟨c5,i6⟩:∃ g,g=(k4).heap.size:=⟨_,rfl⟩
    obtain ⟨t6,i7⟩:∃ w',w'=(k4).alloc (.cells #[.bool false,.slice none 0 0] 53):=⟨_,rfl⟩
    rw [← i7] at a0 a1 a3 c1
    rw [← i6] at i3 i4 i5 c1
    rw [← i6,← i7]
    clear i6 i7
    refine hK.out _ _ ⟨a0.out,a1.out⟩ (fun _=>?_);clear hK K
    try simp only [pq]
    refine oneH 3 rfl fun K hK=>?_
    go_simp
    go_at_call 17
    refine (j_clash _ A1 B1 (RdB.below b0.out a3.out) (RdB.below b1.out a3.out) EW_ kw GW_ lw (RdB.below d9.out a3.out) (RdB.below e0.out a3.out)).mono ?_
    rintro e f9 ⟨IC,cc,rfl,e8⟩
    dsimp only
    replace e8:=hid e8
    replace a0:=kH a0 e8
    replace a1:=kH a1 e8
    refine hK.out _ _ ⟨a0.out,a1.out⟩ (fun _=>?_);clear hK K
    try simp only [pq]
    refine' twH 4 ⟨a0.out,a1.out⟩ ?_
    refine' twH 5 ⟨a0.out,a1.out⟩ ?_
    refine' twH 6 ⟨a0.out,a1.out⟩ ?_
    refine' twH 7 ⟨a0.out,a1.out⟩ ?_
    try simp only [pq]
    refine oneH 9 rfl fun K hK=>?_
    replace c1:=kH c1 e8
    replace a3:=bH a3 e8
    have r1:(f9).cell? ⟨c5,0,none⟩=some (.bool false):=Blk.cell (c1.out) 0
    have r2:(f9).frozen? ⟨c5,0,none⟩=false:=Blk.frozen (c1.out) 0
    have r3:(f9).cell? ⟨c5,1,none⟩=some (.slice none 0 0):=Blk.cell (c1.out) 1
    have r4:(f9).frozen? ⟨c5,1,none⟩=false:=Blk.frozen (c1.out) 1
    have hlt_:=Blk.lt (c1.out)
    go_simp
    have g7:=hid (Blk.far (Blk.far (a0.out) (p:=⟨c5,0,none⟩) (i3.out) (.bool true)) (p:=⟨c5,1,none⟩) (i3.out) (.slice IC 2 cc))
    have g8:=hid (Blk.far (Blk.far (a1.out) (p:=⟨c5,0,none⟩) (i4.out) (.bool true)) (p:=⟨c5,1,none⟩) (i4.out) (.slice IC 2 cc))
    have e2:=hid (Below.setCell (Below.setCell (a3.out) (p:=⟨c5,0,none⟩) (i5.out) (.bool true)) (p:=⟨c5,1,none⟩) (i5.out) (.slice IC 2 cc))
    have k9:=hid (Blk.set_ (Blk.set_ (c1.out) 0 (.bool true)) 1 (.slice IC 2 cc))
    obtain ⟨t7,i8⟩:∃ w',w'=(((f9).setCell ⟨c5,0,none⟩ (.bool true)).setCell ⟨c5,1,none⟩ (.slice IC 2 cc)):=⟨_,rfl⟩
    rw [← i8] at g7 g8 e2 k9
    rw [← i8]
    clear i8 r1 r2 r3 r4 hlt_
    refine hK.out _ _ ⟨g7.out,g8.out⟩ (fun _=>?_);clear hK K
    try simp only [pq]
    refine' twH 10 ⟨g7.out,g8.out⟩ ?_
    refine' twH 11 ⟨g7.out,g8.out⟩ ?_
    try simp only [pq]
    refine wpAnyH_done (by kernel_rfl) ?_ _
    go_wp2
    go_meet
    exact ⟨_,_,_,rfl,rfl,rfl,k9.out,Blk.keep a6.out e2.out,Blk.keep a2.out e2.out,RdB.below b0.out e2.out,RdB.below b1.out e2.out,RdB.below a7.out e2.out,RdB.below a8.out e2.out,RdB.below d8.out e2.out,Below.trans b4.out (Below.mono e2.out (b4.out.size))⟩
   exact AllReadyH.nil
  refine rdH rfl (fun K hK=>?_) ?_
  · -- 8: alloc
   go_simp
   have i9:=hid (Nat.ne_of_lt (Blk.lt a0.out))
   have j0:=hid (Nat.ne_of_lt (Blk.lt a1.out))
   have j1:=hid (a3.out.size)
   obtain ⟨o_,ho_⟩:∃ o,o=(.cells #[.bool false,.slice none 0 0] 53:Obj):=⟨_,rfl⟩
   replace a0:=kA a0 o_
   replace a1:=kA a1 o_
   replace a3:=bA a3 o_
   subst ho_
   have c2:=hid (Blk.new (k3) 53 #[.bool false,.slice none 0 0])
   obtain ⟨c6,j2⟩:∃ g,g=(k3).heap.size:=⟨_,rfl⟩
   obtain ⟨t8,j3⟩:∃ w',w'=(k3).alloc (.cells #[.bool false,.slice none 0 0] 53):=⟨_,rfl⟩
   rw [← j3] at a0 a1 a3 c2
   rw [← j2] at i9 j0 j1 c2
   rw [← j2,← j3]
   clear j2 j3
   refine hK.out _ _ ⟨a0.out,a1.out⟩ (fun _=>?_);clear hK K
   try simp only [pq]
   refine oneH 2 rfl fun K hK=>?_
   go_simp
   go_at_call 12
   refine (of_any 0 2 0 2 _).mono ?_
   rintro e t9 ⟨rfl,e9⟩
   dsimp only
   replace e9:=hid e9
   replace a0:=kH a0 e9
   replace a1:=kH a1 e9
   refine hK.out _ _ ⟨a0.out,a1.out⟩ (fun _=>?_);clear hK K
   try simp only [pq]
   refine oneH 3 rfl fun K hK=>?_
   replace a3:=bH a3 e9
   go_simp
   go_at_call 17
   refine (j_clash _ A1 B1 (RdB.below b0.out a3.out) (RdB.below b1.out a3.out) EW_ kw GW_ lw (RdB.below d9.out a3.out) (RdB.below e0.out a3.out)).mono ?_
   rintro e g0 ⟨IC,cc,rfl,f0⟩
   dsimp only
   replace f0:=hid f0
   replace a0:=kH a0 f0
   replace a1:=kH a1 f0
   refine hK.out _ _ ⟨a0.out,a1.out⟩ (fun _=>?_);clear hK K
   try simp only [pq]
   refine' twH 4 ⟨a0.out,a1.out⟩ ?_
   refine' twH 5 ⟨a0.out,a1.out⟩ ?_
   refine' twH 6 ⟨a0.out,a1.out⟩ ?_
   refine' twH 7 ⟨a0.out,a1.out⟩ ?_
   try simp only [pq]
   refine oneH 9 rfl fun K hK=>?_
   replace c2:=kH (kH c2 e9) f0
   replace a3:=bH a3 f0
   have r5:(g0).cell? ⟨c6,0,none⟩=some (.bool false):=Blk.cell (c2.out) 0
   have r6:(g0).frozen? ⟨c6,0,none⟩=false:=Blk.frozen (c2.out) 0
   have r7:(g0).cell? ⟨c6,1,none⟩=some (.slice none 0 0):=Blk.cell (c2.out) 1
   have r8:(g0).frozen? ⟨c6,1,none⟩=false:=Blk.frozen (c2.out) 1
   have hlt_:=Blk.lt (c2.out)
   go_simp
   have g9:=hid (Blk.far (Blk.far (a0.out) (p:=⟨c6,0,none⟩) (i9.out) (.bool true)) (p:=⟨c6,1,none⟩) (i9.out) (.slice IC 2 cc))
   have h0:=hid (Blk.far (Blk.far (a1.out) (p:=⟨c6,0,none⟩) (j0.out) (.bool true)) (p:=⟨c6,1,none⟩) (j0.out) (.slice IC 2 cc))
   have e3:=hid (Below.setCell (Below.setCell (a3.out) (p:=⟨c6,0,none⟩) (j1.out) (.bool true)) (p:=⟨c6,1,none⟩) (j1.out) (.slice IC 2 cc))
   have l0:=hid (Blk.set_ (Blk.set_ (c2.out) 0 (.bool true)) 1 (.slice IC 2 cc))
   obtain ⟨u0,j4⟩:∃ w',w'=(((g0).setCell ⟨c6,0,none⟩ (.bool true)).setCell ⟨c6,1,none⟩ (.slice IC 2 cc)):=⟨_,rfl⟩
   rw [← j4] at g9 h0 e3 l0
   rw [← j4]
   clear j4 r5 r6 r7 r8 hlt_
   refine hK.out _ _ ⟨g9.out,h0.out⟩ (fun _=>?_);clear hK K
   try simp only [pq]
   refine' twH 10 ⟨g9.out,h0.out⟩ ?_
   refine' twH 11 ⟨g9.out,h0.out⟩ ?_
   try simp only [pq]
   refine wpAnyH_done (by kernel_rfl) ?_ _
   go_wp2
   go_meet
   exact ⟨_,_,_,rfl,rfl,rfl,l0.out,Blk.keep a6.out e3.out,Blk.keep a2.out e3.out,RdB.below b0.out e3.out,RdB.below b1.out e3.out,RdB.below a7.out e3.out,RdB.below a8.out e3.out,RdB.below d8.out e3.out,Below.trans b4.out (Below.mono e3.out (b4.out.size))⟩
  exact AllReadyH.nil
 case rest =>
  obtain ⟨gF,I,ci,rfl,rfl,rfl,kf,kba,kbb,kra,krb,krc,krd,krm,kbel⟩:=hcut
  have HJ0:=hid (And.intro kf (And.intro kba (And.intro kbb (And.intro kra (And.intro krb (And.intro krc (And.intro krd (And.intro krm kbel))))))))
  clear b4 b0 b1 a6 a7 a8 a2 d8 d9 e0 f5 kf kba kbb kra krb krc krd krm kbel
  go_upto_region 10 with fail
  go_cut [19,20] from 73 to 171 (fun s19 s20 wx=>s19=.bool true∧s20=.int .i64 0∧Blk wx gF 53 #[.bool true,.slice I 2 ci]∧Blk wx (f3.heap.size) 35 #[.int .i64 3,.slice A1 6 6,.slice B1 4 4]∧Blk wx (e6.heap.size) 35 #[.int .i64 3,.slice C1 6 6,.slice D1 4 4]∧RdB wx A1 6 6 fW∧RdB wx B1 4 4 fT∧RdB wx C1 6 6 sW∧RdB wx D1 4 4 sT∧RdB wx EM 1 cm ([⟨0,2,0,2⟩].map pB)∧Below w.heap.size w wx)
  case first =>
   refine wp_region_held_drew (S:=fun wx=>Blk wx gF 53 #[.bool true,.slice I 2 ci]∧Blk wx (f3.heap.size) 35 #[.int .i64 3,.slice A1 6 6,.slice B1 4 4]∧Blk wx (e6.heap.size) 35 #[.int .i64 3,.slice C1 6 6,.slice D1 4 4]∧RdB wx A1 6 6 fW∧RdB wx B1 4 4 fT∧RdB wx C1 6 6 sW∧RdB wx D1 4 4 sT∧RdB wx EM 1 cm ([⟨0,2,0,2⟩].map pB)∧Below w.heap.size w wx) (by kernel_rfl) ?_ (fun hj=>?_)
   · obtain ⟨kf,kba,kbb,kra,krb,krc,krd,krm,kbel⟩:=HJ0.out
     exact ⟨kf.drew,kba.drew,kbb.drew,kra.drew,krb.drew,krc.drew,krd.drew,krm.drew,kbel.drew⟩
   · refine joined_r10 A1 B1 C1 D1 (fun wx=>Blk wx gF 53 #[.bool true,.slice I 2 ci]∧Blk wx (f3.heap.size) 35 #[.int .i64 3,.slice A1 6 6,.slice B1 4 4]∧Blk wx (e6.heap.size) 35 #[.int .i64 3,.slice C1 6 6,.slice D1 4 4]∧RdB wx A1 6 6 fW∧RdB wx B1 4 4 fT∧RdB wx C1 6 6 sW∧RdB wx D1 4 4 sT∧RdB wx EM 1 cm ([⟨0,2,0,2⟩].map pB)∧Below w.heap.size w wx) ?_ ?_ ?_ ?_ ?_ _ hj
     · rintro W o ⟨kf,kba,kbb,kra,krb,krc,krd,krm,kbel⟩
       exact ⟨kf.alloc o,kba.alloc o,kbb.alloc o,kra.alloc o,krb.alloc o,krc.alloc o,krd.alloc o,krm.alloc o,kbel.alloc kbel.size o⟩
     · rintro W W' ⟨kf,kba,kbb,kra,krb,krc,krd,krm,kbel⟩ hb
       exact ⟨kf.keep hb,kba.keep hb,kbb.keep hb,kra.below hb,krb.below hb,krc.below hb,krd.below hb,krm.below hb,kbel.trans (hb.mono kbel.size)⟩
     · rintro W ⟨kf,kba,kbb,kra,krb,krc,krd,krm,kbel⟩
       exact ⟨kba,kbb,kra,krb,krc,krd⟩
     · exact fun _ _ _ _ _ h=>h
     · intro u73 u74 u75 u76 u77 u78 u79 u80 u81 u82 u83 u84 W hj
       clear HJ0
       have HJ:=hid hj;clear hj
       go_wp2
       go_meet
       exact ⟨rfl,rfl,HJ.out⟩
  case rest =>
   obtain ⟨rfl,rfl,kf,kba,kbb,kra,krb,krc,krd,krm,kbel⟩:=hcut
   clear HJ0
   obtain ⟨wd,hwd⟩:∃ x,x=wc:=⟨_,rfl⟩
   rw [← hwd] at kf kba kbb kra krb krc krd krm kbel ⊢
   clear hwd
   have b2:=hid (kf)
   have a4:=hid (kba)
   have a5:=hid (kbb)
   have b5:=hid (kra)
   have b6:=hid (krb)
   have b7:=hid (krc)
   have b8:=hid (krd)
   have b3:=hid (krm)
   have a9:=hid (kbel)
   clear kf kba kbb kra krb krc krd krm kbel
   go_upto_region 13 with fail
   go_cut [21,22] from 115 to 171 (fun s21 s22 wx=>∃ (X:Option Addr) (cx:Nat),s21=.slice X 2 cx∧s22=.int .i64 0∧RdI wx X 2 cx [1,6]∧Blk wx gF 53 #[.bool true,.slice I 2 ci]∧RdB wx EM 1 cm ([⟨0,2,0,2⟩].map pB)∧Below w.heap.size w wx)
   case first =>
    replace b2:=kD b2
    replace a4:=kD a4
    replace a5:=kD a5
    replace b5:=rD b5
    replace b6:=rD b6
    replace b7:=rD b7
    replace b8:=rD b8
    replace b3:=rD b3
    replace a9:=bD a9
    refine wp_region_held_drew (S:=(fun W'=>Blk W' (f3.heap.size) 35 #[.int .i64 3,.slice A1 6 6,.slice B1 4 4]∧Blk W' (e6.heap.size) 35 #[.int .i64 3,.slice C1 6 6,.slice D1 4 4])) (by kernel_rfl) ⟨a4.out,a5.out⟩ (fun _=>?_)
    obtain ⟨k6,j5⟩:∃ w',w'=(wd.drew):=⟨_,rfl⟩
    rw [← j5] at b2 a4 a5 b5 b6 b7 b8 b3 a9
    rw [← j5]
    clear j5
    refine' tkH 0 ⟨a4.out,a5.out⟩ ?l9 ?_
    case l9=>(rintro W' ⟨hS0,hS1⟩;have hc0:=Blk.nth hS0 0;have hc1:=Blk.nth hS0 1;have hc2:=Blk.nth hS0 2;clear hS0 hS1;go_simp;try with_reducible rfl)
    refine' tkH 1 ⟨a4.out,a5.out⟩ ?m0 ?_
    case m0=>(rintro W' ⟨hS0,hS1⟩;have hc0:=Blk.nth hS1 0;have hc1:=Blk.nth hS1 1;have hc2:=Blk.nth hS1 2;clear hS0 hS1;go_simp;try with_reducible rfl)
    try simp only [pq]
    refine wpAnyH_ready (rs:=[2,3]) (by kernel_rfl) (by simp) ?_
    refine rdH rfl (fun K hK=>?_) ?_
    · -- 2: call
     go_simp
     go_at_call 12
     refine (of_any 0 1 0 1 _).mono ?_
     rintro e k7 ⟨rfl,c3⟩
     dsimp only
     replace c3:=hid c3
     replace a4:=kH a4 c3
     replace a5:=kH a5 c3
     refine hK.out _ _ ⟨a4.out,a5.out⟩ (fun _=>?_);clear hK K
     try simp only [pq]
     refine oneH 3 rfl fun K hK=>?_
     replace b2:=kH b2 c3
     replace b5:=rH b5 c3
     replace b6:=rH b6 c3
     replace b7:=rH b7 c3
     replace b8:=rH b8 c3
     replace b3:=rH b3 c3
     replace a9:=bH a9 c3
     go_simp
     have p1:=hid (Nat.ne_of_lt (Blk.lt b2.out))
     have p2:=hid (Nat.ne_of_lt (Blk.lt a4.out))
     have p3:=hid (Nat.ne_of_lt (Blk.lt a5.out))
     have p4:=hid (a9.out.size)
     obtain ⟨o_,ho_⟩:∃ o,o=(.cells #[.int .i64 0,.int .i64 7] 3:Obj):=⟨_,rfl⟩
     replace b2:=kA b2 o_
     replace a4:=kA a4 o_
     replace a5:=kA a5 o_
     replace b5:=rA b5 o_
     replace b6:=rA b6 o_
     replace b7:=rA b7 o_
     replace b8:=rA b8 o_
     replace b3:=rA b3 o_
     replace a9:=bA a9 o_
     subst ho_
     have g1:=hid (Blk.new (k7) 3 #[.int .i64 0,.int .i64 7])
     obtain ⟨u1,j6⟩:∃ g,g=(k7).heap.size:=⟨_,rfl⟩
     obtain ⟨u2,j7⟩:∃ w',w'=(k7).alloc (.cells #[.int .i64 0,.int .i64 7] 3):=⟨_,rfl⟩
     rw [← j7] at b2 a4 a5 b5 b6 b7 b8 b3 a9 g1
     rw [← j6] at p1 p2 p3 p4 g1
     rw [← j6,← j7]
     clear j6 j7
     have m1:=hid (rdI_blk (g1.out))
     refine hK.out _ _ ⟨a4.out,a5.out⟩ (fun _=>?_);clear hK K
     try simp only [pq]
     refine' twH 4 ⟨a4.out,a5.out⟩ ?_
     try simp only [pq]
     refine oneH 5 rfl fun K hK=>?_
     go_simp
     go_at_call 19
     refine (j_rests _ A1 B1 C1 D1 b5.out b6.out b7.out b8.out _ m1.out).mono ?_
     rintro e u3 ⟨XR,cr,rfl,hrx,e4⟩
     dsimp only
     replace e4:=hid e4
     have m2:=hid (hrx)
     replace a4:=kH a4 e4
     replace a5:=kH a5 e4
     refine hK.out _ _ ⟨a4.out,a5.out⟩ (fun _=>?_);clear hK K
     try simp only [pq]
     refine' twH 6 ⟨a4.out,a5.out⟩ ?_
     refine' twH 7 ⟨a4.out,a5.out⟩ ?_
     refine' twH 8 ⟨a4.out,a5.out⟩ ?_
     refine' twH 9 ⟨a4.out,a5.out⟩ ?_
     try simp only [pq]
     refine' twH 10 ⟨a4.out,a5.out⟩ ?_
     try simp only [pq]
     refine wpAnyH_done (by kernel_rfl) ?_ _
     go_wp2
     go_meet
     replace b2:=kH b2 e4
     replace b3:=rH b3 e4
     replace a9:=bH a9 e4
     exact ⟨_,_,rfl,rfl,m2.out,b2.out,b3.out,a9.out⟩
    refine rdH rfl (fun K hK=>?_) ?_
    · -- 3: buildSlice
     go_simp
     have p5:=hid (Nat.ne_of_lt (Blk.lt b2.out))
     have p6:=hid (Nat.ne_of_lt (Blk.lt a4.out))
     have p7:=hid (Nat.ne_of_lt (Blk.lt a5.out))
     have p8:=hid (a9.out.size)
     obtain ⟨o_,ho_⟩:∃ o,o=(.cells #[.int .i64 0,.int .i64 7] 3:Obj):=⟨_,rfl⟩
     replace b2:=kA b2 o_
     replace a4:=kA a4 o_
     replace a5:=kA a5 o_
     replace b5:=rA b5 o_
     replace b6:=rA b6 o_
     replace b7:=rA b7 o_
     replace b8:=rA b8 o_
     replace b3:=rA b3 o_
     replace a9:=bA a9 o_
     subst ho_
     have g2:=hid (Blk.new (k6) 3 #[.int .i64 0,.int .i64 7])
     obtain ⟨u4,j8⟩:∃ g,g=(k6).heap.size:=⟨_,rfl⟩
     obtain ⟨u5,j9⟩:∃ w',w'=(k6).alloc (.cells #[.int .i64 0,.int .i64 7] 3):=⟨_,rfl⟩
     rw [← j9] at b2 a4 a5 b5 b6 b7 b8 b3 a9 g2
     rw [← j8] at p5 p6 p7 p8 g2
     rw [← j8,← j9]
     clear j8 j9
     have g3:=hid (rdI_blk (g2.out))
     refine hK.out _ _ ⟨a4.out,a5.out⟩ (fun _=>?_);clear hK K
     try simp only [pq]
     refine' twH 4 ⟨a4.out,a5.out⟩ ?_
     try simp only [pq]
     refine oneH 2 rfl fun K hK=>?_
     go_simp
     go_at_call 12
     refine (of_any 0 1 0 1 _).mono ?_
     rintro e u6 ⟨rfl,c0⟩
     dsimp only
     replace c0:=hid c0
     replace a4:=kH a4 c0
     replace a5:=kH a5 c0
     refine hK.out _ _ ⟨a4.out,a5.out⟩ (fun _=>?_);clear hK K
     try simp only [pq]
     refine oneH 5 rfl fun K hK=>?_
     replace b5:=rH b5 c0
     replace b6:=rH b6 c0
     replace b7:=rH b7 c0
     replace b8:=rH b8 c0
     replace g3:=iH g3 c0
     go_simp
     go_at_call 19
     refine (j_rests _ A1 B1 C1 D1 b5.out b6.out b7.out b8.out _ g3.out).mono ?_
     rintro e u7 ⟨XR,cr,rfl,hrx,e5⟩
     dsimp only
     replace e5:=hid e5
     have m3:=hid (hrx)
     replace a4:=kH a4 e5
     replace a5:=kH a5 e5
     refine hK.out _ _ ⟨a4.out,a5.out⟩ (fun _=>?_);clear hK K
     try simp only [pq]
     refine' twH 6 ⟨a4.out,a5.out⟩ ?_
     refine' twH 7 ⟨a4.out,a5.out⟩ ?_
     refine' twH 8 ⟨a4.out,a5.out⟩ ?_
     refine' twH 9 ⟨a4.out,a5.out⟩ ?_
     try simp only [pq]
     refine' twH 10 ⟨a4.out,a5.out⟩ ?_
     try simp only [pq]
     refine wpAnyH_done (by kernel_rfl) ?_ _
     go_wp2
     go_meet
     replace b2:=kH (kH b2 c0) e5
     replace b3:=rH (rH b3 c0) e5
     replace a9:=bH (bH a9 c0) e5
     exact ⟨_,_,rfl,rfl,m3.out,b2.out,b3.out,a9.out⟩
    exact AllReadyH.nil
   case rest =>
    obtain ⟨X,cx,rfl,rfl,krx,kf,krm,kbel⟩:=hcut
    clear b2 a4 a5 b5 b6 b7 b8 b3 a9
    obtain ⟨we,hwe⟩:∃ x,x=wc:=⟨_,rfl⟩
    rw [← hwe] at krx kf krm kbel ⊢
    clear hwe
    have b9:=hid (kf)
    have f1:=hid (krx)
    have f2:=hid (krm)
    have c7:=hid (kbel)
    clear kf krx krm kbel
    obtain ⟨p9,q0⟩:=at2 b9
    have hc:=of_any 0 2 0 2 (we)
    have HC:=hid hc;clear hc
    go_wp2_with fail
    refine HC.out.mono ?_
    rintro e k0 ⟨rfl,hb⟩
    clear HC
    clear p9 q0
    have f6:=hid hb
    clear hb
    obtain ⟨o_,ho_⟩:∃ o,o=((.cells #[.int .i64 0,.int .i64 2,.int .i64 0,.int .i64 2] 25):Obj):=⟨_,rfl⟩
    replace b9:=kA (kH b9 f6) o_
    replace f1:=iA (iH f1 f6) o_
    replace f2:=rA (rH f2 f6) o_
    replace c7:=bA (bH c7 f6) o_
    subst ho_
    obtain ⟨q1,q2⟩:=at2 b9
    have hc:=SamePairings_any EM (some ⟨k0.heap.size,0,none⟩) 1 cm 1 1 [⟨0,2,0,2⟩] [⟨0,2,0,2⟩] ((k0.alloc (.cells #[.int .i64 0,.int .i64 2,.int .i64 0,.int .i64 2] 25))) f2.out (rdB_newP k0 ⟨0,2,0,2⟩) (by unfold maxLen;omega)
    rw [decide_eq_true rfl] at hc
    try dsimp only at hc
    have HC:=hid hc;clear hc
    go_wp2_with fail
    refine HC.out.mono ?_
    rintro e k1 ⟨rfl,hb⟩
    clear HC
    clear q1 q2
    have f7:=hid hb
    clear hb
    replace b9:=kH b9 f7
    obtain ⟨q3,q4⟩:=at2 b9
    obtain ⟨o_,ho_⟩:∃ o,o=((.cells #[.int .i64 1,.int .i64 6] 3):Obj):=⟨_,rfl⟩
    replace b9:=kA b9 o_
    replace f1:=iA (iH f1 f7) o_
    replace f2:=rA (rH f2 f7) o_
    replace c7:=bA (bH c7 f7) o_
    subst ho_
    have hc:=Same_yes2 X (some ⟨k1.heap.size,0,none⟩) 2 cx 2 2 [1,6] ((k1.alloc (.cells #[.int .i64 1,.int .i64 6] 3))) f1.out (rdI_new k1 [1,6] 2 rfl) (by unfold maxLen;omega)
    have HC:=hid hc;clear hc
    go_wp2_with fail
    refine HC.out.mono ?_
    rintro e s5 ⟨rfl,hb⟩
    clear HC
    clear q3 q4
    have k2:=hid hb
    clear hb
    replace b9:=kH b9 k2
    obtain ⟨s6,s7⟩:=at2 b9
    go_wp2
    go_ret
    replace c7:=bH c7 k2
    exact ⟨rfl,c7.out⟩
end Go.Proofs.YtebkniakflhhkaaGreatDoor
