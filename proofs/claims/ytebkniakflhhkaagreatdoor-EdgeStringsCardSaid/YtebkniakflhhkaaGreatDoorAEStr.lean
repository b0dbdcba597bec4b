import Derived.Test.YtebkniakflhhkaaGreatDoorAEMap
set_option maxHeartbeats 4000000
set_option linter.unusedSimpArgs false
set_option linter.unusedVariables false
namespace Go.Proofs.YtebkniakflhhkaaGreatDoor
open Go.Lib (hid)
open Go.RowKit
theorem compare_is (x y:Int) (w:World):Calls Tryz.prog 67 #[.int .i64 x,.int .i64 y] w fun e w'=>e=.returned (.int .i64 (Lib.compareInt x y))∧w=w':=by
 by_cases h1:x<y
 · have hc:Lib.compareInt x y=-1:=by unfold Lib.compareInt;rw [if_pos h1]
   rw [hc];clear hc
   go_enter Tryz.func67,Tryz.ntmps67
   go_wp2
   go_ret
   exact ⟨rfl,rfl⟩
 · by_cases h2:y<x
   · have hc:Lib.compareInt x y=1:=by unfold Lib.compareInt;rw [if_neg h1,if_pos h2]
     rw [hc];clear hc
     go_enter Tryz.func67,Tryz.ntmps67
     go_wp2
     go_ret
     exact ⟨rfl,rfl⟩
   · have hc:Lib.compareInt x y=0:=by unfold Lib.compareInt;rw [if_neg h1,if_neg h2]
     rw [hc];clear hc
     go_enter Tryz.func67,Tryz.ntmps67
     go_wp2
     go_ret
     exact ⟨rfl,rfl⟩
def orI (a b c:Int):Int:=if a≠0 then a else if b≠0 then b else c
set_option maxRecDepth 100000 in
theorem or_is (a b c:Int) (g:Nat) (w:World) (hg:Blk w g 3 #[.int .i64 a,.int .i64 b,.int .i64 c]) :
 Calls Tryz.prog 66 #[.slice (some ⟨g,0,none⟩) 3 3] w fun e w'=>e=.returned (.int .i64 (orI a b c))∧w=w':=by
 have c0:w.cell? ⟨g,0,none⟩=some (.int .i64 a):=hg.cell 0
 have c1:w.cell? ⟨g,1,none⟩=some (.int .i64 b):=hg.cell 1
 have c2:w.cell? ⟨g,2,none⟩=some (.int .i64 c):=hg.cell 2
 clear hg
 obtain ⟨r,hr⟩:∃ r,orI a b c=r:=⟨_,rfl⟩
 rw [hr]
 have HR:=hid hr;clear hr
 go_enter Tryz.func66,Tryz.ntmps66
 go_wp2
 go_loopw [8] (fun i wr=>(i=.int .i64 0∨(i=.int .i64 1∧a=0)∨(i=.int .i64 2∧a=0∧b=0)∨(i=.int .i64 3∧a=0∧b=0∧c=0))∧w=wr) (fun i _=>3-(intOf i).toNat)
 case atStart=>exact ⟨.inl rfl,rfl⟩
 case round =>
  obtain ⟨hi,rfl⟩:=hrel
  rcases hi with rfl|⟨rfl,ha⟩|⟨rfl,ha,hb⟩|⟨rfl,ha,hb,hc⟩
  · by_cases h:a=0
    · have hb:(a != 0)=false:=by simpa using h
      have HH:=hid h;clear h
      go_wp2
      go_roundw
      case rel=>exact ⟨.inr (.inl ⟨by go_num,HH.out⟩),by first|rfl|trivial⟩
      case measure=>simp [intOf]
    · have hb:(a != 0)=true:=by simpa using h
      have e:r=a:=by rw [← HR.out];unfold orI;rw [if_pos h]
      clear h
      subst e
      go_wp2
      go_ret
      exact ⟨rfl,rfl⟩
  · have HA:=hid ha;clear ha
    by_cases h:b=0
    · have hb:(b != 0)=false:=by simpa using h
      have HH:=hid h;clear h
      go_wp2
      go_roundw
      case rel=>exact ⟨.inr (.inr (.inl ⟨by go_num,HA.out,HH.out⟩)),by first|rfl|trivial⟩
      case measure=>simp [intOf]
    · have hb:(b != 0)=true:=by simpa using h
      have e:r=b:=by rw [← HR.out];unfold orI;rw [if_neg (by simpa using HA.out),if_pos h]
      clear h
      subst e
      go_wp2
      go_ret
      exact ⟨rfl,rfl⟩
  · have HA:=hid ha;have HB:=hid hb;clear ha hb
    by_cases h:c=0
    · have hb:(c != 0)=false:=by simpa using h
      have HH:=hid h;clear h
      go_wp2
      go_roundw
      case rel=>exact ⟨.inr (.inr (.inr ⟨by go_num,HA.out,HB.out,HH.out⟩)),by first|rfl|trivial⟩
      case measure=>simp [intOf]
    · have hb:(c != 0)=true:=by simpa using h
      have e:r=c:=by rw [← HR.out];unfold orI;rw [if_neg (by simpa using HA.out),if_neg (by simpa using HB.out)]
      clear h
      subst e
      go_wp2
      go_ret
      exact ⟨rfl,rfl⟩
  · have HA:=hid ha;have HB:=hid hb;have HC:=hid hc;clear ha hb hc
    have e:r=0:=by rw [← HR.out];unfold orI;rw [if_neg (by simpa using HA.out),if_neg (by simpa using HB.out),HC.out]
    subst e
    go_wp2
    go_ret
    exact ⟨rfl,rfl⟩
def Gr (W W':World):Prop:=∃ q os,W'=Sort.grow (W.drewN q) os
theorem Gr.refl (W:World):Gr W W:=⟨0,#[],by simp [Sort.grow,World.drewN]⟩
theorem Gr.alloc {W W':World} (h:Gr W W') (o:Obj):Gr W (W'.alloc o):=by
 obtain ⟨q,os,rfl⟩:=h
 exact ⟨q,os++#[o],by rw [Sort.alloc_eq_grow,Sort.grow_grow]⟩
theorem Gr.drew {W W':World} (h:Gr W W'):Gr W W'.drew:=by
 obtain ⟨q,os,rfl⟩:=h
 exact ⟨q+1,os,rfl⟩
def cmpP (p q:Prg):Int:=orI (Lib.compareInt p.af q.af) (Lib.compareInt p.at2 q.at2) (Lib.compareInt p.bf q.bf)
set_option maxRecDepth 100000 in
theorem byStretches_is (p1 p2 p3 p4 q1 q2 q3 q4:Int) (w:World) :
 Calls Tryz.prog 40 #[.agg #[.int .i64 p1,.int .i64 p2,.int .i64 p3,.int .i64 p4],.agg #[.int .i64 q1,.int .i64 q2,.int .i64 q3,.int .i64 q4]] w fun e w'=>e=.returned (.int .i64 (cmpP ⟨p1,p2,p3,p4⟩ ⟨q1,q2,q3,q4⟩))∧Gr w w':=by
 unfold cmpP
 obtain ⟨r1,hr1⟩:∃ r,Lib.compareInt p1 q1=r:=⟨_,rfl⟩
 obtain ⟨r2,hr2⟩:∃ r,Lib.compareInt p2 q2=r:=⟨_,rfl⟩
 obtain ⟨r3,hr3⟩:∃ r,Lib.compareInt p3 q3=r:=⟨_,rfl⟩
 dsimp only
 rw [hr1,hr2,hr3]
 obtain ⟨r,hr⟩:∃ r,orI r1 r2 r3=r:=⟨_,rfl⟩
 rw [hr]
 have Er1:=hid hr1;have Er2:=hid hr2;have Er3:=hid hr3;have ER:=hid hr;clear hr1 hr2 hr3 hr
 have gr0:=Gr.refl w
 go_enter Tryz.func40,Tryz.ntmps40
 have a2:=hid (show Below w.heap.size w w from Below.refl _ w)
 have a3:=hid (gr0)
 clear gr0
 obtain ⟨o_,ho_⟩:∃ o,o=((.cells #[.int .i64 p1,.int .i64 p2,.int .i64 p3,.int .i64 p4] 25):Obj):=⟨_,rfl⟩
 replace a2:=bA a2 o_
 replace a3:=hid (Gr.alloc (a3.out) (o_))
 subst ho_
 have a0:=hid (Blk.new w 25 #[.int .i64 p1,.int .i64 p2,.int .i64 p3,.int .i64 p4])
 obtain ⟨o_,ho_⟩:∃ o,o=((.cells #[.int .i64 q1,.int .i64 q2,.int .i64 q3,.int .i64 q4] 25):Obj):=⟨_,rfl⟩
 replace a2:=bA a2 o_
 replace a3:=hid (Gr.alloc (a3.out) (o_))
 replace a0:=kA a0 o_
 subst ho_
 have nb_:=Blk.new (w.alloc (.cells #[.int .i64 p1,.int .i64 p2,.int .i64 p3,.int .i64 p4] 25)) 25 #[.int .i64 q1,.int .i64 q2,.int .i64 q3,.int .i64 q4]
 simp only [World.size_alloc] at nb_
 have a1:=hid nb_;clear nb_
 obtain ⟨c1,c2,c3,c4⟩:=at4 a0
 obtain ⟨c5,b8,b9,c0⟩:=at4 a1
 go_wp2_with fail
 clear c1 c2 c3 c4 c5 b8 b9 c0
 replace a2:=bD a2
 replace a3:=hid (Gr.drew (a3.out))
 replace a0:=kD a0
 replace a1:=kD a1
 refine wp_region_held_drew (S:=(fun W'=>Blk W' (w.heap.size) 25 #[.int .i64 p1,.int .i64 p2,.int .i64 p3,.int .i64 p4]∧Blk W' (w.heap.size+1) 25 #[.int .i64 q1,.int .i64 q2,.int .i64 q3,.int .i64 q4])) (by kernel_rfl) ⟨a0.out,a1.out⟩ (fun _=>?_)
 obtain ⟨a8,a5⟩:∃ w',w'=(((w.alloc (.cells #[.int .i64 p1,.int .i64 p2,.int .i64 p3,.int .i64 p4] 25)).alloc (.cells #[.int .i64 q1,.int .i64 q2,.int .i64 q3,.int .i64 q4] 25)).drew):=⟨_,rfl⟩
 rw [← a5] at a2 a3 a0 a1
 rw [← a5]
 clear a5
 refine' twH 0 ⟨a0.out,a1.out⟩ ?_
 refine' twH 1 ⟨a0.out,a1.out⟩ ?_
 refine' tkH 2 ⟨a0.out,a1.out⟩ ?a9 ?_
 case a9=>(rintro W' ⟨hS0,hS1⟩;have hc0:=Blk.nth hS0 0;clear hS0 hS1;go_simp;try with_reducible rfl)
 refine' twH 3 ⟨a0.out,a1.out⟩ ?_
 try simp only [pq]
 refine' twH 4 ⟨a0.out,a1.out⟩ ?_
 refine' tkH 5 ⟨a0.out,a1.out⟩ ?b0 ?_
 case b0=>(rintro W' ⟨hS0,hS1⟩;have hc0:=Blk.nth hS1 0;clear hS0 hS1;go_simp;try with_reducible rfl)
 refine' twH 7 ⟨a0.out,a1.out⟩ ?_
 refine' twH 8 ⟨a0.out,a1.out⟩ ?_
 try simp only [pq]
 refine' tkH 9 ⟨a0.out,a1.out⟩ ?b1 ?_
 case b1=>(rintro W' ⟨hS0,hS1⟩;have hc0:=Blk.nth hS0 1;clear hS0 hS1;go_simp;try with_reducible rfl)
 refine' twH 10 ⟨a0.out,a1.out⟩ ?_
 refine' twH 11 ⟨a0.out,a1.out⟩ ?_
 refine' tkH 12 ⟨a0.out,a1.out⟩ ?b2 ?_
 case b2=>(rintro W' ⟨hS0,hS1⟩;have hc0:=Blk.nth hS1 1;clear hS0 hS1;go_simp;try with_reducible rfl)
 try simp only [pq]
 refine' twH 14 ⟨a0.out,a1.out⟩ ?_
 refine' twH 15 ⟨a0.out,a1.out⟩ ?_
 refine' tkH 16 ⟨a0.out,a1.out⟩ ?b3 ?_
 case b3=>(rintro W' ⟨hS0,hS1⟩;have hc0:=Blk.nth hS0 2;clear hS0 hS1;go_simp;try with_reducible rfl)
 refine' twH 17 ⟨a0.out,a1.out⟩ ?_
 try simp only [pq]
 refine' twH 18 ⟨a0.out,a1.out⟩ ?_
 refine' tkH 19 ⟨a0.out,a1.out⟩ ?b4 ?_
 case b4=>(rintro W' ⟨hS0,hS1⟩;have hc0:=Blk.nth hS1 2;clear hS0 hS1;go_simp;try with_reducible rfl)
 try simp only [pq]
 refine oneH 6 rfl fun K hK=>?_
 go_simp
 go_at_call 67
 refine (Calls.mono (compare_is p1 q1 _) (fun e w' h=>(show e=.returned (.int .i64 r1)∧_=w' from ⟨by rw [h.1,Er1.out],h.2⟩))).mono ?_
 rintro e c6 ⟨rfl,rfl⟩
 dsimp only
 refine hK.out _ _ ⟨a0.out,a1.out⟩ (fun _=>?_);clear hK K
 try simp only [pq]
 refine oneH 13 rfl fun K hK=>?_
 go_simp
 go_at_call 67
 refine (Calls.mono (compare_is p2 q2 _) (fun e w' h=>(show e=.returned (.int .i64 r2)∧_=w' from ⟨by rw [h.1,Er2.out],h.2⟩))).mono ?_
 rintro e c7 ⟨rfl,rfl⟩
 dsimp only
 refine hK.out _ _ ⟨a0.out,a1.out⟩ (fun _=>?_);clear hK K
 try simp only [pq]
 refine oneH 20 rfl fun K hK=>?_
 go_simp
 go_at_call 67
 refine (Calls.mono (compare_is p3 q3 _) (fun e w' h=>(show e=.returned (.int .i64 r3)∧_=w' from ⟨by rw [h.1,Er3.out],h.2⟩))).mono ?_
 rintro e c8 ⟨rfl,rfl⟩
 dsimp only
 refine hK.out _ _ ⟨a0.out,a1.out⟩ (fun _=>?_);clear hK K
 try simp only [pq]
 refine oneH 21 rfl fun K hK=>?_
 go_simp
 have b5:=hid (a2.out.size)
 have b6:=hid (Nat.ne_of_lt (Blk.lt a0.out))
 have b7:=hid (Nat.ne_of_lt (Blk.lt a1.out))
 obtain ⟨o_,ho_⟩:∃ o,o=(.cells #[.int .i64 r1,.int .i64 r2,.int .i64 r3] 3:Obj):=⟨_,rfl⟩
 replace a2:=bA a2 o_
 replace a3:=hid (Gr.alloc (a3.out) (o_))
 replace a0:=kA a0 o_
 replace a1:=kA a1 o_
 subst ho_
 have a4:=hid (Blk.new (a8) 3 #[.int .i64 r1,.int .i64 r2,.int .i64 r3])
 obtain ⟨c9,a6⟩:∃ g,g=(a8).heap.size:=⟨_,rfl⟩
 obtain ⟨d0,a7⟩:∃ w',w'=(a8).alloc (.cells #[.int .i64 r1,.int .i64 r2,.int .i64 r3] 3):=⟨_,rfl⟩
 rw [← a7] at a2 a3 a0 a1 a4
 rw [← a6] at b5 b6 b7 a4
 rw [← a6,← a7]
 clear a6 a7
 refine hK.out _ _ ⟨a0.out,a1.out⟩ (fun _=>?_);clear hK K
 try simp only [pq]
 refine oneH 22 rfl fun K hK=>?_
 go_simp
 go_at_call 66
 refine (Calls.mono (or_is r1 r2 r3 _ _ (a4.out)) (fun e w' h=>(show e=.returned (.int .i64 r)∧_=w' from ⟨by rw [h.1,ER.out],h.2⟩))).mono ?_
 rintro e d1 ⟨rfl,rfl⟩
 dsimp only
 refine hK.out _ _ ⟨a0.out,a1.out⟩ (fun _=>?_);clear hK K
 try simp only [pq]
 refine' twH 23 ⟨a0.out,a1.out⟩ ?_
 try simp only [pq]
 refine wpAnyH_done (by kernel_rfl) ?_ _
 have HK:=hid (a3.out)
 go_wp2
 go_ret
 exact ⟨rfl,HK.out⟩
end Go.Proofs.YtebkniakflhhkaaGreatDoor
