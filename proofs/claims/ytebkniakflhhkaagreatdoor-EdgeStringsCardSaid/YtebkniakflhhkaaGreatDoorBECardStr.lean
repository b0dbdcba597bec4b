import Derived.Test.YtebkniakflhhkaaGreatDoorRows
import Derived.Test.YtebkniakflhhkaaGreatDoorAEAlive
import Derived.Test.YtebkniakflhhkaaGreatDoorBEReadR
import Derived.Shelf.SlSortCmp.NoneTotal
import Derived.Test.YtebkniakflhhkaaGreatDoorAELongest
import Derived.Test.YtebkniakflhhkaaGreatDoorAERange
import Derived.Test.YtebkniakflhhkaaGreatDoorCards
import Derived.Test.YtebkniakflhhkaaGreatDoorTie
import Derived.LaidMore
import Derived.SevenTiedAt
import Derived.Stop.LaidErr
set_option maxHeartbeats 4000000
set_option linter.unusedSimpArgs false
set_option linter.unusedVariables false
namespace Go.Proofs.YtebkniakflhhkaaGreatDoor
open Go.Lib (hid)
open Go.RowKit
set_option maxRecDepth 100000 in
theorem estr_long (p1 p2 p3 p4:Int) (s:ByteArray) (w:World) (hlib:LibOK w) (h40:(40:Int)<(s.size:Int)):Calls Tryz.prog 3 #[.agg #[.int .i64 p1,.int .i64 p2,.int .i64 p3,.int .i64 p4],.string s] w fun e w'=>e=.returned (.bool true)∧Below w.heap.size w w':=by
 go_enter Tryz.func3,Tryz.ntmps3
 obtain ⟨a1,a0⟩:=ent1 w #[.int .i64 p1,.int .i64 p2,.int .i64 p3,.int .i64 p4] 25
 have a7:=hid (LibOK.keep (hlib) a0.out)
 clear hlib
 obtain ⟨a3,a4,a5,a6⟩:=at4 a1
 have hc:=joined_any ((w.alloc (.cells #[.int .i64 p1,.int .i64 p2,.int .i64 p3,.int .i64 p4] 25)))
 have HC:=hid hc;clear hc
 go_wp2_with fail
 refine HC.out.mono ?_
 rintro e b2 ⟨rfl,hb⟩
 clear HC
 clear a3 a4 a5 a6
 have a2:=hid hb
 clear hb
 replace a1:=kH a1 a2
 obtain ⟨a8,a9,b0,b1⟩:=at4 a1
 go_wp2
 go_ret
 replace a0:=bH a0 a2
 exact ⟨rfl,a0.out⟩
set_option maxRecDepth 100000 in
theorem estr_tt (p1 p2 p3 p4:Int) (s:ByteArray) (w:World) (hlib:LibOK w) (h40:¬ (40:Int)<(s.size:Int)) (t:ByteArray) (HS:Hid (wrS ⟨p1,p2,p3,p4⟩=t)) (HE:Hid (wrE ⟨p1,p2,p3,p4⟩=0)) (HB:Hid (rdP t=⟨p1,p2,p3,p4⟩∧rdE t=0)) (hts:t.size≤100000) (q1 q2 q3 q4:Int) (HR:Hid (rdP s=⟨q1,q2,q3,q4⟩∧rdE s=0)) (HW:Hid (wrS ⟨q1,q2,q3,q4⟩=s∧wrE ⟨q1,q2,q3,q4⟩=0)):Calls Tryz.prog 3 #[.agg #[.int .i64 p1,.int .i64 p2,.int .i64 p3,.int .i64 p4],.string s] w fun e w'=>e=.returned (.bool true)∧Below w.heap.size w w':=by
 go_enter Tryz.func3,Tryz.ntmps3
 obtain ⟨a0,a3⟩:=ent1 w #[.int .i64 p1,.int .i64 p2,.int .i64 p3,.int .i64 p4] 25
 have a4:=hid (LibOK.keep (hlib) a3.out)
 clear hlib
 obtain ⟨j7,j8,j9,k0⟩:=at4 a0
 have hc:=Write_any p1 p2 p3 p4 ((w.alloc (.cells #[.int .i64 p1,.int .i64 p2,.int .i64 p3,.int .i64 p4] 25)))
 rw [HS.out] at hc
 rw [HE.out] at hc
 try dsimp only at hc
 have HC:=hid hc;clear hc
 go_wp2_with fail
 refine HC.out.mono ?_
 rintro e k1 ⟨rfl,hb⟩
 clear HC
 clear j7 j8 j9 k0
 have b2:=hid hb
 clear hb
 replace a0:=kH a0 b2
 obtain ⟨b8,b9,c0,c1⟩:=at4 a0
 have hc:=rWrite_any p1 p2 p3 p4 (k1)
 rw [HS.out] at hc
 rw [HE.out] at hc
 try dsimp only at hc
 have HC:=hid hc;clear hc
 go_wp2_with fail
 refine HC.out.mono ?_
 rintro e l9 ⟨rfl,hb⟩
 clear HC
 clear b8 b9 c0 c1
 have b0:=hid hb
 clear hb
 replace a0:=kH a0 b0
 obtain ⟨c2,c3,c4,c5⟩:=at4 a0
 replace a4:=hid (LibOK.keep (LibOK.keep (a4.out) b2.out) b0.out)
 have hc:=Read_any s _ (by omega) a4.out
 rw [HR.out.1] at hc
 rw [HR.out.2] at hc
 try dsimp only at hc
 have HC:=hid hc;clear hc
 go_wp2_with fail
 refine HC.out.mono ?_
 rintro e b3 ⟨rfl,hb⟩
 clear HC
 clear c2 c3 c4 c5
 have b1:=hid hb
 clear hb
 obtain ⟨o_,ho_⟩:∃ o,o=((.cells #[.int .i64 q1,.int .i64 q2,.int .i64 q3,.int .i64 q4] 25):Obj):=⟨_,rfl⟩
 replace a3:=bA (bH (bH (bH a3 b2) b0) b1) o_
 replace a4:=hid (LibOK.alloc ((hid (LibOK.keep (a4.out) b1.out)).out) (o_))
 replace a0:=kA (kH a0 b1) o_
 subst ho_
 have a1:=hid (Blk.new b3 25 #[.int .i64 q1,.int .i64 q2,.int .i64 q3,.int .i64 q4])
 obtain ⟨c6,c7,c8,c9⟩:=at4 a0
 obtain ⟨d0,d1,d2,d3⟩:=at4 a1
 have hc:=rRead_any s ((b3.alloc (.cells #[.int .i64 q1,.int .i64 q2,.int .i64 q3,.int .i64 q4] 25)))
 rw [HR.out.1] at hc
 rw [HR.out.2] at hc
 try dsimp only at hc
 have HC:=hid hc;clear hc
 go_wp2_with fail
 refine HC.out.mono ?_
 rintro e d4 ⟨rfl,hb⟩
 clear HC
 clear c6 c7 c8 c9 d0 d1 d2 d3
 have a9:=hid hb
 clear hb
 replace a0:=kH a0 a9
 obtain ⟨d5,d6,d7,d8⟩:=at4 a0
 replace a1:=kH a1 a9
 obtain ⟨d9,e0,e1,e2⟩:=at4 a1
 obtain ⟨o_,ho_⟩:∃ o,o=((.cells #[.int .i64 q1,.int .i64 q2,.int .i64 q3,.int .i64 q4] 25):Obj):=⟨_,rfl⟩
 replace a3:=bA (bH a3 a9) o_
 replace a4:=hid (LibOK.alloc ((hid (LibOK.keep (a4.out) a9.out)).out) (o_))
 replace a0:=kA a0 o_
 replace a1:=kA a1 o_
 subst ho_
 have a2:=hid (Blk.new d4 25 #[.int .i64 q1,.int .i64 q2,.int .i64 q3,.int .i64 q4])
 obtain ⟨e3,e4,e5,e6⟩:=at4 a0
 obtain ⟨e7,e8,e9,f0⟩:=at4 a1
 obtain ⟨f1,f2,f3,f4⟩:=at4 a2
 have hc:=Read_any t _ hts a4.out
 rw [HB.out.1] at hc
 rw [HB.out.2] at hc
 try dsimp only at hc
 have HC:=hid hc;clear hc
 go_wp2_with fail
 refine HC.out.mono ?_
 rintro e b4 ⟨rfl,hb⟩
 clear HC
 clear d5 d6 d7 d8 d9 e0 e1 e2 e3 e4 e5 e6 e7 e8 e9 f0 f1 f2 f3 f4
 have a7:=hid hb
 clear hb
 replace a0:=kH a0 a7
 obtain ⟨f5,f6,f7,f8⟩:=at4 a0
 replace a1:=kH a1 a7
 obtain ⟨f9,g0,g1,g2⟩:=at4 a1
 replace a2:=kH a2 a7
 obtain ⟨g3,g4,g5,g6⟩:=at4 a2
 obtain ⟨o_,ho_⟩:∃ o,o=((.cells #[.int .i64 p1,.int .i64 p2,.int .i64 p3,.int .i64 p4] 25):Obj):=⟨_,rfl⟩
 replace a3:=bA (bH a3 a7) o_
 replace a4:=hid (LibOK.alloc ((hid (LibOK.keep (a4.out) a7.out)).out) (o_))
 replace a0:=kA a0 o_
 replace a1:=kA a1 o_
 replace a2:=kA a2 o_
 subst ho_
 have a5:=hid (Blk.new b4 25 #[.int .i64 p1,.int .i64 p2,.int .i64 p3,.int .i64 p4])
 obtain ⟨g7,g8,g9,h0⟩:=at4 a0
 obtain ⟨h1,h2,h3,h4⟩:=at4 a1
 obtain ⟨h5,h6,h7,h8⟩:=at4 a2
 obtain ⟨h9,i0,i1,i2⟩:=at4 a5
 have hc:=Write_any q1 q2 q3 q4 ((b4.alloc (.cells #[.int .i64 p1,.int .i64 p2,.int .i64 p3,.int .i64 p4] 25)))
 rw [HW.out.1] at hc
 rw [HW.out.2] at hc
 try dsimp only at hc
 have HC:=hid hc;clear hc
 go_wp2_with fail
 refine HC.out.mono ?_
 rintro e i3 ⟨rfl,hb⟩
 clear HC
 clear f5 f6 f7 f8 f9 g0 g1 g2 g3 g4 g5 g6 g7 g8 g9 h0 h1 h2 h3 h4 h5 h6 h7 h8 h9 i0 i1 i2
 have a8:=hid hb
 clear hb
 replace a0:=kH a0 a8
 obtain ⟨i4,i5,i6,i7⟩:=at4 a0
 replace a1:=kH a1 a8
 obtain ⟨i8,i9,j0,j1⟩:=at4 a1
 replace a2:=kH a2 a8
 obtain ⟨j2,j3,j4,j5⟩:=at4 a2
 replace a5:=kH a5 a8
 obtain ⟨j6,b5,b6,b7⟩:=at4 a5
 have hc:=joined_any (i3)
 have HC:=hid hc;clear hc
 go_wp2_with fail
 refine HC.out.mono ?_
 rintro e k2 ⟨rfl,hb⟩
 clear HC
 clear i4 i5 i6 i7 i8 i9 j0 j1 j2 j3 j4 j5 j6 b5 b6 b7
 have a6:=hid hb
 clear hb
 replace a0:=kH a0 a6
 obtain ⟨k3,k4,k5,k6⟩:=at4 a0
 replace a1:=kH a1 a6
 obtain ⟨k7,k8,k9,l0⟩:=at4 a1
 replace a2:=kH a2 a6
 obtain ⟨l1,l2,l3,l4⟩:=at4 a2
 replace a5:=kH a5 a6
 obtain ⟨l5,l6,l7,l8⟩:=at4 a5
 go_wp2
 go_ret
 replace a3:=bH (bH a3 a8) a6
 exact ⟨rfl,a3.out⟩
set_option maxRecDepth 100000 in
theorem estr_tf (p1 p2 p3 p4:Int) (s:ByteArray) (w:World) (hlib:LibOK w) (h40:¬ (40:Int)<(s.size:Int)) (t:ByteArray) (HS:Hid (wrS ⟨p1,p2,p3,p4⟩=t)) (HE:Hid (wrE ⟨p1,p2,p3,p4⟩=0)) (HB:Hid (rdP t=⟨p1,p2,p3,p4⟩∧rdE t=0)) (hts:t.size≤100000) (HR:Hid (rdP s=⟨0,0,0,0⟩∧rdE s=4)):Calls Tryz.prog 3 #[.agg #[.int .i64 p1,.int .i64 p2,.int .i64 p3,.int .i64 p4],.string s] w fun e w'=>e=.returned (.bool true)∧Below w.heap.size w w':=by
 go_enter Tryz.func3,Tryz.ntmps3
 obtain ⟨a0,a2⟩:=ent1 w #[.int .i64 p1,.int .i64 p2,.int .i64 p3,.int .i64 p4] 25
 have a3:=hid (LibOK.keep (hlib) a2.out)
 clear hlib
 obtain ⟨h9,i0,i1,i2⟩:=at4 a0
 have hc:=Write_any p1 p2 p3 p4 ((w.alloc (.cells #[.int .i64 p1,.int .i64 p2,.int .i64 p3,.int .i64 p4] 25)))
 rw [HS.out] at hc
 rw [HE.out] at hc
 try dsimp only at hc
 have HC:=hid hc;clear hc
 go_wp2_with fail
 refine HC.out.mono ?_
 rintro e i3 ⟨rfl,hb⟩
 clear HC
 clear h9 i0 i1 i2
 have b1:=hid hb
 clear hb
 replace a0:=kH a0 b1
 obtain ⟨b4,b5,b6,b7⟩:=at4 a0
 have hc:=rWrite_any p1 p2 p3 p4 (i3)
 rw [HS.out] at hc
 rw [HE.out] at hc
 try dsimp only at hc
 have HC:=hid hc;clear hc
 go_wp2_with fail
 refine HC.out.mono ?_
 rintro e i7 ⟨rfl,hb⟩
 clear HC
 clear b4 b5 b6 b7
 have a9:=hid hb
 clear hb
 replace a0:=kH a0 a9
 obtain ⟨b8,b9,c0,c1⟩:=at4 a0
 replace a3:=hid (LibOK.keep (LibOK.keep (a3.out) b1.out) a9.out)
 have hc:=Read_any s _ (by omega) a3.out
 rw [HR.out.1] at hc
 rw [HR.out.2] at hc
 try dsimp only at hc
 have HC:=hid hc;clear hc
 go_wp2_with fail
 refine HC.out.mono ?_
 rintro e b2 ⟨rfl,hb⟩
 clear HC
 clear b8 b9 c0 c1
 have b0:=hid hb
 clear hb
 obtain ⟨o_,ho_⟩:∃ o,o=((.cells #[.int .i64 0,.int .i64 0,.int .i64 0,.int .i64 0] 25):Obj):=⟨_,rfl⟩
 replace a2:=bA (bH (bH (bH a2 b1) a9) b0) o_
 replace a3:=hid (LibOK.alloc ((hid (LibOK.keep (a3.out) b0.out)).out) (o_))
 replace a0:=kA (kH a0 b0) o_
 subst ho_
 have a1:=hid (Blk.new b2 25 #[.int .i64 0,.int .i64 0,.int .i64 0,.int .i64 0])
 obtain ⟨c2,c3,c4,c5⟩:=at4 a0
 obtain ⟨c6,c7,c8,c9⟩:=at4 a1
 have hc:=rRead_any s ((b2.alloc (.cells #[.int .i64 0,.int .i64 0,.int .i64 0,.int .i64 0] 25)))
 rw [HR.out.1] at hc
 rw [HR.out.2] at hc
 try dsimp only at hc
 have HC:=hid hc;clear hc
 go_wp2_with fail
 refine HC.out.mono ?_
 rintro e d0 ⟨rfl,hb⟩
 clear HC
 clear c2 c3 c4 c5 c6 c7 c8 c9
 have a7:=hid hb
 clear hb
 replace a0:=kH a0 a7
 obtain ⟨d1,d2,d3,d4⟩:=at4 a0
 replace a1:=kH a1 a7
 obtain ⟨d5,d6,d7,d8⟩:=at4 a1
 obtain ⟨o_,ho_⟩:∃ o,o=((.cells #[.int .i64 0,.int .i64 0,.int .i64 0,.int .i64 0] 25):Obj):=⟨_,rfl⟩
 replace a2:=bA (bH a2 a7) o_
 replace a3:=hid (LibOK.alloc ((hid (LibOK.keep (a3.out) a7.out)).out) (o_))
 replace a0:=kA a0 o_
 replace a1:=kA a1 o_
 subst ho_
 have a4:=hid (Blk.new d0 25 #[.int .i64 0,.int .i64 0,.int .i64 0,.int .i64 0])
 obtain ⟨d9,e0,e1,e2⟩:=at4 a0
 obtain ⟨e3,e4,e5,e6⟩:=at4 a1
 obtain ⟨e7,e8,e9,f0⟩:=at4 a4
 have hc:=Read_any t _ hts a3.out
 rw [HB.out.1] at hc
 rw [HB.out.2] at hc
 try dsimp only at hc
 have HC:=hid hc;clear hc
 go_wp2_with fail
 refine HC.out.mono ?_
 rintro e b3 ⟨rfl,hb⟩
 clear HC
 clear d1 d2 d3 d4 d5 d6 d7 d8 d9 e0 e1 e2 e3 e4 e5 e6 e7 e8 e9 f0
 have a5:=hid hb
 clear hb
 replace a0:=kH a0 a5
 obtain ⟨f1,f2,f3,f4⟩:=at4 a0
 replace a1:=kH a1 a5
 obtain ⟨f5,f6,f7,f8⟩:=at4 a1
 replace a4:=kH a4 a5
 obtain ⟨f9,g0,g1,g2⟩:=at4 a4
 obtain ⟨o_,ho_⟩:∃ o,o=((.cells #[.int .i64 p1,.int .i64 p2,.int .i64 p3,.int .i64 p4] 25):Obj):=⟨_,rfl⟩
 replace a2:=bA (bH a2 a5) o_
 replace a3:=hid (LibOK.alloc ((hid (LibOK.keep (a3.out) a5.out)).out) (o_))
 replace a0:=kA a0 o_
 replace a1:=kA a1 o_
 replace a4:=kA a4 o_
 subst ho_
 have a8:=hid (Blk.new b3 25 #[.int .i64 p1,.int .i64 p2,.int .i64 p3,.int .i64 p4])
 obtain ⟨g3,g4,g5,g6⟩:=at4 a0
 obtain ⟨g7,g8,g9,h0⟩:=at4 a1
 obtain ⟨h1,h2,h3,h4⟩:=at4 a4
 obtain ⟨h5,h6,h7,h8⟩:=at4 a8
 have hc:=joined_any ((b3.alloc (.cells #[.int .i64 p1,.int .i64 p2,.int .i64 p3,.int .i64 p4] 25)))
 have HC:=hid hc;clear hc
 go_wp2_with fail
 refine HC.out.mono ?_
 rintro e i8 ⟨rfl,hb⟩
 clear HC
 clear f1 f2 f3 f4 f5 f6 f7 f8 f9 g0 g1 g2 g3 g4 g5 g6 g7 g8 g9 h0 h1 h2 h3 h4 h5 h6 h7 h8
 have a6:=hid hb
 clear hb
 replace a0:=kH a0 a6
 obtain ⟨i9,j0,j1,j2⟩:=at4 a0
 replace a1:=kH a1 a6
 obtain ⟨j3,j4,j5,j6⟩:=at4 a1
 replace a4:=kH a4 a6
 obtain ⟨j7,j8,j9,k0⟩:=at4 a4
 replace a8:=kH a8 a6
 obtain ⟨k1,i4,i5,i6⟩:=at4 a8
 go_wp2
 go_ret
 replace a2:=bH a2 a6
 exact ⟨rfl,a2.out⟩
set_option maxRecDepth 100000 in
theorem estr_ft (p1 p2 p3 p4:Int) (s:ByteArray) (w:World) (hlib:LibOK w) (h40:¬ (40:Int)<(s.size:Int)) (HS:Hid (wrS ⟨p1,p2,p3,p4⟩=⟨#[]⟩)) (HE:Hid (wrE ⟨p1,p2,p3,p4⟩=1)) (q1 q2 q3 q4:Int) (HR:Hid (rdP s=⟨q1,q2,q3,q4⟩∧rdE s=0)) (HW:Hid (wrS ⟨q1,q2,q3,q4⟩=s∧wrE ⟨q1,q2,q3,q4⟩=0)):Calls Tryz.prog 3 #[.agg #[.int .i64 p1,.int .i64 p2,.int .i64 p3,.int .i64 p4],.string s] w fun e w'=>e=.returned (.bool true)∧Below w.heap.size w w':=by
 go_enter Tryz.func3,Tryz.ntmps3
 obtain ⟨a0,a2⟩:=ent1 w #[.int .i64 p1,.int .i64 p2,.int .i64 p3,.int .i64 p4] 25
 have a3:=hid (LibOK.keep (hlib) a2.out)
 clear hlib
 obtain ⟨g2,g3,g4,g5⟩:=at4 a0
 have hc:=Write_any p1 p2 p3 p4 ((w.alloc (.cells #[.int .i64 p1,.int .i64 p2,.int .i64 p3,.int .i64 p4] 25)))
 rw [HS.out] at hc
 rw [HE.out] at hc
 try dsimp only at hc
 have HC:=hid hc;clear hc
 go_wp2_with fail
 refine HC.out.mono ?_
 rintro e g6 ⟨rfl,hb⟩
 clear HC
 clear g2 g3 g4 g5
 have b0:=hid hb
 clear hb
 replace a0:=kH a0 b0
 obtain ⟨b3,b4,b5,b6⟩:=at4 a0
 have hc:=rWrite_any p1 p2 p3 p4 (g6)
 rw [HS.out] at hc
 rw [HE.out] at hc
 try dsimp only at hc
 have HC:=hid hc;clear hc
 go_wp2_with fail
 refine HC.out.mono ?_
 rintro e g7 ⟨rfl,hb⟩
 clear HC
 clear b3 b4 b5 b6
 have a8:=hid hb
 clear hb
 replace a0:=kH a0 a8
 obtain ⟨b7,b8,b9,c0⟩:=at4 a0
 replace a3:=hid (LibOK.keep (LibOK.keep (a3.out) b0.out) a8.out)
 have hc:=Read_any s _ (by omega) a3.out
 rw [HR.out.1] at hc
 rw [HR.out.2] at hc
 try dsimp only at hc
 have HC:=hid hc;clear hc
 go_wp2_with fail
 refine HC.out.mono ?_
 rintro e b1 ⟨rfl,hb⟩
 clear HC
 clear b7 b8 b9 c0
 have a9:=hid hb
 clear hb
 obtain ⟨o_,ho_⟩:∃ o,o=((.cells #[.int .i64 q1,.int .i64 q2,.int .i64 q3,.int .i64 q4] 25):Obj):=⟨_,rfl⟩
 replace a2:=bA (bH (bH (bH a2 b0) a8) a9) o_
 replace a3:=hid (LibOK.alloc ((hid (LibOK.keep (a3.out) a9.out)).out) (o_))
 replace a0:=kA (kH a0 a9) o_
 subst ho_
 have a1:=hid (Blk.new b1 25 #[.int .i64 q1,.int .i64 q2,.int .i64 q3,.int .i64 q4])
 obtain ⟨c1,c2,c3,c4⟩:=at4 a0
 obtain ⟨c5,c6,c7,c8⟩:=at4 a1
 have hc:=rRead_any s ((b1.alloc (.cells #[.int .i64 q1,.int .i64 q2,.int .i64 q3,.int .i64 q4] 25)))
 rw [HR.out.1] at hc
 rw [HR.out.2] at hc
 try dsimp only at hc
 have HC:=hid hc;clear hc
 go_wp2_with fail
 refine HC.out.mono ?_
 rintro e b2 ⟨rfl,hb⟩
 clear HC
 clear c1 c2 c3 c4 c5 c6 c7 c8
 have a5:=hid hb
 clear hb
 replace a0:=kH a0 a5
 obtain ⟨c9,d0,d1,d2⟩:=at4 a0
 replace a1:=kH a1 a5
 obtain ⟨d3,d4,d5,d6⟩:=at4 a1
 obtain ⟨o_,ho_⟩:∃ o,o=((.cells #[.int .i64 q1,.int .i64 q2,.int .i64 q3,.int .i64 q4] 25):Obj):=⟨_,rfl⟩
 replace a2:=bA (bH a2 a5) o_
 replace a3:=hid (LibOK.alloc ((hid (LibOK.keep (a3.out) a5.out)).out) (o_))
 replace a0:=kA a0 o_
 replace a1:=kA a1 o_
 subst ho_
 have a4:=hid (Blk.new b2 25 #[.int .i64 q1,.int .i64 q2,.int .i64 q3,.int .i64 q4])
 obtain ⟨d7,d8,d9,e0⟩:=at4 a0
 obtain ⟨e1,e2,e3,e4⟩:=at4 a1
 obtain ⟨e5,e6,e7,e8⟩:=at4 a4
 have hc:=Write_any q1 q2 q3 q4 ((b2.alloc (.cells #[.int .i64 q1,.int .i64 q2,.int .i64 q3,.int .i64 q4] 25)))
 rw [HW.out.1] at hc
 rw [HW.out.2] at hc
 try dsimp only at hc
 have HC:=hid hc;clear hc
 go_wp2_with fail
 refine HC.out.mono ?_
 rintro e e9 ⟨rfl,hb⟩
 clear HC
 clear c9 d0 d1 d2 d3 d4 d5 d6 d7 d8 d9 e0 e1 e2 e3 e4 e5 e6 e7 e8
 have a6:=hid hb
 clear hb
 replace a0:=kH a0 a6
 obtain ⟨f0,f1,f2,f3⟩:=at4 a0
 replace a1:=kH a1 a6
 obtain ⟨f4,f5,f6,f7⟩:=at4 a1
 replace a4:=kH a4 a6
 obtain ⟨f8,f9,g0,g1⟩:=at4 a4
 have hc:=joined_any (e9)
 have HC:=hid hc;clear hc
 go_wp2_with fail
 refine HC.out.mono ?_
 rintro e g8 ⟨rfl,hb⟩
 clear HC
 clear f0 f1 f2 f3 f4 f5 f6 f7 f8 f9 g0 g1
 have a7:=hid hb
 clear hb
 replace a0:=kH a0 a7
 obtain ⟨g9,h0,h1,h2⟩:=at4 a0
 replace a1:=kH a1 a7
 obtain ⟨h3,h4,h5,h6⟩:=at4 a1
 replace a4:=kH a4 a7
 obtain ⟨h7,h8,h9,i0⟩:=at4 a4
 go_wp2
 go_ret
 replace a2:=bH (bH a2 a6) a7
 exact ⟨rfl,a2.out⟩
set_option maxRecDepth 100000 in
theorem estr_ff (p1 p2 p3 p4:Int) (s:ByteArray) (w:World) (hlib:LibOK w) (h40:¬ (40:Int)<(s.size:Int)) (HS:Hid (wrS ⟨p1,p2,p3,p4⟩=⟨#[]⟩)) (HE:Hid (wrE ⟨p1,p2,p3,p4⟩=1)) (HR:Hid (rdP s=⟨0,0,0,0⟩∧rdE s=4)):Calls Tryz.prog 3 #[.agg #[.int .i64 p1,.int .i64 p2,.int .i64 p3,.int .i64 p4],.string s] w fun e w'=>e=.returned (.bool true)∧Below w.heap.size w w':=by
 go_enter Tryz.func3,Tryz.ntmps3
 obtain ⟨a0,a2⟩:=ent1 w #[.int .i64 p1,.int .i64 p2,.int .i64 p3,.int .i64 p4] 25
 have a3:=hid (LibOK.keep (hlib) a2.out)
 clear hlib
 obtain ⟨e8,e9,f0,f1⟩:=at4 a0
 have hc:=Write_any p1 p2 p3 p4 ((w.alloc (.cells #[.int .i64 p1,.int .i64 p2,.int .i64 p3,.int .i64 p4] 25)))
 rw [HS.out] at hc
 rw [HE.out] at hc
 try dsimp only at hc
 have HC:=hid hc;clear hc
 go_wp2_with fail
 refine HC.out.mono ?_
 rintro e f2 ⟨rfl,hb⟩
 clear HC
 clear e8 e9 f0 f1
 have a9:=hid hb
 clear hb
 replace a0:=kH a0 a9
 obtain ⟨b2,b3,b4,b5⟩:=at4 a0
 have hc:=rWrite_any p1 p2 p3 p4 (f2)
 rw [HS.out] at hc
 rw [HE.out] at hc
 try dsimp only at hc
 have HC:=hid hc;clear hc
 go_wp2_with fail
 refine HC.out.mono ?_
 rintro e f3 ⟨rfl,hb⟩
 clear HC
 clear b2 b3 b4 b5
 have a7:=hid hb
 clear hb
 replace a0:=kH a0 a7
 obtain ⟨b6,b7,b8,b9⟩:=at4 a0
 replace a3:=hid (LibOK.keep (LibOK.keep (a3.out) a9.out) a7.out)
 have hc:=Read_any s _ (by omega) a3.out
 rw [HR.out.1] at hc
 rw [HR.out.2] at hc
 try dsimp only at hc
 have HC:=hid hc;clear hc
 go_wp2_with fail
 refine HC.out.mono ?_
 rintro e b0 ⟨rfl,hb⟩
 clear HC
 clear b6 b7 b8 b9
 have a8:=hid hb
 clear hb
 obtain ⟨o_,ho_⟩:∃ o,o=((.cells #[.int .i64 0,.int .i64 0,.int .i64 0,.int .i64 0] 25):Obj):=⟨_,rfl⟩
 replace a2:=bA (bH (bH (bH a2 a9) a7) a8) o_
 replace a3:=hid (LibOK.alloc ((hid (LibOK.keep (a3.out) a8.out)).out) (o_))
 replace a0:=kA (kH a0 a8) o_
 subst ho_
 have a1:=hid (Blk.new b0 25 #[.int .i64 0,.int .i64 0,.int .i64 0,.int .i64 0])
 obtain ⟨c0,c1,c2,c3⟩:=at4 a0
 obtain ⟨c4,c5,c6,c7⟩:=at4 a1
 have hc:=rRead_any s ((b0.alloc (.cells #[.int .i64 0,.int .i64 0,.int .i64 0,.int .i64 0] 25)))
 rw [HR.out.1] at hc
 rw [HR.out.2] at hc
 try dsimp only at hc
 have HC:=hid hc;clear hc
 go_wp2_with fail
 refine HC.out.mono ?_
 rintro e b1 ⟨rfl,hb⟩
 clear HC
 clear c0 c1 c2 c3 c4 c5 c6 c7
 have a4:=hid hb
 clear hb
 replace a0:=kH a0 a4
 obtain ⟨c8,c9,d0,d1⟩:=at4 a0
 replace a1:=kH a1 a4
 obtain ⟨d2,d3,d4,d5⟩:=at4 a1
 obtain ⟨o_,ho_⟩:∃ o,o=((.cells #[.int .i64 0,.int .i64 0,.int .i64 0,.int .i64 0] 25):Obj):=⟨_,rfl⟩
 replace a2:=bA (bH a2 a4) o_
 replace a3:=hid (LibOK.alloc ((hid (LibOK.keep (a3.out) a4.out)).out) (o_))
 replace a0:=kA a0 o_
 replace a1:=kA a1 o_
 subst ho_
 have a5:=hid (Blk.new b1 25 #[.int .i64 0,.int .i64 0,.int .i64 0,.int .i64 0])
 obtain ⟨d6,d7,d8,d9⟩:=at4 a0
 obtain ⟨e0,e1,e2,e3⟩:=at4 a1
 obtain ⟨e4,e5,e6,e7⟩:=at4 a5
 have hc:=joined_any ((b1.alloc (.cells #[.int .i64 0,.int .i64 0,.int .i64 0,.int .i64 0] 25)))
 have HC:=hid hc;clear hc
 go_wp2_with fail
 refine HC.out.mono ?_
 rintro e f4 ⟨rfl,hb⟩
 clear HC
 clear c8 c9 d0 d1 d2 d3 d4 d5 d6 d7 d8 d9 e0 e1 e2 e3 e4 e5 e6 e7
 have a6:=hid hb
 clear hb
 replace a0:=kH a0 a6
 obtain ⟨f5,f6,f7,f8⟩:=at4 a0
 replace a1:=kH a1 a6
 obtain ⟨f9,g0,g1,g2⟩:=at4 a1
 replace a5:=kH a5 a6
 obtain ⟨g3,g4,g5,g6⟩:=at4 a5
 go_wp2
 go_ret
 replace a2:=bH a2 a6
 exact ⟨rfl,a2.out⟩
theorem wr_ok {p:Prg} (h:okW p=true):wrS p=spB p∧wrE p=0:=by unfold wrS wrE;rw [h];exact ⟨rfl,rfl⟩
theorem wr_no {p:Prg} (h:okW p=false):wrS p=⟨#[]⟩∧wrE p=1:=by unfold wrS wrE;rw [h];exact ⟨rfl,rfl⟩
theorem estr_walk (p1 p2 p3 p4:Int) (s:ByteArray) (w:World) (hlib:LibOK w):Calls Tryz.prog 3 #[.agg #[.int .i64 p1,.int .i64 p2,.int .i64 p3,.int .i64 p4],.string s] w fun e w'=>e=.returned (.bool true)∧Below w.heap.size w w':=by
 by_cases h40:(40:Int)<(s.size:Int)
 · exact estr_long p1 p2 p3 p4 s w hlib h40
 · cases hok:okW ⟨p1,p2,p3,p4⟩
   · obtain ⟨a1,a2⟩:=wr_no hok
     by_cases hp:∃ p,SpIs s p
     · obtain ⟨⟨q1,q2,q3,q4⟩,hp⟩:=hp
       obtain ⟨b1,b2⟩:=wr_ok hp.1
       exact estr_ft p1 p2 p3 p4 s w hlib h40 (hid a1) (hid a2) q1 q2 q3 q4 (hid (rd_is hp)) (hid ⟨b1.trans hp.2,b2⟩)
     · exact estr_ff p1 p2 p3 p4 s w hlib h40 (hid a1) (hid a2) (hid (rd_no fun p h1 h2=>hp ⟨p,h1,h2⟩))
   · obtain ⟨a1,a2⟩:=wr_ok hok
     have hsz:(spB ⟨p1,p2,p3,p4⟩).size≤100000:=by have:=spL_len hok;simp only [ByteArray.size,spB,List.size_toArray];omega
     by_cases hp:∃ p,SpIs s p
     · obtain ⟨⟨q1,q2,q3,q4⟩,hp⟩:=hp
       obtain ⟨b1,b2⟩:=wr_ok hp.1
       exact estr_tt p1 p2 p3 p4 s w hlib h40 _ (hid a1) (hid a2) (hid (rd_is ⟨hok,rfl⟩)) hsz q1 q2 q3 q4 (hid (rd_is hp)) (hid ⟨b1.trans hp.2,b2⟩)
     · exact estr_tf p1 p2 p3 p4 s w hlib h40 _ (hid a1) (hid a2) (hid (rd_is ⟨hok,rfl⟩)) hsz (hid (rd_no fun p h1 h2=>hp ⟨p,h1,h2⟩))
open Go.ChangeShapes Go.WideShapes Go.ChangeAt Go.RowKit
set_option maxRecDepth 100000
section
variable {H:Type} {enc:TypeId × Value→H} {W:World} {base:Nat} {sp:Nat→Bool} {held:Bool}
theorem open_pair {r:Reach} {b0:Nat} {v:Value} {d:DataW H} {p:List MemPlace} (hv:Value.okWide Tryz.prog W r b0 25 v) (h:DataW.Trod enc Tryz.prog W base sp held 25 v d p) :
 ∃ f t m i,v=.agg #[.int .i64 f,.int .i64 t,.int .i64 m,.int .i64 i]:=by
 obtain ⟨cs,rfl,hsz⟩:=okWide_struct Tryz.underlying25 hv
 obtain ⟨c0,c1,c2,c3,rfl⟩:=Go.Joins.array4 (hsz.trans (by kernel_rfl))
 obtain ⟨fuel,hf⟩:=h
 obtain ⟨y0,y1,fu,-,-,h0,h1⟩:=trod_struct2 Tryz.underlying25 hf
 have k2:Tryz.prog.cellsOf 23=2:=by kernel_rfl
 have k1:Tryz.prog.cellsOf 3=1:=by kernel_rfl
 simp only [Value.cells,k2,List.drop_zero,List.take_succ_cons,List.take_zero,List.drop_succ_cons] at h0 h1
 obtain ⟨z0,z1,f1,-,-,g0,g1⟩:=trod_struct2 Tryz.underlying23 h0
 obtain ⟨z2,z3,f2,-,-,g2,g3⟩:=trod_struct2 Tryz.underlying23 h1
 simp only [k1,List.drop_zero,List.take_succ_cons,List.take_zero,List.drop_succ_cons] at g0 g1 g2 g3
 obtain ⟨a0,e0,-,-⟩:=DataW.trod_int Tryz.underlying3 g0
 obtain ⟨a1,e1,-,-⟩:=DataW.trod_int Tryz.underlying3 g1
 obtain ⟨a2,e2,-,-⟩:=DataW.trod_int Tryz.underlying3 g2
 obtain ⟨a3,e3,-,-⟩:=DataW.trod_int Tryz.underlying3 g3
 simp only [List.cons.injEq,and_true] at e0 e1 e2 e3
 subst e0 e1 e2 e3
 exact ⟨a0,a1,a2,a3,rfl⟩
end
end Go.Proofs.YtebkniakflhhkaaGreatDoor
namespace Go.Proofs.YtebkniakflhhkaaGreatDoor
open Go.Lib (hid)
open Go.RowKit Go.Maps
theorem RangeP.all {w:World} {b r:Nat} {S came:List Prg} {cnt:Nat} (h:RangeP w b r S came cnt) (hl:∀ (n:Nat) (D:DataW Unit) left,w.ranges Tryz.prog 25 (plainElem (H:=Unit) Tryz.prog 4) b r n D left cnt→∀ kl,left kl=false):∀ p∈S,p∈came:=by
 obtain ⟨n,D,left,h1,h2,h3,h4,h5,h6,h7⟩:=h
 intro p hp
 have h8:=h7 p (h4 p hp)
 rw [hl n D left h1] at h8
 have h9:=of_decide_eq_false h8.symm
 by_cases hc:p∈came
 · exact hc
 · exact absurd ⟨hp,hc⟩ h9
section
variable (w:World) {ops:Array Oper} {rest:List Oper} {o:Oper} {a:Act} {Q:Exit→Act→World→Prop}
end
section
variable {nF:Nat} {F:Fence} (w:World) {ops:Array Oper} {rest:List Oper} {o:Oper} {a:Act} {Q:Exit→Act→World→Prop}
end
end Go.Proofs.YtebkniakflhhkaaGreatDoor
namespace Go.Proofs.YtebkniakflhhkaaGreatDoor
open Go.Lib (hid)
open Go.ChangeShapes Go.WideShapes Go.ChangeAt Go.RowKit
open Go.ChangeMaps (open_string shut_string)
theorem handed_both {H:Type} {enc:TypeId × Value→H} {C:Checked} {os:Os} {f:FuncId} {fn:Func} {s:ChangeSpec} {conds:List PathCond} {apart fresh handsOn again:Bool} {X:World→Array Value→Prop}
 (hX:∀ (w w':World) (args:Array Value),w.heap=w'.heap→X w args→X w' args)
 (own:ownKnob C.prog.godebug=none) (started:os.Started) (noInit:C.prog.inits.idxOf? f=none) (hfn:C.prog.funcs[f]?=some fn)
 (witness:∃ (w:World) (tape:Tape) (i:Input),w.os=os∧(w.forCall tape i).Shaped C.prog∧i.vars=[]∧Input.okWide C.prog (w.forCall tape i) .any w.heap.size f i ∧
  ((s.pre enc C.prog fn conds apart (w.forCall tape i).memory i.args∧X (w.forCall tape i).memory i.args)∧sizedMet enc C.prog fn (OpenSpec.ofChange s) apart (w.forCall tape i).memory i.args)∧({}:Assume).holds C.prog (lone (Frame.enter C.prog f i.args .normal) [] (w.forCall tape i)))
 (contract:∀ (W:World) (base:Nat) (args:Array Value) (ds gs:List (DataW H)) (before:List MemPlace),W.ShapedOpen C.prog →
  (∀ (j:Nat) t v,fn.params[j]?=some t→args[j]?=some v→Value.okWide C.prog W .any base t v) →
  DataW.Whole enc C.prog fn.params.toList s.vars apart W args.toList ds gs before→X W args →
  (DataW.weightsEach C.prog (fn.params.toList++s.plain.varTypes C.prog) (ds++gs)).all (·≤reachBytes)=true →
  Calls C.prog f args W fun e W'=>∃ v,e=.returned v∧s.post enc C.prog fn apart fresh handsOn again W args v W') :
 ReturnsInHanded {} C os f .any (fun w args=>(s.pre enc C.prog fn conds apart w args∧X w args)∧sizedMet enc C.prog fn (OpenSpec.ofChange s) apart w args) (s.post enc C.prog fn apart fresh handsOn again):=by
 refine returnsInHanded_of_calls own started noInit witness ?_
 intro w tape i _ hsh _ hok hpre _
 obtain ⟨_,_,_,fn2,hfn2,_,_,_,_,hval⟩:=hok
 obtain rfl:fn2=fn:=Option.some.inj (hfn2.symm.trans hfn)
 obtain ⟨⟨⟨ds,gs,before,hw,_⟩,hx⟩,hz⟩:=hpre
 refine (contract (w.forCall tape i) w.heap.size i.args ds gs before hsh hval (DataW.Whole.of_heap (w':=w.forCall tape i) (by rfl) hw) (hX _ _ _ (by rfl) hx) (hz.weights hw)).mono ?_
 rintro e W' ⟨v,rfl,hp⟩
 exact ChangeSpec.post_blind hp
theorem es_own:ownKnob Tryz.prog.godebug=none:=by kernel_rfl
theorem es_laidOut:laidOutB Tryz.prog=true:=by kernel_rfl
theorem es_row (u:TypeId) (h:Tryz.prog.typeName? 3 u=some "*errors.errorString"):u=218:=by
 have hs : "*"++"errors.errorString"="*errors.errorString":=by decide
 exact typeName_ptr_named (nm := "errors.errorString") (by rw [hs];kernel_rfl) (by kernel_rfl) (by decide) u (by rw [hs];exact h)
theorem es_max {W:World} (h:W.ShapedOpen Tryz.prog):∃ m,W.cell? ⟨3,0,none⟩=some (.int .i64 m) :=
 cell_of_shapedOpen_int h (of_decide_eq_true (by kernel_rfl)) (t:=3) (zero:=#[.int .i64 0]) (by kernel_rfl) rfl (by kernel_rfl) (by kernel_rfl) Tryz.underlying3
set_option maxRecDepth 100000 in
theorem es_lib {W:World} (hs:W.ShapedOpen Tryz.prog) (h:laidMetH Tryz.prog Rows.edgeStringsRow.laid W):LibOK W:=by
 rw [MakeChecks.laidMetH_plain _ _ _ (by kernel_rfl)] at h
 have h4:=laidMet.tail (laidMet.tail (laidMet.tail (laidMet.tail h)))
 obtain ⟨a,s,hv,-⟩:=laid_sentinel h4 (g:=1) (by kernel_rfl) (by kernel_rfl) Tryz.underlying72 es_row Tryz.underlying218 Tryz.underlying220 rfl rfl Tryz.underlying9 (by kernel_rfl) (by kernel_rfl)
 obtain ⟨b,t,hu,-⟩:=laid_sentinel (laidMet.tail h4) (g:=0) (by kernel_rfl) (by kernel_rfl) Tryz.underlying72 es_row Tryz.underlying218 Tryz.underlying220 rfl rfl Tryz.underlying9 (by kernel_rfl) (by kernel_rfl)
 have c0:=World.var?_cell (g:=1) (by kernel_rfl) hv 0
 have c1:=World.var?_cell (g:=0) (by kernel_rfl) hu 0
 exact ⟨es_max hs,⟨_,by simpa using c1,.inr ⟨_,_,rfl⟩⟩,⟨_,by simpa using c0,.inr ⟨_,_,rfl⟩⟩⟩
noncomputable def esW (os:Os):World:=(World.doorLaid Tryz.prog 72 os).setRow 4 (Pinned.utf8FirstZ.map fun n:Nat=>Value.int .u8 n).toArray
set_option maxRecDepth 100000 in
theorem es_met (os:Os) (args:Array Value):laidMetH Tryz.prog Rows.edgeStringsRow.laid ((esW os).forCall (fun _ _=>0) ⟨#[],args,[]⟩).memory :=
 laidMetH_of_parts3 (fuel:=8) (laidMet_of_run' 8 (by kernel_rfl) (by kernel_rfl)) (by kernel_rfl) (by kernel_rfl)
set_option maxRecDepth 100000 in
theorem edgeStrings_lifted (os:Os) (started:os.Started) (H:Type) (enc:TypeId × Value→H) :
 ReturnsInHanded {} Tryz.checked os 3 .any (fun w args=>(Rows.edgeStringsSpec.pre enc Tryz.prog Tryz.f3 [] false w args∧laidMetH Tryz.prog Rows.edgeStringsRow.laid w)∧sizedMet enc Tryz.prog Tryz.f3 (OpenSpec.ofChange Rows.edgeStringsSpec) false w args)
  (Rows.edgeStringsSpec.post enc Tryz.prog Tryz.f3 false true false false):=by
 refine handed_both (C:=Tryz.checked) (X:=fun w _=>laidMetH Tryz.prog Rows.edgeStringsRow.laid w) (fun _ _ _ hh h=>h.of_heap hh) es_own started (by kernel_rfl) Tryz.func3
  (ChangeSpec.witness_shaped (enc:=enc) (C:=Tryz.checked) (os:=os) (X:=fun w _=>laidMetH Tryz.prog Rows.edgeStringsRow.laid w) false (esW os) #[.agg #[.int .i64 0,.int .i64 0,.int .i64 0,.int .i64 0],.string ⟨#[]⟩] 8 rfl (World.shaped_of_RefB (by kernel_rfl) (by kernel_rfl)) (by kernel_rfl) (by kernel_rfl) (by kernel_rfl) (es_met os _)) ?_
 intro W base args ds gs before hsh hval0 hW hL _
 have hval:∀ (j:Nat) t v,Tryz.f3.params[j]?=some t→args[j]?=some v→Value.okWide Tryz.prog W .any base t v:=hval0
 have hW':=hW
 obtain ⟨p,q,hA0,hV,rfl,hfz,hnd⟩:=hW
 have hA:DataW.TrodAll enc Tryz.prog W 0 (fun _=>true) true Tryz.f3.params.toList args.toList ds p:=hA0
 rw [Tryz.params3] at hA hval
 obtain ⟨v0,vs0,d0,ds0,p0,q0,hargs,rfl,rfl,h0,r0⟩:=trodAll_cons hA
 obtain ⟨v1,vs1,d1,ds1,p1,q1,rfl,rfl,rfl,h1,r1⟩:=trodAll_cons r0
 obtain ⟨rfl,rfl,rfl⟩:=trodAll_nil r1
 obtain rfl:args=#[v0,v1]:=by cases args;simp_all
 obtain ⟨rfl,rfl⟩:=trodVars_none hV
 have k0:=h0
 have lt0:∀ x∈p0,x.block<W.heap.size:=by obtain ⟨m,hm⟩:=k0;exact DataW.trod_lt m _ _ _ hm
 obtain ⟨f0,t0,m0,i0,rfl⟩:=open_pair (hval 0 25 v0 rfl rfl) h0
 obtain ⟨s,rfl,rfl,rfl,ws⟩:=open_string Tryz.underlying9 (hval 1 9 v1 rfl rfl) h1
 clear hA0 hval0
 refine (estr_walk f0 t0 m0 i0 s W (es_lib hsh hL)).mono fun e W' ⟨he,bel⟩=>?_
 subst he
 exact ⟨_,rfl,_,_,_,[],_,[],hW',trodAll_mk1 (shut_bool Tryz.underlying4 _),(trodAll_cons_mk (Below.trod es_laidOut (by kernel_rfl) (of_decide_eq_true (by kernel_rfl)) k0 bel lt0) (trodAll_cons_mk (shut_string Tryz.underlying9 ws) trodAll_mk0)),rfl,bel.frame _,fun h=>by cases h⟩
theorem edgeStrings_said:Rows.EdgeStringsSaid :=
 OpenClaim.holds_of_wide 3 Tryz.f3 rfl rfl rfl rfl rfl rfl rfl ⟨rfl,rfl,rfl,rfl,rfl⟩ rfl rfl rfl rfl rfl (by kernel_rfl) Tryz.func3 (by kernel_rfl)
  (of_decide_eq_true (by kernel_rfl)) (by unfold Func.isWrapper;first | (rw [if_pos (by decide +kernel)];kernel_rfl) | (rw [if_neg (by decide +kernel)];exact ⟨rfl,rfl⟩))
  (fun os started H enc _=>edgeStrings_lifted os started H enc)
theorem edgeStrings_proved:Rows.EdgeStringsCardSaid :=
 Claim7.holds_tied_plain_at .later [] [.data,.data,.data,.data,.sentinel,.sentinel,.pinned] true (true,"d6a60f7fe68933b1e784f1fdc74dcd44bf0f0a8d3d0c0b16ab5f237923852ff3") true
  edgeStrings_said (fun _ h=>by cases h) (by kernel_rfl) (fun _ h=>by cases h) edgeStrings_row_tie rfl ⟨rfl,rfl⟩ (by kernel_rfl) rfl
  (fun f fn hf hfn=>by
   obtain rfl:f=3:=Option.some.inj ((show Tryz.prog.funcNamed "conjoin/conjoinlaw03.EdgeStrings"=some 3 by kernel_rfl).symm.trans hf) |>.symm
   obtain rfl:fn=Tryz.f3:=(Option.some.inj (Tryz.func3.symm.trans hfn)).symm
   exact ⟨by kernel_rfl,fun j t ht=>by
    rw [Tryz.params3] at ht
    have hm:t∈[25,9]:=by simpa using Array.mem_of_getElem? ht
    have hall:([25,9].all fun u=>!Tryz.prog.wantsStandIn u)=true:=by kernel_rfl
    exact (show Tryz.prog.wantsStandIn t=false by simpa using List.all_eq_true.1 hall t hm)⟩)
  (by kernel_rfl)
end Go.Proofs.YtebkniakflhhkaaGreatDoor
