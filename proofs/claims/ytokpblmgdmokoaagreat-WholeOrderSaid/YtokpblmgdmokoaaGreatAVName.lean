import Derived.Test.YtokpblmgdmokoaaGreatAVMem
set_option linter.unusedSimpArgs false
set_option linter.unusedVariables false
namespace Go.Proofs.YtokpblmgdmokoaaGreat
open Go.Lib (hid)
open Go.RowKit
set_option maxRecDepth 100000 in
set_option maxHeartbeats 4000000 in
theorem sbare6 (s:ByteArray) (w:World):Calls Tryz.prog 131 #[.agg #[.int .i64 1,.int .i64 0,.int .u8 6,.string s,.int .i64 0,.int .i64 0,.int .i64 0,.bool false,.int .i64 0,.int .i64 0,.int .i64 0,.int .i64 0,.int .i64 0,.string ⟨#[]⟩,.int .i64 1,.int .i64 0]] w fun e w'=>e=.returned (.agg #[.int .i64 1,.int .i64 0,.int .u8 6,.string s,.int .i64 0,.int .i64 0,.int .i64 0,.bool false,.int .i64 0,.int .i64 0,.int .i64 0,.int .i64 0,.int .i64 0,.string ⟨#[]⟩,.int .i64 1,.int .i64 0])∧Below w.heap.size w w':=by
 go_enter Tryz.func131,Tryz.ntmps131
 obtain ⟨a0,a6⟩:=ent1 w #[.int .i64 1,.int .i64 0,.int .u8 6,.string s,.int .i64 0,.int .i64 0,.int .i64 0,.bool false,.int .i64 0,.int .i64 0,.int .i64 0,.int .i64 0,.int .i64 0,.string ⟨#[]⟩,.int .i64 1,.int .i64 0] 123
 have m3:=Blk.nth a0.out 0
 have m4:=Blk.nth a0.out 1
 have m5:=Blk.nth a0.out 2
 have m6:=Blk.nth a0.out 3
 have m7:=Blk.nth a0.out 4
 have m8:=Blk.nth a0.out 5
 have m9:=Blk.nth a0.out 6
 have l4:=Blk.nth a0.out 7
 have l5:=Blk.nth a0.out 8
 have l6:=Blk.nth a0.out 9
 have l7:=Blk.nth a0.out 10
 have l8:=Blk.nth a0.out 11
 have l9:=Blk.nth a0.out 12
 have m0:=Blk.nth a0.out 13
 have m1:=Blk.nth a0.out 14
 have m2:=Blk.nth a0.out 15
 obtain ⟨o_,ho_⟩:∃ o,o=((.cells #[.int .i64 0,.int .i64 0,.int .u8 0,.string ⟨#[]⟩,.int .i64 0,.int .i64 0,.int .i64 0,.bool false,.int .i64 0,.int .i64 0,.int .i64 0,.int .i64 0,.int .i64 0,.string ⟨#[]⟩,.int .i64 0,.int .i64 0] 123):Obj):=⟨_,rfl⟩
 replace a6:=bA a6 o_
 replace a0:=kA a0 o_
 subst ho_
 have nb_:=Blk.new (w.alloc (.cells #[.int .i64 1,.int .i64 0,.int .u8 6,.string s,.int .i64 0,.int .i64 0,.int .i64 0,.bool false,.int .i64 0,.int .i64 0,.int .i64 0,.int .i64 0,.int .i64 0,.string ⟨#[]⟩,.int .i64 1,.int .i64 0] 123)) 123 #[.int .i64 0,.int .i64 0,.int .u8 0,.string ⟨#[]⟩,.int .i64 0,.int .i64 0,.int .i64 0,.bool false,.int .i64 0,.int .i64 0,.int .i64 0,.int .i64 0,.int .i64 0,.string ⟨#[]⟩,.int .i64 0,.int .i64 0]
 simp only [World.size_alloc] at nb_
 have a2:=hid nb_;clear nb_
 obtain ⟨o_,ho_⟩:∃ o,o=((.cells #[.int .i64 1,.int .i64 0,.int .u8 6,.string ⟨#[]⟩,.int .i64 0,.int .i64 0,.int .i64 0,.bool false,.int .i64 0,.int .i64 0,.int .i64 0,.int .i64 0,.int .i64 0,.string ⟨#[]⟩,.int .i64 0,.int .i64 0] 123):Obj):=⟨_,rfl⟩
 replace a6:=bA a6 o_
 replace a0:=kA a0 o_
 replace a2:=kA a2 o_
 subst ho_
 have nb_:=Blk.new ((w.alloc (.cells #[.int .i64 1,.int .i64 0,.int .u8 6,.string s,.int .i64 0,.int .i64 0,.int .i64 0,.bool false,.int .i64 0,.int .i64 0,.int .i64 0,.int .i64 0,.int .i64 0,.string ⟨#[]⟩,.int .i64 1,.int .i64 0] 123)).alloc (.cells #[.int .i64 0,.int .i64 0,.int .u8 0,.string ⟨#[]⟩,.int .i64 0,.int .i64 0,.int .i64 0,.bool false,.int .i64 0,.int .i64 0,.int .i64 0,.int .i64 0,.int .i64 0,.string ⟨#[]⟩,.int .i64 0,.int .i64 0] 123)) 123 #[.int .i64 1,.int .i64 0,.int .u8 6,.string ⟨#[]⟩,.int .i64 0,.int .i64 0,.int .i64 0,.bool false,.int .i64 0,.int .i64 0,.int .i64 0,.int .i64 0,.int .i64 0,.string ⟨#[]⟩,.int .i64 0,.int .i64 0]
 simp only [World.size_alloc] at nb_
 have a1:=hid nb_;clear nb_
 have g6:=Blk.nth a0.out 0
 have g7:=Blk.nth a0.out 1
 have g8:=Blk.nth a0.out 2
 have g9:=Blk.nth a0.out 3
 have h0:=Blk.nth a0.out 4
 have h1:=Blk.nth a0.out 5
 have h2:=Blk.nth a0.out 6
 have h3:=Blk.nth a0.out 7
 have h4:=Blk.nth a0.out 8
 have h5:=Blk.nth a0.out 9
 have h6:=Blk.nth a0.out 10
 have h7:=Blk.nth a0.out 11
 have h8:=Blk.nth a0.out 12
 have h9:=Blk.nth a0.out 13
 have i0:=Blk.nth a0.out 14
 have i1:=Blk.nth a0.out 15
 have i2:=Blk.nth a2.out 0
 have i3:=Blk.nth a2.out 1
 have i4:=Blk.nth a2.out 2
 have i5:=Blk.nth a2.out 3
 have i6:=Blk.nth a2.out 4
 have i7:=Blk.nth a2.out 5
 have i8:=Blk.nth a2.out 6
 have i9:=Blk.nth a2.out 7
 have j0:=Blk.nth a2.out 8
 have j1:=Blk.nth a2.out 9
 have j2:=Blk.nth a2.out 10
 have j3:=Blk.nth a2.out 11
 have j4:=Blk.nth a2.out 12
 have j5:=Blk.nth a2.out 13
 have j6:=Blk.nth a2.out 14
 have j7:=Blk.nth a2.out 15
 have j8:=Blk.nth a1.out 0
 have j9:=Blk.nth a1.out 1
 have k0:=Blk.nth a1.out 2
 have k1:=Blk.nth a1.out 3
 have k2:=Blk.nth a1.out 4
 have k3:=Blk.nth a1.out 5
 have k4:=Blk.nth a1.out 6
 have k5:=Blk.nth a1.out 7
 have k6:=Blk.nth a1.out 8
 have k7:=Blk.nth a1.out 9
 have k8:=Blk.nth a1.out 10
 have k9:=Blk.nth a1.out 11
 have l0:=Blk.nth a1.out 12
 have l1:=Blk.nth a1.out 13
 have l2:=Blk.nth a1.out 14
 have l3:=Blk.nth a1.out 15
 go_wp2
 clear g6 g7 g8 g9 h0 h1 h2 h3 h4 h5 h6 h7 h8 h9 i0 i1 i2 i3 i4 i5 i6 i7 i8 i9 j0 j1 j2 j3 j4 j5 j6 j7 j8 j9 k0 k1 k2 k3 k4 k5 k6 k7 k8 k9 l0 l1 l2 l3
 replace a6:=bD a6
 replace a0:=kD a0
 replace a2:=kD a2
 replace a1:=kD a1
 refine wp_region_held_drew (S:=(fun W'=>Blk W' (w.heap.size) 123 #[.int .i64 1,.int .i64 0,.int .u8 6,.string s,.int .i64 0,.int .i64 0,.int .i64 0,.bool false,.int .i64 0,.int .i64 0,.int .i64 0,.int .i64 0,.int .i64 0,.string ⟨#[]⟩,.int .i64 1,.int .i64 0])) (by kernel_rfl) a0.out (fun _=>?_)
 obtain ⟨w1,hw2⟩:∃ w',w'=((((w.alloc (.cells #[.int .i64 1,.int .i64 0,.int .u8 6,.string s,.int .i64 0,.int .i64 0,.int .i64 0,.bool false,.int .i64 0,.int .i64 0,.int .i64 0,.int .i64 0,.int .i64 0,.string ⟨#[]⟩,.int .i64 1,.int .i64 0] 123)).alloc (.cells #[.int .i64 0,.int .i64 0,.int .u8 0,.string ⟨#[]⟩,.int .i64 0,.int .i64 0,.int .i64 0,.bool false,.int .i64 0,.int .i64 0,.int .i64 0,.int .i64 0,.int .i64 0,.string ⟨#[]⟩,.int .i64 0,.int .i64 0] 123)).alloc (.cells #[.int .i64 1,.int .i64 0,.int .u8 6,.string ⟨#[]⟩,.int .i64 0,.int .i64 0,.int .i64 0,.bool false,.int .i64 0,.int .i64 0,.int .i64 0,.int .i64 0,.int .i64 0,.string ⟨#[]⟩,.int .i64 0,.int .i64 0] 123)).drew):=⟨_,rfl⟩
 rw [← hw2] at a6 a0 a2 a1
 rw [← hw2]
 clear hw2
 refine' twH 0 a0.out ?_
 refine' tkH 1 a0.out ?hyR4 ?_
 case hyR4=>(rintro W' hS0;have hc0:=Blk.nth hS0 3;clear hS0;go_simp;try with_reducible rfl)
 refine' twH 2 a0.out ?_
 refine' tkH 3 a0.out ?hyR6 ?_
 case hyR6=>(rintro W' hS0;have hc0:=Blk.nth hS0 14;clear hS0;go_simp;try with_reducible rfl)
 try simp only [pq]
 refine' twH 4 a0.out ?_
 try simp only [pq]
 refine oneH 5 rfl fun K hK=>?_
 have v8:(w1).cell? ⟨w.heap.size+1+1,3,none⟩=some (.string ⟨#[]⟩):=Blk.cell (a1.out) 3
 have f9:(w1).frozen? ⟨w.heap.size+1+1,3,none⟩=false:=Blk.frozen (a1.out) 3
 have hlt_:=Blk.lt (a1.out)
 go_simp
 have g2:=hid (Below.setCell (a6.out) (p:=⟨w.heap.size+1+1,3,none⟩) (by first|omega | (simp;done) | (simp;omega) | (dsimp only;omega)) (.string s))
 have b1:=hid (Blk.far (a0.out) (p:=⟨w.heap.size+1+1,3,none⟩) (by first|omega | (simp;done) | (simp;omega) | (dsimp only;omega)) (.string s))
 have g3:=hid (Blk.far (a2.out) (p:=⟨w.heap.size+1+1,3,none⟩) (by first|omega | (simp;done) | (simp;omega) | (dsimp only;omega)) (.string s))
 have a8:=hid (Blk.set_ (a1.out) 3 (.string s))
 obtain ⟨c8,a9⟩:∃ w',w'=((w1).setCell ⟨w.heap.size+1+1,3,none⟩ (.string s)):=⟨_,rfl⟩
 rw [← a9] at g2 b1 g3 a8
 rw [← a9]
 clear a9 v8 f9 hlt_
 refine hK.out _ _ b1.out (fun _=>?_);clear hK K
 try simp only [pq]
 refine' twH 6 b1.out ?_
 try simp only [pq]
 refine oneH 7 rfl fun K hK=>?_
 have v17:(c8).cell? ⟨w.heap.size+1+1,14,none⟩=some (.int .i64 0):=Blk.cell (a8.out) 14
 have f18:(c8).frozen? ⟨w.heap.size+1+1,14,none⟩=false:=Blk.frozen (a8.out) 14
 have hlt_:=Blk.lt (a8.out)
 go_simp
 have g4:=hid (Below.setCell (g2.out) (p:=⟨w.heap.size+1+1,14,none⟩) (by first|omega | (simp;done) | (simp;omega) | (dsimp only;omega)) (.int .i64 1))
 have g5:=hid (Blk.far (b1.out) (p:=⟨w.heap.size+1+1,14,none⟩) (by first|omega | (simp;done) | (simp;omega) | (dsimp only;omega)) (.int .i64 1))
 have a3:=hid (Blk.far (g3.out) (p:=⟨w.heap.size+1+1,14,none⟩) (by first|omega | (simp;done) | (simp;omega) | (dsimp only;omega)) (.int .i64 1))
 have a4:=hid (Blk.set_ (a8.out) 14 (.int .i64 1))
 obtain ⟨a5,b0⟩:∃ w',w'=((c8).setCell ⟨w.heap.size+1+1,14,none⟩ (.int .i64 1)):=⟨_,rfl⟩
 rw [← b0] at g4 g5 a3 a4
 rw [← b0]
 clear b0 v17 f18 hlt_
 refine hK.out _ _ g5.out (fun _=>?_);clear hK K
 try simp only [pq]
 refine wpAnyH_done (by kernel_rfl) ?_ _
 have c9:=Blk.nth a3.out 0
 have d0:=Blk.nth a3.out 1
 have d1:=Blk.nth a3.out 2
 have d2:=Blk.nth a3.out 3
 have d3:=Blk.nth a3.out 4
 have d4:=Blk.nth a3.out 5
 have d5:=Blk.nth a3.out 6
 have d6:=Blk.nth a3.out 7
 have d7:=Blk.nth a3.out 8
 have d8:=Blk.nth a3.out 9
 have d9:=Blk.nth a3.out 10
 have e0:=Blk.nth a3.out 11
 have e1:=Blk.nth a3.out 12
 have e2:=Blk.nth a3.out 13
 have e3:=Blk.nth a3.out 14
 have e4:=Blk.nth a3.out 15
 have e5:=Blk.nth a4.out 0
 have e6:=Blk.nth a4.out 1
 have e7:=Blk.nth a4.out 2
 have e8:=Blk.nth a4.out 3
 have e9:=Blk.nth a4.out 4
 have f0:=Blk.nth a4.out 5
 have f1:=Blk.nth a4.out 6
 have f2:=Blk.nth a4.out 7
 have f3:=Blk.nth a4.out 8
 have f4:=Blk.nth a4.out 9
 have f5:=Blk.nth a4.out 10
 have f6:=Blk.nth a4.out 11
 have f7:=Blk.nth a4.out 12
 have f8:=Blk.nth a4.out 13
 have g0:=Blk.nth a4.out 14
 have g1:=Blk.nth a4.out 15
 have b2:(a5).frozen? ⟨w.heap.size+1,0,none⟩=false:=Blk.frozen a3.out 0
 have b3:(a5).frozen? ⟨w.heap.size+1,1,none⟩=false:=Blk.frozen a3.out 1
 have b4:(a5).frozen? ⟨w.heap.size+1,2,none⟩=false:=Blk.frozen a3.out 2
 have b5:(a5).frozen? ⟨w.heap.size+1,3,none⟩=false:=Blk.frozen a3.out 3
 have b6:(a5).frozen? ⟨w.heap.size+1,4,none⟩=false:=Blk.frozen a3.out 4
 have b7:(a5).frozen? ⟨w.heap.size+1,5,none⟩=false:=Blk.frozen a3.out 5
 have b8:(a5).frozen? ⟨w.heap.size+1,6,none⟩=false:=Blk.frozen a3.out 6
 have b9:(a5).frozen? ⟨w.heap.size+1,7,none⟩=false:=Blk.frozen a3.out 7
 have c0:(a5).frozen? ⟨w.heap.size+1,8,none⟩=false:=Blk.frozen a3.out 8
 have c1:(a5).frozen? ⟨w.heap.size+1,9,none⟩=false:=Blk.frozen a3.out 9
 have c2:(a5).frozen? ⟨w.heap.size+1,10,none⟩=false:=Blk.frozen a3.out 10
 have c3:(a5).frozen? ⟨w.heap.size+1,11,none⟩=false:=Blk.frozen a3.out 11
 have c4:(a5).frozen? ⟨w.heap.size+1,12,none⟩=false:=Blk.frozen a3.out 12
 have c5:(a5).frozen? ⟨w.heap.size+1,13,none⟩=false:=Blk.frozen a3.out 13
 have c6:(a5).frozen? ⟨w.heap.size+1,14,none⟩=false:=Blk.frozen a3.out 14
 have c7:(a5).frozen? ⟨w.heap.size+1,15,none⟩=false:=Blk.frozen a3.out 15
 have a7:=g4.out
 go_wp2
 refine bodyPost_ret (v:=.agg #[.int .i64 1,.int .i64 0,.int .u8 6,.string s,.int .i64 0,.int .i64 0,.int .i64 0,.bool false,.int .i64 0,.int .i64 0,.int .i64 0,.int .i64 0,.int .i64 0,.string ⟨#[]⟩,.int .i64 1,.int .i64 0]) (by simp [results,Tryz.results131,go_sem,c9,d0,d1,d2,d3,d4,d5,d6,d7,d8,d9,e0,e1,e2,e3,e4,e5,e6,e7,e8,e9,f0,f1,f2,f3,f4,f5,f6,f7,f8,g0,g1,b2,b3,b4,b5,b6,b7,b8,b9,c0,c1,c2,c3,c4,c5,c6,c7]) rfl ⟨rfl,(by have hsz_:=Below.size a7;repeat' (first|with_reducible exact a7|with_reducible exact Below.refl _ _|with_reducible refine Below.alloc ?_ ?_ _|with_reducible refine Below.setCell ?_ ?_ _|with_reducible refine Below.drew ?_|with_reducible refine below_setRow ?_ ?_ _|omega | (simp;done) | (simp;omega)))⟩
end Go.Proofs.YtokpblmgdmokoaaGreat
