import Derived.Test.YtokpblmgdmokoaaGreatAItemN
import Derived.Test.YtokpblmgdmokoaaGreatAVName
set_option maxHeartbeats 4000000
set_option linter.unusedSimpArgs false
set_option linter.unusedVariables false
namespace Go.Proofs.YtokpblmgdmokoaaGreat
open Go.Lib (hid)
open Go.RowKit
theorem sisId_1 (w:World):Calls Tryz.prog 129 #[.int .i64 1] w fun e w'=>e=.returned (.bool true)∧w=w':=sisId_any 1 w
theorem swithin_0 (w:World):Calls Tryz.prog 130 #[.int .i64 0,.int .i64 0,.int .i64 100000] w fun e w'=>e=.returned (.bool true)∧w=w':=swithin_any 0 0 100000 w
theorem swithin_1 (w:World):Calls Tryz.prog 130 #[.int .i64 1,.int .i64 1,.int .i64 40] w fun e w'=>e=.returned (.bool true)∧w=w':=swithin_any 1 1 40 w
set_option maxRecDepth 100000 in
theorem sfilled6 (s:ByteArray) (b:Bool) (hb:nameB s=b) (w:World):Calls Tryz.prog 132 #[.agg #[.int .i64 1,.int .i64 0,.int .u8 6,.string s,.int .i64 0,.int .i64 0,.int .i64 0,.bool false,.int .i64 0,.int .i64 0,.int .i64 0,.int .i64 0,.int .i64 0,.string ⟨#[]⟩,.int .i64 1,.int .i64 0]] w fun e w'=>e=.returned (.bool b)∧Below w.heap.size w w':=by
 have HNB:=hid hb;clear hb
 cases b
 · skip
   go_enter Tryz.func132,Tryz.ntmps132
   obtain ⟨a0,a1⟩:=ent1 w #[.int .i64 1,.int .i64 0,.int .u8 6,.string s,.int .i64 0,.int .i64 0,.int .i64 0,.bool false,.int .i64 0,.int .i64 0,.int .i64 0,.int .i64 0,.int .i64 0,.string ⟨#[]⟩,.int .i64 1,.int .i64 0] 123
   have b1:=Blk.nth a0.out 0
   have b2:=Blk.nth a0.out 1
   have b3:=Blk.nth a0.out 2
   have b4:=Blk.nth a0.out 3
   have b5:=Blk.nth a0.out 4
   have b6:=Blk.nth a0.out 5
   have b7:=Blk.nth a0.out 6
   have a2:=Blk.nth a0.out 7
   have a3:=Blk.nth a0.out 8
   have a4:=Blk.nth a0.out 9
   have a5:=Blk.nth a0.out 10
   have a6:=Blk.nth a0.out 11
   have a7:=Blk.nth a0.out 12
   have a8:=Blk.nth a0.out 13
   have a9:=Blk.nth a0.out 14
   have b0:=Blk.nth a0.out 15
   have HC:=hid (sisName_any s)
   have HC2:=hid swithin_1
   go_wp2_with (first | (go_at_call 144;refine (HC.out _).mono ?_;rw [HNB.out];rintro e _ ⟨rfl,rfl⟩) | (go_at_call 130;refine (HC2.out _).mono ?_;rintro e _ ⟨rfl,rfl⟩))
   go_ret
   exact ⟨rfl,a1.out⟩
 · skip
   go_enter Tryz.func132,Tryz.ntmps132
   obtain ⟨a0,a1⟩:=ent1 w #[.int .i64 1,.int .i64 0,.int .u8 6,.string s,.int .i64 0,.int .i64 0,.int .i64 0,.bool false,.int .i64 0,.int .i64 0,.int .i64 0,.int .i64 0,.int .i64 0,.string ⟨#[]⟩,.int .i64 1,.int .i64 0] 123
   have b1:=Blk.nth a0.out 0
   have b2:=Blk.nth a0.out 1
   have b3:=Blk.nth a0.out 2
   have b4:=Blk.nth a0.out 3
   have b5:=Blk.nth a0.out 4
   have b6:=Blk.nth a0.out 5
   have b7:=Blk.nth a0.out 6
   have a2:=Blk.nth a0.out 7
   have a3:=Blk.nth a0.out 8
   have a4:=Blk.nth a0.out 9
   have a5:=Blk.nth a0.out 10
   have a6:=Blk.nth a0.out 11
   have a7:=Blk.nth a0.out 12
   have a8:=Blk.nth a0.out 13
   have a9:=Blk.nth a0.out 14
   have b0:=Blk.nth a0.out 15
   have HC:=hid (sisName_any s)
   have HC2:=hid swithin_1
   go_wp2_with (first | (go_at_call 144;refine (HC.out _).mono ?_;rw [HNB.out];rintro e _ ⟨rfl,rfl⟩) | (go_at_call 130;refine (HC2.out _).mono ?_;rintro e _ ⟨rfl,rfl⟩))
   go_ret
   exact ⟨rfl,a1.out⟩
set_option maxRecDepth 100000 in
theorem sitem6 (s:ByteArray) (b:Bool) (hb:nameB s=b) (w:World):Calls Tryz.prog 108 #[.agg #[.int .i64 1,.int .i64 0,.int .u8 6,.string s,.int .i64 0,.int .i64 0,.int .i64 0,.bool false,.int .i64 0,.int .i64 0,.int .i64 0,.int .i64 0,.int .i64 0,.string ⟨#[]⟩,.int .i64 1,.int .i64 0]] w fun e w'=>e=.returned (.int .i64 (if b then 0 else 1))∧Below w.heap.size w w':=by
 have HNB:=hid hb;clear hb
 cases b
 · rw [if_neg (by simp)]
   go_enter Tryz.func108,Tryz.ntmps108
   obtain ⟨a0,a1⟩:=ent1 w #[.int .i64 1,.int .i64 0,.int .u8 6,.string s,.int .i64 0,.int .i64 0,.int .i64 0,.bool false,.int .i64 0,.int .i64 0,.int .i64 0,.int .i64 0,.int .i64 0,.string ⟨#[]⟩,.int .i64 1,.int .i64 0] 123
   have b7:=Blk.nth a0.out 0
   have b8:=Blk.nth a0.out 1
   have b9:=Blk.nth a0.out 2
   have c0:=Blk.nth a0.out 3
   have c1:=Blk.nth a0.out 4
   have c2:=Blk.nth a0.out 5
   have c3:=Blk.nth a0.out 6
   have a6:=Blk.nth a0.out 7
   have a7:=Blk.nth a0.out 8
   have a8:=Blk.nth a0.out 9
   have a9:=Blk.nth a0.out 10
   have b0:=Blk.nth a0.out 11
   have b1:=Blk.nth a0.out 12
   have b2:=Blk.nth a0.out 13
   have b3:=Blk.nth a0.out 14
   have b4:=Blk.nth a0.out 15
   go_wp2_with fail
   clear b7 b8 b9 c0 c1 c2 c3 a6 a7 a8 a9 b0 b1 b2 b3 b4
   replace a1:=bD a1
   replace a0:=kD a0
   refine wp_region_held_drew (S:=(fun W'=>Blk W' (w.heap.size) 123 #[.int .i64 1,.int .i64 0,.int .u8 6,.string s,.int .i64 0,.int .i64 0,.int .i64 0,.bool false,.int .i64 0,.int .i64 0,.int .i64 0,.int .i64 0,.int .i64 0,.string ⟨#[]⟩,.int .i64 1,.int .i64 0])) (by kernel_rfl) a0.out (fun _=>?_)
   obtain ⟨f0,b5⟩:∃ w',w'=((w.alloc (.cells #[.int .i64 1,.int .i64 0,.int .u8 6,.string s,.int .i64 0,.int .i64 0,.int .i64 0,.bool false,.int .i64 0,.int .i64 0,.int .i64 0,.int .i64 0,.int .i64 0,.string ⟨#[]⟩,.int .i64 1,.int .i64 0] 123)).drew):=⟨_,rfl⟩
   rw [← b5] at a1 a0
   rw [← b5]
   clear b5
   refine' twH 0 a0.out ?_
   refine' tkH 1 a0.out ?e0 ?_
   case e0=>(rintro W' hS0;have hc0:=Blk.nth hS0 0;clear hS0;go_simp;try with_reducible rfl)
   try simp only [pq]
   refine oneH 2 rfl fun K hK=>?_
   go_simp
   go_at_call 129
   refine (sisId_1 _).mono ?_
   rintro e f1 ⟨rfl,rfl⟩
   dsimp only
   refine hK.out _ _ a0.out (fun _=>?_);clear hK K
   try simp only [pq]
   refine' twH 3 a0.out ?_
   refine' twH 4 a0.out ?_
   refine' twH 5 a0.out ?_
   refine' tkH 6 a0.out ?e1 ?_
   case e1=>(rintro W' hS0;have hc0:=Blk.nth hS0 1;clear hS0;go_simp;try with_reducible rfl)
   try simp only [pq]
   refine oneH 7 rfl fun K hK=>?_
   go_simp
   go_at_call 130
   refine (swithin_0 _).mono ?_
   rintro e f2 ⟨rfl,rfl⟩
   dsimp only
   refine hK.out _ _ a0.out (fun _=>?_);clear hK K
   try simp only [pq]
   refine' twH 8 a0.out ?_
   refine' twH 9 a0.out ?_
   refine' twH 10 a0.out ?_
   refine' tkH 11 a0.out ?e2 ?_
   case e2=>(rintro W' hS0;have hc0:=Blk.nth hS0 0;have hc1:=Blk.nth hS0 1;have hc2:=Blk.nth hS0 2;have hc3:=Blk.nth hS0 3;have hc4:=Blk.nth hS0 4;have hc5:=Blk.nth hS0 5;have hc6:=Blk.nth hS0 6;have hc7:=Blk.nth hS0 7;have hc8:=Blk.nth hS0 8;have hc9:=Blk.nth hS0 9;have hc10:=Blk.nth hS0 10;have hc11:=Blk.nth hS0 11;have hc12:=Blk.nth hS0 12;have hc13:=Blk.nth hS0 13;have hc14:=Blk.nth hS0 14;have hc15:=Blk.nth hS0 15;clear hS0;go_simp;try with_reducible rfl)
   try simp only [pq]
   refine' tkH 12 a0.out ?e3 ?_
   case e3=>(rintro W' hS0;have hc0:=Blk.nth hS0 0;have hc1:=Blk.nth hS0 1;have hc2:=Blk.nth hS0 2;have hc3:=Blk.nth hS0 3;have hc4:=Blk.nth hS0 4;have hc5:=Blk.nth hS0 5;have hc6:=Blk.nth hS0 6;have hc7:=Blk.nth hS0 7;have hc8:=Blk.nth hS0 8;have hc9:=Blk.nth hS0 9;have hc10:=Blk.nth hS0 10;have hc11:=Blk.nth hS0 11;have hc12:=Blk.nth hS0 12;have hc13:=Blk.nth hS0 13;have hc14:=Blk.nth hS0 14;have hc15:=Blk.nth hS0 15;clear hS0;go_simp;try with_reducible rfl)
   try simp only [pq]
   refine oneH 13 rfl fun K hK=>?_
   go_simp
   go_at_call 131
   refine (sbare6 s _).mono ?_
   rintro e f3 ⟨rfl,a2⟩
   dsimp only
   replace a2:=hid a2
   replace a0:=kH a0 a2
   refine hK.out _ _ a0.out (fun _=>?_);clear hK K
   try simp only [pq]
   refine' twH 14 a0.out ?_
   refine' twH 15 a0.out ?_
   refine' twH 16 a0.out ?_
   refine' tkH 17 a0.out ?e4 ?_
   case e4=>(rintro W' hS0;have hc0:=Blk.nth hS0 0;have hc1:=Blk.nth hS0 1;have hc2:=Blk.nth hS0 2;have hc3:=Blk.nth hS0 3;have hc4:=Blk.nth hS0 4;have hc5:=Blk.nth hS0 5;have hc6:=Blk.nth hS0 6;have hc7:=Blk.nth hS0 7;have hc8:=Blk.nth hS0 8;have hc9:=Blk.nth hS0 9;have hc10:=Blk.nth hS0 10;have hc11:=Blk.nth hS0 11;have hc12:=Blk.nth hS0 12;have hc13:=Blk.nth hS0 13;have hc14:=Blk.nth hS0 14;have hc15:=Blk.nth hS0 15;clear hS0;go_simp;try with_reducible rfl)
   try simp only [pq]
   refine oneH 18 rfl fun K hK=>?_
   go_simp
   go_at_call 132
   refine (sfilled6 s _ HNB.out _).mono ?_
   rintro e f4 ⟨rfl,a3⟩
   dsimp only
   replace a3:=hid a3
   replace a0:=kH a0 a3
   refine hK.out _ _ a0.out (fun _=>?_);clear hK K
   try simp only [pq]
   refine' twH 19 a0.out ?_
   refine' twH 20 a0.out ?_
   try simp only [pq]
   refine wpAnyH_done (by kernel_rfl) ?_ _
   have c4:=Blk.nth a0.out 0
   have c5:=Blk.nth a0.out 1
   have c6:=Blk.nth a0.out 2
   have c7:=Blk.nth a0.out 3
   have c8:=Blk.nth a0.out 4
   have c9:=Blk.nth a0.out 5
   have d0:=Blk.nth a0.out 6
   have d1:=Blk.nth a0.out 7
   have d2:=Blk.nth a0.out 8
   have d3:=Blk.nth a0.out 9
   have d4:=Blk.nth a0.out 10
   have d5:=Blk.nth a0.out 11
   have d6:=Blk.nth a0.out 12
   have d7:=Blk.nth a0.out 13
   have d8:=Blk.nth a0.out 14
   have d9:=Blk.nth a0.out 15
   go_wp2
   go_ret
   replace a1:=bH (bH a1 a2) a3
   exact ⟨rfl,a1.out⟩
 · rw [if_pos rfl]
   go_enter Tryz.func108,Tryz.ntmps108
   obtain ⟨a0,a1⟩:=ent1 w #[.int .i64 1,.int .i64 0,.int .u8 6,.string s,.int .i64 0,.int .i64 0,.int .i64 0,.bool false,.int .i64 0,.int .i64 0,.int .i64 0,.int .i64 0,.int .i64 0,.string ⟨#[]⟩,.int .i64 1,.int .i64 0] 123
   have b7:=Blk.nth a0.out 0
   have b8:=Blk.nth a0.out 1
   have b9:=Blk.nth a0.out 2
   have c0:=Blk.nth a0.out 3
   have c1:=Blk.nth a0.out 4
   have c2:=Blk.nth a0.out 5
   have c3:=Blk.nth a0.out 6
   have a6:=Blk.nth a0.out 7
   have a7:=Blk.nth a0.out 8
   have a8:=Blk.nth a0.out 9
   have a9:=Blk.nth a0.out 10
   have b0:=Blk.nth a0.out 11
   have b1:=Blk.nth a0.out 12
   have b2:=Blk.nth a0.out 13
   have b3:=Blk.nth a0.out 14
   have b4:=Blk.nth a0.out 15
   go_wp2_with fail
   clear b7 b8 b9 c0 c1 c2 c3 a6 a7 a8 a9 b0 b1 b2 b3 b4
   replace a1:=bD a1
   replace a0:=kD a0
   refine wp_region_held_drew (S:=(fun W'=>Blk W' (w.heap.size) 123 #[.int .i64 1,.int .i64 0,.int .u8 6,.string s,.int .i64 0,.int .i64 0,.int .i64 0,.bool false,.int .i64 0,.int .i64 0,.int .i64 0,.int .i64 0,.int .i64 0,.string ⟨#[]⟩,.int .i64 1,.int .i64 0])) (by kernel_rfl) a0.out (fun _=>?_)
   obtain ⟨f5,b6⟩:∃ w',w'=((w.alloc (.cells #[.int .i64 1,.int .i64 0,.int .u8 6,.string s,.int .i64 0,.int .i64 0,.int .i64 0,.bool false,.int .i64 0,.int .i64 0,.int .i64 0,.int .i64 0,.int .i64 0,.string ⟨#[]⟩,.int .i64 1,.int .i64 0] 123)).drew):=⟨_,rfl⟩
   rw [← b6] at a1 a0
   rw [← b6]
   clear b6
   refine' twH 0 a0.out ?_
   refine' tkH 1 a0.out ?e5 ?_
   case e5=>(rintro W' hS0;have hc0:=Blk.nth hS0 0;clear hS0;go_simp;try with_reducible rfl)
   try simp only [pq]
   refine oneH 2 rfl fun K hK=>?_
   go_simp
   go_at_call 129
   refine (sisId_1 _).mono ?_
   rintro e f6 ⟨rfl,rfl⟩
   dsimp only
   refine hK.out _ _ a0.out (fun _=>?_);clear hK K
   try simp only [pq]
   refine' twH 3 a0.out ?_
   refine' twH 4 a0.out ?_
   refine' twH 5 a0.out ?_
   refine' tkH 6 a0.out ?e6 ?_
   case e6=>(rintro W' hS0;have hc0:=Blk.nth hS0 1;clear hS0;go_simp;try with_reducible rfl)
   try simp only [pq]
   refine oneH 7 rfl fun K hK=>?_
   go_simp
   go_at_call 130
   refine (swithin_0 _).mono ?_
   rintro e f7 ⟨rfl,rfl⟩
   dsimp only
   refine hK.out _ _ a0.out (fun _=>?_);clear hK K
   try simp only [pq]
   refine' twH 8 a0.out ?_
   refine' twH 9 a0.out ?_
   refine' twH 10 a0.out ?_
   refine' tkH 11 a0.out ?e7 ?_
   case e7=>(rintro W' hS0;have hc0:=Blk.nth hS0 0;have hc1:=Blk.nth hS0 1;have hc2:=Blk.nth hS0 2;have hc3:=Blk.nth hS0 3;have hc4:=Blk.nth hS0 4;have hc5:=Blk.nth hS0 5;have hc6:=Blk.nth hS0 6;have hc7:=Blk.nth hS0 7;have hc8:=Blk.nth hS0 8;have hc9:=Blk.nth hS0 9;have hc10:=Blk.nth hS0 10;have hc11:=Blk.nth hS0 11;have hc12:=Blk.nth hS0 12;have hc13:=Blk.nth hS0 13;have hc14:=Blk.nth hS0 14;have hc15:=Blk.nth hS0 15;clear hS0;go_simp;try with_reducible rfl)
   try simp only [pq]
   refine' tkH 12 a0.out ?e8 ?_
   case e8=>(rintro W' hS0;have hc0:=Blk.nth hS0 0;have hc1:=Blk.nth hS0 1;have hc2:=Blk.nth hS0 2;have hc3:=Blk.nth hS0 3;have hc4:=Blk.nth hS0 4;have hc5:=Blk.nth hS0 5;have hc6:=Blk.nth hS0 6;have hc7:=Blk.nth hS0 7;have hc8:=Blk.nth hS0 8;have hc9:=Blk.nth hS0 9;have hc10:=Blk.nth hS0 10;have hc11:=Blk.nth hS0 11;have hc12:=Blk.nth hS0 12;have hc13:=Blk.nth hS0 13;have hc14:=Blk.nth hS0 14;have hc15:=Blk.nth hS0 15;clear hS0;go_simp;try with_reducible rfl)
   try simp only [pq]
   refine oneH 13 rfl fun K hK=>?_
   go_simp
   go_at_call 131
   refine (sbare6 s _).mono ?_
   rintro e f8 ⟨rfl,a4⟩
   dsimp only
   replace a4:=hid a4
   replace a0:=kH a0 a4
   refine hK.out _ _ a0.out (fun _=>?_);clear hK K
   try simp only [pq]
   refine' twH 14 a0.out ?_
   refine' twH 15 a0.out ?_
   refine' twH 16 a0.out ?_
   refine' tkH 17 a0.out ?e9 ?_
   case e9=>(rintro W' hS0;have hc0:=Blk.nth hS0 0;have hc1:=Blk.nth hS0 1;have hc2:=Blk.nth hS0 2;have hc3:=Blk.nth hS0 3;have hc4:=Blk.nth hS0 4;have hc5:=Blk.nth hS0 5;have hc6:=Blk.nth hS0 6;have hc7:=Blk.nth hS0 7;have hc8:=Blk.nth hS0 8;have hc9:=Blk.nth hS0 9;have hc10:=Blk.nth hS0 10;have hc11:=Blk.nth hS0 11;have hc12:=Blk.nth hS0 12;have hc13:=Blk.nth hS0 13;have hc14:=Blk.nth hS0 14;have hc15:=Blk.nth hS0 15;clear hS0;go_simp;try with_reducible rfl)
   try simp only [pq]
   refine oneH 18 rfl fun K hK=>?_
   go_simp
   go_at_call 132
   refine (sfilled6 s _ HNB.out _).mono ?_
   rintro e f9 ⟨rfl,a5⟩
   dsimp only
   replace a5:=hid a5
   replace a0:=kH a0 a5
   refine hK.out _ _ a0.out (fun _=>?_);clear hK K
   try simp only [pq]
   refine' twH 19 a0.out ?_
   refine' twH 20 a0.out ?_
   try simp only [pq]
   refine wpAnyH_done (by kernel_rfl) ?_ _
   have c4:=Blk.nth a0.out 0
   have c5:=Blk.nth a0.out 1
   have c6:=Blk.nth a0.out 2
   have c7:=Blk.nth a0.out 3
   have c8:=Blk.nth a0.out 4
   have c9:=Blk.nth a0.out 5
   have d0:=Blk.nth a0.out 6
   have d1:=Blk.nth a0.out 7
   have d2:=Blk.nth a0.out 8
   have d3:=Blk.nth a0.out 9
   have d4:=Blk.nth a0.out 10
   have d5:=Blk.nth a0.out 11
   have d6:=Blk.nth a0.out 12
   have d7:=Blk.nth a0.out 13
   have d8:=Blk.nth a0.out 14
   have d9:=Blk.nth a0.out 15
   go_wp2
   go_ret
   replace a1:=bH (bH a1 a4) a5
   exact ⟨rfl,a1.out⟩
set_option maxRecDepth 100000 in
theorem visName_is (s:ByteArray) (b:Bool) (hb:nameB s=b) (w:World):Calls Tryz.prog 73 #[.string s] w fun e w'=>e=.returned (.bool b)∧Below w.heap.size w w':=by
 have HI:=hid (sitem6 s b hb);clear hb
 cases b
 · have H2:=HI.out;rw [if_neg (by simp)] at H2;have H3:=hid H2;clear H2 HI
   go_enter Tryz.func73,Tryz.ntmps73
   go_wp2_with fail
   refine (H3.out _).mono ?_
   rintro e w1 ⟨rfl,hb1⟩
   go_wp2
   go_ret
   exact ⟨rfl,hb1⟩
 · have H2:=HI.out;rw [if_pos rfl] at H2;have H3:=hid H2;clear H2 HI
   go_enter Tryz.func73,Tryz.ntmps73
   go_wp2_with fail
   refine (H3.out _).mono ?_
   rintro e w1 ⟨rfl,hb1⟩
   go_wp2
   go_ret
   exact ⟨rfl,hb1⟩
end Go.Proofs.YtokpblmgdmokoaaGreat
