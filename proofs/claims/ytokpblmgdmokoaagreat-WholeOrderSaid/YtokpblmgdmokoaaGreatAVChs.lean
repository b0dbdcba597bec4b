import Derived.Test.YtokpblmgdmokoaaGreatAVTake
set_option maxHeartbeats 4000000
set_option linter.unusedSimpArgs false
set_option linter.unusedVariables false
namespace Go.Proofs.YtokpblmgdmokoaaGreat
open Go.Lib (hid)
open Go.RowKit Go.Maps
def liesB (a b c d:Int):Bool:=decide (c≤a)&&decide (b≤d)
set_option maxRecDepth 100000 in
theorem lies_any (a b c d:Int) (w:World):Calls Tryz.prog 115 #[.agg #[.int .i64 a,.int .i64 b],.agg #[.int .i64 c,.int .i64 d]] w fun e w'=>e=.returned (.bool (liesB a b c d))∧Below w.heap.size w w':=by
 unfold liesB
 by_cases hc:c≤a<;>by_cases hd:b≤d<;>have HC:=hid hc<;>have HD:=hid hd
 · skip
   go_enter Tryz.func115,Tryz.ntmps115
   obtain ⟨a1,a2,a0⟩:=ent2 w #[.int .i64 a,.int .i64 b] 41 #[.int .i64 c,.int .i64 d] 41
   obtain ⟨a3,a4⟩:=at2 a1
   obtain ⟨a5,a6⟩:=at2 a2
   go_wp2
   go_ret
   exact ⟨ret_bool (by have hc:=HC.out;have hd:=HD.out;first|rfl | (simp;done) | (simp;omega)),a0.out⟩
 · skip
   go_enter Tryz.func115,Tryz.ntmps115
   obtain ⟨a1,a2,a0⟩:=ent2 w #[.int .i64 a,.int .i64 b] 41 #[.int .i64 c,.int .i64 d] 41
   obtain ⟨a3,a4⟩:=at2 a1
   obtain ⟨a5,a6⟩:=at2 a2
   go_wp2
   go_ret
   exact ⟨ret_bool (by have hc:=HC.out;have hd:=HD.out;first|rfl | (simp;done) | (simp;omega)),a0.out⟩
 · skip
   go_enter Tryz.func115,Tryz.ntmps115
   obtain ⟨a1,a2,a0⟩:=ent2 w #[.int .i64 a,.int .i64 b] 41 #[.int .i64 c,.int .i64 d] 41
   obtain ⟨a3,a4⟩:=at2 a1
   obtain ⟨a5,a6⟩:=at2 a2
   go_wp2
   go_ret
   exact ⟨ret_bool (by have hc:=HC.out;have hd:=HD.out;first|rfl | (simp;done) | (simp;omega)),a0.out⟩
 · skip
   go_enter Tryz.func115,Tryz.ntmps115
   obtain ⟨a1,a2,a0⟩:=ent2 w #[.int .i64 a,.int .i64 b] 41 #[.int .i64 c,.int .i64 d] 41
   obtain ⟨a3,a4⟩:=at2 a1
   obtain ⟨a5,a6⟩:=at2 a2
   go_wp2
   go_ret
   exact ⟨ret_bool (by have hc:=HC.out;have hd:=HD.out;first|rfl | (simp;done) | (simp;omega)),a0.out⟩
theorem col_any (p:Prt) (x:PAd) (ft:Bool) (w:World):Calls Tryz.prog 120 #[.agg #[.slice x.A x.n x.c,.int .i64 p.lo,.int .i64 p.hi,.int .i64 p.lb,.int .i64 p.hb,.bool ft,.int .i64 p.fb,.slice x.B x.m x.d]] w fun e w'=>e=.returned (.agg #[.int .i64 p.lo,.int .i64 p.hi])∧Below w.heap.size w w':=col0 p x ft w
theorem lies_is (a b c d:Int) (w:World) (v:Bool) (hv:liesB a b c d=v):Calls Tryz.prog 115 #[.agg #[.int .i64 a,.int .i64 b],.agg #[.int .i64 c,.int .i64 d]] w fun e w'=>e=.returned (.bool v)∧Below w.heap.size w w':=by
 subst hv
 exact lies_any a b c d w
theorem all_any (p:Prt) (x:PAd) (w:World):Calls Tryz.prog 138 #[.agg #[.slice x.A x.n x.c,.int .i64 p.lo,.int .i64 p.hi,.int .i64 p.lb,.int .i64 p.hb,.bool p.ft,.int .i64 p.fb,.slice x.B x.m x.d]] w fun e w'=>e=.returned (.bool true)∧Below w.heap.size w w':=by
 go_enter Tryz.func138,Tryz.ntmps138
 obtain ⟨a1,a0⟩:=ent1 w #[.slice x.A x.n x.c,.int .i64 p.lo,.int .i64 p.hi,.int .i64 p.lb,.int .i64 p.hb,.bool p.ft,.int .i64 p.fb,.slice x.B x.m x.d] 48
 go_wp2
 go_ret
 exact ⟨rfl,a0.out⟩
set_option maxRecDepth 100000 in
theorem wit2_0 (p:Prt) (x:PAd) (ft:Bool) (c d:Int) (bs:Nat) (w:World) (hs:Blk w bs 41 #[.int .i64 c,.int .i64 d]) (v:Bool) (hv:liesB p.lo p.hi c d=v):Calls Tryz.prog 121 #[.agg #[.slice x.A x.n x.c,.int .i64 p.lo,.int .i64 p.hi,.int .i64 p.lb,.int .i64 p.hb,.bool ft,.int .i64 p.fb,.slice x.B x.m x.d],.pointer (some ⟨bs,0,none⟩)] w fun e w'=>e=.returned (.bool v)∧Below w.heap.size w w':=by
 have HL:=hid hv;clear hv
 go_enter Tryz.func121,Tryz.ntmps121
 obtain ⟨a0,a2⟩:=ent1 w #[.slice x.A x.n x.c,.int .i64 p.lo,.int .i64 p.hi,.int .i64 p.lb,.int .i64 p.hb,.bool ft,.int .i64 p.fb,.slice x.B x.m x.d] 48
 have a1:=hid (Blk.keep (hs) a2.out)
 clear hs
 obtain ⟨b2,b3,b4,b5,b6,b7,a8,a9⟩:=at8 a0
 go_wp2
 clear b2 b3 b4 b5 b6 b7 a8 a9
 replace a2:=bD a2
 replace a1:=kD a1
 replace a0:=kD a0
 refine wp_region_held_drew (S:=(fun W'=>Blk W' (w.heap.size) 48 #[.slice x.A x.n x.c,.int .i64 p.lo,.int .i64 p.hi,.int .i64 p.lb,.int .i64 p.hb,.bool ft,.int .i64 p.fb,.slice x.B x.m x.d]∧Blk W' (bs) 41 #[.int .i64 c,.int .i64 d])) (by kernel_rfl) ⟨a0.out,a1.out⟩ (fun _=>?_)
 obtain ⟨b0,a5⟩:∃ w',w'=((w.alloc (.cells #[.slice x.A x.n x.c,.int .i64 p.lo,.int .i64 p.hi,.int .i64 p.lb,.int .i64 p.hb,.bool ft,.int .i64 p.fb,.slice x.B x.m x.d] 48)).drew):=⟨_,rfl⟩
 rw [← a5] at a2 a1 a0
 rw [← a5]
 clear a5
 refine' tkH 0 ⟨a0.out,a1.out⟩ ?a6 ?_
 case a6=>(rintro W' ⟨hS0,hS1⟩;have hc0:=Blk.nth hS0 0;have hc1:=Blk.nth hS0 1;have hc2:=Blk.nth hS0 2;have hc3:=Blk.nth hS0 3;have hc4:=Blk.nth hS0 4;have hc5:=Blk.nth hS0 5;have hc6:=Blk.nth hS0 6;have hc7:=Blk.nth hS0 7;clear hS0 hS1;go_simp;try with_reducible rfl)
 refine' tkH 2 ⟨a0.out,a1.out⟩ ?a7 ?_
 case a7=>(rintro W' ⟨hS0,hS1⟩;have hc0:=Blk.nth hS1 0;have hc1:=Blk.nth hS1 1;clear hS0 hS1;go_simp;try with_reducible rfl)
 try simp only [pq]
 refine oneH 1 rfl fun K hK=>?_
 go_simp
 go_at_call 120
 refine (col_any p x ft (b0)).mono ?_
 rintro e b1 ⟨rfl,a3⟩
 dsimp only
 replace a3:=hid a3
 replace a0:=kH a0 a3
 replace a1:=kH a1 a3
 refine hK.out _ _ ⟨a0.out,a1.out⟩ (fun _=>?_);clear hK K
 try simp only [pq]
 refine oneH 3 rfl fun K hK=>?_
 go_simp
 go_at_call 115
 refine (lies_is _ _ _ _ (b1) _ HL.out).mono ?_
 rintro e b8 ⟨rfl,a4⟩
 dsimp only
 replace a4:=hid a4
 replace a0:=kH a0 a4
 replace a1:=kH a1 a4
 refine hK.out _ _ ⟨a0.out,a1.out⟩ (fun _=>?_);clear hK K
 try simp only [pq]
 refine' twH 4 ⟨a0.out,a1.out⟩ ?_
 try simp only [pq]
 refine wpAnyH_done (by kernel_rfl) ?_ _
 go_wp2
 go_ret
 replace a2:=bH (bH a2 a3) a4
 exact ⟨ret_bool (by have hl:=HL.out;first|rfl | (simp;done) | (simp [hl];done)),a2.out⟩
set_option maxRecDepth 100000 in
theorem wit1_f (p:Prt) (x:PAd) (c d:Int) (bs:Nat) (w:World) (hs:Blk w bs 41 #[.int .i64 c,.int .i64 d]):Calls Tryz.prog 119 #[.agg #[.slice x.A x.n x.c,.int .i64 p.lo,.int .i64 p.hi,.int .i64 p.lb,.int .i64 p.hb,.bool false,.int .i64 p.fb,.slice x.B x.m x.d],.pointer (some ⟨bs,0,none⟩)] w fun e w'=>e=.returned (.bool false)∧Below w.heap.size w w':=by
 have HL:=hid (rfl:(false:Bool)=false)
 go_enter Tryz.func119,Tryz.ntmps119
 obtain ⟨a0,a2⟩:=ent1 w #[.slice x.A x.n x.c,.int .i64 p.lo,.int .i64 p.hi,.int .i64 p.lb,.int .i64 p.hb,.bool false,.int .i64 p.fb,.slice x.B x.m x.d] 48
 have a1:=hid (Blk.keep (hs) a2.out)
 clear hs
 obtain ⟨a7,a8,a9,b0,b1,b2,a5,a6⟩:=at8 a0
 go_wp2
 clear a7 a8 a9 b0 b1 b2 a5 a6
 replace a2:=bD a2
 replace a1:=kD a1
 replace a0:=kD a0
 refine wp_region_held_drew (S:=(fun W'=>Blk W' (w.heap.size) 48 #[.slice x.A x.n x.c,.int .i64 p.lo,.int .i64 p.hi,.int .i64 p.lb,.int .i64 p.hb,.bool false,.int .i64 p.fb,.slice x.B x.m x.d]∧Blk W' (bs) 41 #[.int .i64 c,.int .i64 d])) (by kernel_rfl) ⟨a0.out,a1.out⟩ (fun _=>?_)
 obtain ⟨b3,a3⟩:∃ w',w'=((w.alloc (.cells #[.slice x.A x.n x.c,.int .i64 p.lo,.int .i64 p.hi,.int .i64 p.lb,.int .i64 p.hb,.bool false,.int .i64 p.fb,.slice x.B x.m x.d] 48)).drew):=⟨_,rfl⟩
 rw [← a3] at a2 a1 a0
 rw [← a3]
 clear a3
 refine' twH 0 ⟨a0.out,a1.out⟩ ?_
 refine' tkH 1 ⟨a0.out,a1.out⟩ ?a4 ?_
 case a4=>(rintro W' ⟨hS0,hS1⟩;have hc0:=Blk.nth hS0 5;clear hS0 hS1;go_simp;try with_reducible rfl)
 refine' twH 2 ⟨a0.out,a1.out⟩ ?_
 refine' tkNH 3 ⟨a0.out,a1.out⟩ ?_
 try simp only [pq]
 refine' tkNH 4 ⟨a0.out,a1.out⟩ ?_
 refine' tkNH 5 ⟨a0.out,a1.out⟩ ?_
 refine' tkNH 6 ⟨a0.out,a1.out⟩ ?_
 refine' twH 7 ⟨a0.out,a1.out⟩ ?_
 try simp only [pq]
 refine' twH 8 ⟨a0.out,a1.out⟩ ?_
 try simp only [pq]
 refine wpAnyH_done (by kernel_rfl) ?_ _
 go_wp2
 go_ret
 exact ⟨ret_bool (by have hl:=HL.out;first|rfl | (simp;done) | (simp [hl];done)),a2.out⟩
set_option maxRecDepth 100000 in
theorem wit1_t (p:Prt) (x:PAd) (c d:Int) (bs:Nat) (w:World) (hs:Blk w bs 41 #[.int .i64 c,.int .i64 d]) (v:Bool) (hv:liesB p.lo p.hi c d=v):Calls Tryz.prog 119 #[.agg #[.slice x.A x.n x.c,.int .i64 p.lo,.int .i64 p.hi,.int .i64 p.lb,.int .i64 p.hb,.bool true,.int .i64 p.fb,.slice x.B x.m x.d],.pointer (some ⟨bs,0,none⟩)] w fun e w'=>e=.returned (.bool v)∧Below w.heap.size w w':=by
 have HL:=hid hv;clear hv
 go_enter Tryz.func119,Tryz.ntmps119
 obtain ⟨a0,a2⟩:=ent1 w #[.slice x.A x.n x.c,.int .i64 p.lo,.int .i64 p.hi,.int .i64 p.lb,.int .i64 p.hb,.bool true,.int .i64 p.fb,.slice x.B x.m x.d] 48
 have a1:=hid (Blk.keep (hs) a2.out)
 clear hs
 obtain ⟨b3,b4,b5,b6,b7,b8,a9,b0⟩:=at8 a0
 go_wp2
 clear b3 b4 b5 b6 b7 b8 a9 b0
 replace a2:=bD a2
 replace a1:=kD a1
 replace a0:=kD a0
 refine wp_region_held_drew (S:=(fun W'=>Blk W' (w.heap.size) 48 #[.slice x.A x.n x.c,.int .i64 p.lo,.int .i64 p.hi,.int .i64 p.lb,.int .i64 p.hb,.bool true,.int .i64 p.fb,.slice x.B x.m x.d]∧Blk W' (bs) 41 #[.int .i64 c,.int .i64 d])) (by kernel_rfl) ⟨a0.out,a1.out⟩ (fun _=>?_)
 obtain ⟨b1,a5⟩:∃ w',w'=((w.alloc (.cells #[.slice x.A x.n x.c,.int .i64 p.lo,.int .i64 p.hi,.int .i64 p.lb,.int .i64 p.hb,.bool true,.int .i64 p.fb,.slice x.B x.m x.d] 48)).drew):=⟨_,rfl⟩
 rw [← a5] at a2 a1 a0
 rw [← a5]
 clear a5
 refine' twH 0 ⟨a0.out,a1.out⟩ ?_
 refine' tkH 1 ⟨a0.out,a1.out⟩ ?a6 ?_
 case a6=>(rintro W' ⟨hS0,hS1⟩;have hc0:=Blk.nth hS0 5;clear hS0 hS1;go_simp;try with_reducible rfl)
 refine' twH 2 ⟨a0.out,a1.out⟩ ?_
 refine' tkH 3 ⟨a0.out,a1.out⟩ ?a7 ?_
 case a7=>(rintro W' ⟨hS0,hS1⟩;have hc0:=Blk.nth hS0 0;have hc1:=Blk.nth hS0 1;have hc2:=Blk.nth hS0 2;have hc3:=Blk.nth hS0 3;have hc4:=Blk.nth hS0 4;have hc5:=Blk.nth hS0 5;have hc6:=Blk.nth hS0 6;have hc7:=Blk.nth hS0 7;clear hS0 hS1;go_simp;try with_reducible rfl)
 try simp only [pq]
 refine' tkH 5 ⟨a0.out,a1.out⟩ ?a8 ?_
 case a8=>(rintro W' ⟨hS0,hS1⟩;have hc0:=Blk.nth hS1 0;have hc1:=Blk.nth hS1 1;clear hS0 hS1;go_simp;try with_reducible rfl)
 try simp only [pq]
 refine oneH 4 rfl fun K hK=>?_
 go_simp
 go_at_call 120
 refine (col_any p x true (b1)).mono ?_
 rintro e b2 ⟨rfl,a3⟩
 dsimp only
 replace a3:=hid a3
 replace a0:=kH a0 a3
 replace a1:=kH a1 a3
 refine hK.out _ _ ⟨a0.out,a1.out⟩ (fun _=>?_);clear hK K
 try simp only [pq]
 refine oneH 6 rfl fun K hK=>?_
 go_simp
 go_at_call 115
 refine (lies_is _ _ _ _ (b2) _ HL.out).mono ?_
 rintro e b9 ⟨rfl,a4⟩
 dsimp only
 replace a4:=hid a4
 replace a0:=kH a0 a4
 replace a1:=kH a1 a4
 refine hK.out _ _ ⟨a0.out,a1.out⟩ (fun _=>?_);clear hK K
 try simp only [pq]
 refine' twH 7 ⟨a0.out,a1.out⟩ ?_
 refine' twH 8 ⟨a0.out,a1.out⟩ ?_
 try simp only [pq]
 refine wpAnyH_done (by kernel_rfl) ?_ _
 go_wp2
 go_ret
 replace a2:=bH (bH a2 a3) a4
 exact ⟨ret_bool (by have hl:=HL.out;first|rfl | (simp;done) | (simp [hl];done)),a2.out⟩
theorem wit2_any (p:Prt) (x:PAd) (c d:Int) (bs:Nat) (w:World) (hs:Blk w bs 41 #[.int .i64 c,.int .i64 d]):Calls Tryz.prog 121 #[.agg #[.slice x.A x.n x.c,.int .i64 p.lo,.int .i64 p.hi,.int .i64 p.lb,.int .i64 p.hb,.bool p.ft,.int .i64 p.fb,.slice x.B x.m x.d],.pointer (some ⟨bs,0,none⟩)] w fun e w'=>e=.returned (.bool (liesB p.lo p.hi c d))∧Below w.heap.size w w':=wit2_0 p x p.ft c d bs w hs _ rfl
theorem wit1_any (p:Prt) (x:PAd) (c d:Int) (bs:Nat) (w:World) (hs:Blk w bs 41 #[.int .i64 c,.int .i64 d]):Calls Tryz.prog 119 #[.agg #[.slice x.A x.n x.c,.int .i64 p.lo,.int .i64 p.hi,.int .i64 p.lb,.int .i64 p.hb,.bool p.ft,.int .i64 p.fb,.slice x.B x.m x.d],.pointer (some ⟨bs,0,none⟩)] w fun e w'=>e=.returned (.bool (p.ft&&liesB p.lo p.hi c d))∧Below w.heap.size w w':=by
 cases hf:p.ft
 · exact wit1_f p x c d bs w hs
 · exact wit1_t p x c d bs w hs _ rfl
def choN (f:Prt→Bool) (ps:List Prt) (q:Nat):List Int:=((List.range q).filter (fun i=>f (ps.getD i default))).map (fun b:Nat=>(b:Int))
theorem choN_succ (f:Prt→Bool) (ps:List Prt) (q:Nat):choN f ps (q+1)=choN f ps q++(if f (ps.getD q default) then [(q:Int)] else []):=by
 unfold choN
 rw [List.range_succ,List.filter_append,List.map_append]
 cases h:f (ps.getD q default)<;>rw [List.getD_eq_getElem?_getD] at h<;>simp [h]
theorem choN_len (f:Prt→Bool) (ps:List Prt) (q:Nat):(choN f ps q).length≤q:=by
 unfold choN
 rw [List.length_map]
 exact Nat.le_trans (List.length_filter_le _ _) (by simp)
theorem choN_in {f:Prt→Bool} {ps:List Prt} {n:Nat}:∀ x∈choN f ps n,∃ a:Nat,x=a∧a<n:=by
 intro x hx
 obtain ⟨a,ha,rfl⟩:=List.mem_map.1 hx
 exact ⟨a,rfl,List.mem_range.1 (List.mem_filter.1 ha).1⟩
set_option maxRecDepth 100000 in
theorem chosen_all (g:Nat) (ware:ByteArray) (lim by_:Int) (A:Option Addr) (n k:Nat) (ps:List Prt) (w:World) (hv:Vw w g ware lim by_ A n k ps):Calls Tryz.prog 118 #[.pointer (some ⟨g,0,none⟩),.func (.func 138) #[] #[]] w fun e w'=>∃ v,e=.returned v∧w'.ownsRow w.heap.size 3 1 v (choN (fun _=>true) ps n).length ((choN (fun _=>true) ps n).map (Value.int .i64))∧(choN (fun _=>true) ps n=[]→v=.slice none 0 0)∧Below w.heap.size w w':=by
 obtain ⟨i0,hi0,hz0,hz1,hz2⟩:=info_parts infoIv
 have HI:=hid hi0;have HZ0:=hid hz0;have HZ1:=hid hz1;have HZ2:=hid hz2;clear hi0 hz0 hz1 hz2
 have HV:=hid hv;clear hv
 go_enter Tryz.func118,Tryz.ntmps118
 obtain ⟨-,-,-,v3⟩:=HV.out.cells
 have hvl:=HV.out.lt;have h40:=HV.out.len
 go_wp2
 clear v3
 go_loopw [14,5] (fun i v wr=>∃ q:Nat,q≤n∧i=.int .i64 q∧wr.ownsRow w.heap.size 3 1 v (choN (fun _=>true) ps q).length ((choN (fun _=>true) ps q).map (Value.int .i64))∧(choN (fun _=>true) ps q=[]→v=.slice none 0 0)∧Below w.heap.size w wr) (fun i _ _=>n-(intOf i).toNat)
 case atStart=>exact ⟨0,Nat.zero_le _,rfl,World.ownsRow_nil _ _ _ _,(fun _=>rfl),Below.refl _ _⟩
 case round =>
  obtain ⟨q,hq,rfl,hown,hnl,hb⟩:=hrel
  have hlen:=choN_len (fun _=>true) ps q
  have hsu:=choN_succ (fun _=>true) ps q
  by_cases hlt:q<n
  · have hlt':(q:Int)<n:=by omega
    have HSU:=hid hsu;have HB:=hid hb;have HLL:=hid hlen;have HOW:=hid hown;have HNL:=hid hnl;clear hsu hb hlen hown hnl
    obtain ⟨b9,o9,p,x,hA9,hb9,hx,-,c0,c1,c2,c3,c4,c5,c6,c7⟩:=RdP.get (HV.out.prt.below HB.out) hlt
    subst hA9
    have HX:=hid (show ps.getD q default=p by rw [List.getD_eq_getElem?_getD,hx];rfl);clear hx
    have a0:=hid (HB.out)
    have a1:=hid (HOW.out)
    clear HOW
    obtain ⟨o_,ho_⟩:∃ o,o=((.cells #[.slice x.A x.n x.c,.int .i64 p.lo,.int .i64 p.hi,.int .i64 p.lb,.int .i64 p.hb,.bool p.ft,.int .i64 p.fb,.slice x.B x.m x.d] 48):Obj):=⟨_,rfl⟩
    replace a0:=bA a0 o_
    replace a1:=hid (World.ownsRow.alloc (a1.out) (o_))
    subst ho_
    have a2:=hid (Blk.new wr 48 #[.slice x.A x.n x.c,.int .i64 p.lo,.int .i64 p.hi,.int .i64 p.lb,.int .i64 p.hb,.bool p.ft,.int .i64 p.fb,.slice x.B x.m x.d])
    obtain ⟨a4,a5,a6,a7,a8,a9,b0,b1⟩:=at8 a2
    have HC:=hid (all_any p x ((wr.alloc (.cells #[.slice x.A x.n x.c,.int .i64 p.lo,.int .i64 p.hi,.int .i64 p.lb,.int .i64 p.hb,.bool p.ft,.int .i64 p.fb,.slice x.B x.m x.d] 48))))
    go_wp2_with fail
    refine HC.out.mono ?_
    rintro e w4 ⟨rfl,hb⟩
    clear HC c0 c1 c2 c3 c4 c5 c6 c7
    clear a4 a5 a6 a7 a8 a9 b0 b1
    have a3:=hid hb
    clear hb
    have HS2:=hid (show choN (fun _=>true) ps (q+1)=choN (fun _=>true) ps q++[(q:Int)] by rw [HSU.out];first|rfl | (rw [HX.out,HH.out];rfl))
    replace a1:=hid (owns_below (a1.out) a3.out)
    have OW:=hid (a1.out.alloc (.cells #[.int .i64 q] 3))
    have N1:=hid (Blk.new w4 3 #[.int .i64 q])
    replace a0:=bH a0 a3
    have hbb:=hid (a0.out.alloc (a0.out).size (.cells #[.int .i64 q] 3))
    have hll2:=HLL.out;have hsz0:=(a0.out).size
    clear a0 a1 a2
    go_wp2_with (at_builtin;refine wpList_append_own _ rfl (.tmp 22) (.tmp 24) 30 rfl (w.heap.size) 3 i0 _ 1 8 Tryz.underlying30 HI.out HZ0.out HZ1.out HZ2.out rfl (by omega) u5 _ _ rfl OW.out ⟨w4.heap.size,0,none⟩ 1 1 [.int .i64 q] rfl rfl (fun j u hu=>by rw [Addr.add_lit,Nat.zero_add,N1.out.cell];simpa using hu) (by simp [Value.oneCell']) (by unfold maxLen;omega) (by omega) (by simp;omega) ?_;intro v' w4 hown4 hg4 _;have HO4:=hid hown4;have HG4:=hid (show World.grownBy _ w4 u5.ownBlock from hg4);clear hown4 hg4)
    go_roundw
    case rel=>exact ⟨q+1,by omega,by go_num,(by rw [HS2.out];simpa using HO4.out),(fun h0=>by rw [HS2.out] at h0;simp at h0),hbb.out.grown HG4.out hbb.out.size (fun r e=>(OW.out.lt r e).1)⟩
    case measure=>simp [intOf];omega
  · obtain rfl:q=n:=by omega
    have HOW:=hid hown;have HB:=hid hb;have HNL:=hid hnl;clear hown hb hnl hsu
    go_wp2
    go_ret
    exact ⟨_,rfl,HOW.out,HNL.out,HB.out⟩
set_option maxRecDepth 100000 in
theorem chosen_w1 (g:Nat) (ware:ByteArray) (lim by_:Int) (A:Option Addr) (n k:Nat) (ps:List Prt) (w:World) (hv:Vw w g ware lim by_ A n k ps) (bs:Nat) (c d:Int) (hs:Blk w bs 41 #[.int .i64 c,.int .i64 d]):Calls Tryz.prog 118 #[.pointer (some ⟨g,0,none⟩),.func (.func 119) #[] #[.pointer (some ⟨bs,0,none⟩)]] w fun e w'=>∃ v,e=.returned v∧w'.ownsRow w.heap.size 3 1 v (choN (fun p=>p.ft&&liesB p.lo p.hi c d) ps n).length ((choN (fun p=>p.ft&&liesB p.lo p.hi c d) ps n).map (Value.int .i64))∧(choN (fun p=>p.ft&&liesB p.lo p.hi c d) ps n=[]→v=.slice none 0 0)∧Below w.heap.size w w':=by
 obtain ⟨i0,hi0,hz0,hz1,hz2⟩:=info_parts infoIv
 have HI:=hid hi0;have HZ0:=hid hz0;have HZ1:=hid hz1;have HZ2:=hid hz2;clear hi0 hz0 hz1 hz2
 have HV:=hid hv;clear hv
 have HBS:=hid hs;clear hs
 go_enter Tryz.func118,Tryz.ntmps118
 obtain ⟨-,-,-,v3⟩:=HV.out.cells
 have hvl:=HV.out.lt;have h40:=HV.out.len
 go_wp2
 clear v3
 go_loopw [14,5] (fun i v wr=>∃ q:Nat,q≤n∧i=.int .i64 q∧wr.ownsRow w.heap.size 3 1 v (choN (fun p=>p.ft&&liesB p.lo p.hi c d) ps q).length ((choN (fun p=>p.ft&&liesB p.lo p.hi c d) ps q).map (Value.int .i64))∧(choN (fun p=>p.ft&&liesB p.lo p.hi c d) ps q=[]→v=.slice none 0 0)∧Below w.heap.size w wr) (fun i _ _=>n-(intOf i).toNat)
 case atStart=>exact ⟨0,Nat.zero_le _,rfl,World.ownsRow_nil _ _ _ _,(fun _=>rfl),Below.refl _ _⟩
 case round =>
  obtain ⟨q,hq,rfl,hown,hnl,hb⟩:=hrel
  have hlen:=choN_len (fun p=>p.ft&&liesB p.lo p.hi c d) ps q
  have hsu:=choN_succ (fun p=>p.ft&&liesB p.lo p.hi c d) ps q
  by_cases hlt:q<n
  · have hlt':(q:Int)<n:=by omega
    have HSU:=hid hsu;have HB:=hid hb;have HLL:=hid hlen;have HOW:=hid hown;have HNL:=hid hnl;clear hsu hb hlen hown hnl
    obtain ⟨b9,o9,p,x,hA9,hb9,hx,-,c0,c1,c2,c3,c4,c5,c6,c7⟩:=RdP.get (HV.out.prt.below HB.out) hlt
    subst hA9
    have HX:=hid (show ps.getD q default=p by rw [List.getD_eq_getElem?_getD,hx];rfl);clear hx
    have a0:=hid (HB.out)
    have a1:=hid (HOW.out)
    clear HOW
    obtain ⟨o_,ho_⟩:∃ o,o=((.cells #[.slice x.A x.n x.c,.int .i64 p.lo,.int .i64 p.hi,.int .i64 p.lb,.int .i64 p.hb,.bool p.ft,.int .i64 p.fb,.slice x.B x.m x.d] 48):Obj):=⟨_,rfl⟩
    replace a0:=bA a0 o_
    replace a1:=hid (World.ownsRow.alloc (a1.out) (o_))
    subst ho_
    have a2:=hid (Blk.new wr 48 #[.slice x.A x.n x.c,.int .i64 p.lo,.int .i64 p.hi,.int .i64 p.lb,.int .i64 p.hb,.bool p.ft,.int .i64 p.fb,.slice x.B x.m x.d])
    obtain ⟨a4,a5,a6,a7,a8,a9,b0,b1⟩:=at8 a2
    have HBB:=HBS.out.lt;have HBB2:=HB.out.size
    have HC:=hid (wit1_any p x c d bs ((wr.alloc (.cells #[.slice x.A x.n x.c,.int .i64 p.lo,.int .i64 p.hi,.int .i64 p.lb,.int .i64 p.hb,.bool p.ft,.int .i64 p.fb,.slice x.B x.m x.d] 48))) ((HBS.out.keep HB.out).alloc _))
    go_wp2_with fail
    refine HC.out.mono ?_
    rintro e w4 ⟨rfl,hb⟩
    clear HC c0 c1 c2 c3 c4 c5 c6 c7
    clear a4 a5 a6 a7 a8 a9 b0 b1
    have a3:=hid hb
    clear hb
    obtain ⟨fv,hfv⟩:∃ v,(p.ft&&liesB p.lo p.hi c d)=v:=⟨_,rfl⟩
    rw [hfv]
    have HH:=hid hfv;clear hfv
    replace a0:=bH a0 a3
    replace a1:=hid (owns_below (a1.out) a3.out)
    replace a2:=kH a2 a3
    cases fv
    · have HS2:=hid (show choN (fun p=>p.ft&&liesB p.lo p.hi c d) ps (q+1)=choN (fun p=>p.ft&&liesB p.lo p.hi c d) ps q by rw [HSU.out,HX.out,HH.out];simp)
      go_wp2
      go_roundw
      case rel=>exact ⟨q+1,by omega,by go_num,(by rw [HS2.out];exact a1.out),(fun h0=>HNL.out (by rw [HS2.out] at h0;exact h0)),a0.out⟩
      case measure=>simp [intOf];omega
    · have HS2:=hid (show choN (fun p=>p.ft&&liesB p.lo p.hi c d) ps (q+1)=choN (fun p=>p.ft&&liesB p.lo p.hi c d) ps q++[(q:Int)] by rw [HSU.out];first|rfl | (rw [HX.out,HH.out];rfl))
      have OW:=hid (a1.out.alloc (.cells #[.int .i64 q] 3))
      have N1:=hid (Blk.new w4 3 #[.int .i64 q])
      have hbb:=hid (a0.out.alloc (a0.out).size (.cells #[.int .i64 q] 3))
      have hll2:=HLL.out;have hsz0:=(a0.out).size
      clear a0 a1 a2
      go_wp2_with (at_builtin;refine wpList_append_own _ rfl (.tmp 22) (.tmp 24) 30 rfl (w.heap.size) 3 i0 _ 1 8 Tryz.underlying30 HI.out HZ0.out HZ1.out HZ2.out rfl (by omega) u5 _ _ rfl OW.out ⟨w4.heap.size,0,none⟩ 1 1 [.int .i64 q] rfl rfl (fun j u hu=>by rw [Addr.add_lit,Nat.zero_add,N1.out.cell];simpa using hu) (by simp [Value.oneCell']) (by unfold maxLen;omega) (by omega) (by simp;omega) ?_;intro v' w4 hown4 hg4 _;have HO4:=hid hown4;have HG4:=hid (show World.grownBy _ w4 u5.ownBlock from hg4);clear hown4 hg4)
      go_roundw
      case rel=>exact ⟨q+1,by omega,by go_num,(by rw [HS2.out];simpa using HO4.out),(fun h0=>by rw [HS2.out] at h0;simp at h0),hbb.out.grown HG4.out hbb.out.size (fun r e=>(OW.out.lt r e).1)⟩
      case measure=>simp [intOf];omega
  · obtain rfl:q=n:=by omega
    have HOW:=hid hown;have HB:=hid hb;have HNL:=hid hnl;clear hown hb hnl hsu
    go_wp2
    go_ret
    exact ⟨_,rfl,HOW.out,HNL.out,HB.out⟩
set_option maxRecDepth 100000 in
theorem chosen_w2 (g:Nat) (ware:ByteArray) (lim by_:Int) (A:Option Addr) (n k:Nat) (ps:List Prt) (w:World) (hv:Vw w g ware lim by_ A n k ps) (bs:Nat) (c d:Int) (hs:Blk w bs 41 #[.int .i64 c,.int .i64 d]):Calls Tryz.prog 118 #[.pointer (some ⟨g,0,none⟩),.func (.func 121) #[] #[.pointer (some ⟨bs,0,none⟩)]] w fun e w'=>∃ v,e=.returned v∧w'.ownsRow w.heap.size 3 1 v (choN (fun p=>liesB p.lo p.hi c d) ps n).length ((choN (fun p=>liesB p.lo p.hi c d) ps n).map (Value.int .i64))∧(choN (fun p=>liesB p.lo p.hi c d) ps n=[]→v=.slice none 0 0)∧Below w.heap.size w w':=by
 obtain ⟨i0,hi0,hz0,hz1,hz2⟩:=info_parts infoIv
 have HI:=hid hi0;have HZ0:=hid hz0;have HZ1:=hid hz1;have HZ2:=hid hz2;clear hi0 hz0 hz1 hz2
 have HV:=hid hv;clear hv
 have HBS:=hid hs;clear hs
 go_enter Tryz.func118,Tryz.ntmps118
 obtain ⟨-,-,-,v3⟩:=HV.out.cells
 have hvl:=HV.out.lt;have h40:=HV.out.len
 go_wp2
 clear v3
 go_loopw [14,5] (fun i v wr=>∃ q:Nat,q≤n∧i=.int .i64 q∧wr.ownsRow w.heap.size 3 1 v (choN (fun p=>liesB p.lo p.hi c d) ps q).length ((choN (fun p=>liesB p.lo p.hi c d) ps q).map (Value.int .i64))∧(choN (fun p=>liesB p.lo p.hi c d) ps q=[]→v=.slice none 0 0)∧Below w.heap.size w wr) (fun i _ _=>n-(intOf i).toNat)
 case atStart=>exact ⟨0,Nat.zero_le _,rfl,World.ownsRow_nil _ _ _ _,(fun _=>rfl),Below.refl _ _⟩
 case round =>
  obtain ⟨q,hq,rfl,hown,hnl,hb⟩:=hrel
  have hlen:=choN_len (fun p=>liesB p.lo p.hi c d) ps q
  have hsu:=choN_succ (fun p=>liesB p.lo p.hi c d) ps q
  by_cases hlt:q<n
  · have hlt':(q:Int)<n:=by omega
    have HSU:=hid hsu;have HB:=hid hb;have HLL:=hid hlen;have HOW:=hid hown;have HNL:=hid hnl;clear hsu hb hlen hown hnl
    obtain ⟨b9,o9,p,x,hA9,hb9,hx,-,c0,c1,c2,c3,c4,c5,c6,c7⟩:=RdP.get (HV.out.prt.below HB.out) hlt
    subst hA9
    have HX:=hid (show ps.getD q default=p by rw [List.getD_eq_getElem?_getD,hx];rfl);clear hx
    have a0:=hid (HB.out)
    have a1:=hid (HOW.out)
    clear HOW
    obtain ⟨o_,ho_⟩:∃ o,o=((.cells #[.slice x.A x.n x.c,.int .i64 p.lo,.int .i64 p.hi,.int .i64 p.lb,.int .i64 p.hb,.bool p.ft,.int .i64 p.fb,.slice x.B x.m x.d] 48):Obj):=⟨_,rfl⟩
    replace a0:=bA a0 o_
    replace a1:=hid (World.ownsRow.alloc (a1.out) (o_))
    subst ho_
    have a2:=hid (Blk.new wr 48 #[.slice x.A x.n x.c,.int .i64 p.lo,.int .i64 p.hi,.int .i64 p.lb,.int .i64 p.hb,.bool p.ft,.int .i64 p.fb,.slice x.B x.m x.d])
    obtain ⟨a4,a5,a6,a7,a8,a9,b0,b1⟩:=at8 a2
    have HBB:=HBS.out.lt;have HBB2:=HB.out.size
    have HC:=hid (wit2_any p x c d bs ((wr.alloc (.cells #[.slice x.A x.n x.c,.int .i64 p.lo,.int .i64 p.hi,.int .i64 p.lb,.int .i64 p.hb,.bool p.ft,.int .i64 p.fb,.slice x.B x.m x.d] 48))) ((HBS.out.keep HB.out).alloc _))
    go_wp2_with fail
    refine HC.out.mono ?_
    rintro e w4 ⟨rfl,hb⟩
    clear HC c0 c1 c2 c3 c4 c5 c6 c7
    clear a4 a5 a6 a7 a8 a9 b0 b1
    have a3:=hid hb
    clear hb
    obtain ⟨fv,hfv⟩:∃ v,(liesB p.lo p.hi c d)=v:=⟨_,rfl⟩
    rw [hfv]
    have HH:=hid hfv;clear hfv
    replace a0:=bH a0 a3
    replace a1:=hid (owns_below (a1.out) a3.out)
    replace a2:=kH a2 a3
    cases fv
    · have HS2:=hid (show choN (fun p=>liesB p.lo p.hi c d) ps (q+1)=choN (fun p=>liesB p.lo p.hi c d) ps q by rw [HSU.out,HX.out,HH.out];simp)
      go_wp2
      go_roundw
      case rel=>exact ⟨q+1,by omega,by go_num,(by rw [HS2.out];exact a1.out),(fun h0=>HNL.out (by rw [HS2.out] at h0;exact h0)),a0.out⟩
      case measure=>simp [intOf];omega
    · have HS2:=hid (show choN (fun p=>liesB p.lo p.hi c d) ps (q+1)=choN (fun p=>liesB p.lo p.hi c d) ps q++[(q:Int)] by rw [HSU.out];first|rfl | (rw [HX.out,HH.out];rfl))
      have OW:=hid (a1.out.alloc (.cells #[.int .i64 q] 3))
      have N1:=hid (Blk.new w4 3 #[.int .i64 q])
      have hbb:=hid (a0.out.alloc (a0.out).size (.cells #[.int .i64 q] 3))
      have hll2:=HLL.out;have hsz0:=(a0.out).size
      clear a0 a1 a2
      go_wp2_with (at_builtin;refine wpList_append_own _ rfl (.tmp 22) (.tmp 24) 30 rfl (w.heap.size) 3 i0 _ 1 8 Tryz.underlying30 HI.out HZ0.out HZ1.out HZ2.out rfl (by omega) u5 _ _ rfl OW.out ⟨w4.heap.size,0,none⟩ 1 1 [.int .i64 q] rfl rfl (fun j u hu=>by rw [Addr.add_lit,Nat.zero_add,N1.out.cell];simpa using hu) (by simp [Value.oneCell']) (by unfold maxLen;omega) (by omega) (by simp;omega) ?_;intro v' w4 hown4 hg4 _;have HO4:=hid hown4;have HG4:=hid (show World.grownBy _ w4 u5.ownBlock from hg4);clear hown4 hg4)
      go_roundw
      case rel=>exact ⟨q+1,by omega,by go_num,(by rw [HS2.out];simpa using HO4.out),(fun h0=>by rw [HS2.out] at h0;simp at h0),hbb.out.grown HG4.out hbb.out.size (fun r e=>(OW.out.lt r e).1)⟩
      case measure=>simp [intOf];omega
  · obtain rfl:q=n:=by omega
    have HOW:=hid hown;have HB:=hid hb;have HNL:=hid hnl;clear hown hb hnl hsu
    go_wp2
    go_ret
    exact ⟨_,rfl,HOW.out,HNL.out,HB.out⟩
end Go.Proofs.YtokpblmgdmokoaaGreat
