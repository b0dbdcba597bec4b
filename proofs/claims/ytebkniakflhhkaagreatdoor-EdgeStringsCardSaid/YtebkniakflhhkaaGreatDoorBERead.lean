import Derived.Test.YtebkniakflhhkaaGreatDoorAEPair
import Derived.Test.YtebkniakflhhkaaGreatDoorBEShelf
set_option maxHeartbeats 4000000
set_option linter.unusedSimpArgs false
set_option linter.unusedVariables false
namespace Go.Proofs.YtebkniakflhhkaaGreatDoor
open Go.Lib (hid)
open Go.RowKit
theorem infoStr:(Tryz.prog.info? 9).map (fun i=>(i.zero,i.size,i.bytes))=some (some (.string ByteArray.empty),1,16):=by kernel_rfl
theorem joinL {p:Prg}:Lib.join [digs p.af,digs p.at2,digs p.bf,digs p.bt] sp1.data.toList=spL p:=by
 simp [Lib.join,sp1,spL,List.intercalate,List.intersperse]
def wrS (p:Prg):ByteArray:=if okW p then spB p else ⟨#[]⟩
def wrE (p:Prg):Int:=if okW p then 0 else 1
set_option maxRecDepth 100000 in
theorem Write_any (p1 p2 p3 p4:Int) (w:World) :
 Calls Tryz.prog 5 #[.agg #[.int .i64 p1,.int .i64 p2,.int .i64 p3,.int .i64 p4]] w fun e w'=>e=.returned (.tuple #[.string (wrS ⟨p1,p2,p3,p4⟩),.int .i64 (wrE ⟨p1,p2,p3,p4⟩)])∧Below w.heap.size w w':=by
 unfold wrS wrE
 cases hs1:isStr p1 p2 16
 · have e0:okW ⟨p1,p2,p3,p4⟩=false:=by simp [okW,hs1]
   rw [e0]
   have E1:=hid hs1;clear hs1 e0
   simp only [Bool.false_eq_true,if_false]
   go_enter Tryz.func5,Tryz.ntmps5
   obtain ⟨a0,a1⟩:=ent1 w #[.int .i64 p1,.int .i64 p2,.int .i64 p3,.int .i64 p4] 25
   obtain ⟨a5,a6,a7,a8⟩:=at4 a0
   go_wp2_with fail
   clear a5 a6 a7 a8
   replace a1:=bD a1
   replace a0:=kD a0
   refine wp_region_held_drew (S:=(fun W'=>Blk W' (w.heap.size) 25 #[.int .i64 p1,.int .i64 p2,.int .i64 p3,.int .i64 p4])) (by kernel_rfl) a0.out (fun _=>?_)
   obtain ⟨e2,b7⟩:∃ w',w'=((w.alloc (.cells #[.int .i64 p1,.int .i64 p2,.int .i64 p3,.int .i64 p4] 25)).drew):=⟨_,rfl⟩
   rw [← b7] at a1 a0
   rw [← b7]
   clear b7
   refine' twH 0 a0.out ?_
   refine' tkH 1 a0.out ?c9 ?_
   case c9=>(rintro W' hS0;have hc0:=Blk.nth hS0 0;have hc1:=Blk.nth hS0 1;clear hS0;go_simp;try with_reducible rfl)
   try simp only [pq]
   refine oneH 2 rfl fun K hK=>?_
   go_simp
   go_at_call 22
   refine (isStretch_is p1 p2 16 _ E1.out _).mono ?_
   rintro e e3 ⟨rfl,a9⟩
   dsimp only
   replace a9:=hid a9
   replace a0:=kH a0 a9
   refine hK.out _ _ a0.out (fun _=>?_);clear hK K
   try simp only [pq]
   refine' twH 3 a0.out ?_
   refine' twH 4 a0.out ?_
   refine' tkNH 5 a0.out ?_
   refine' tkNH 6 a0.out ?_
   try simp only [pq]
   refine' tkNH 7 a0.out ?_
   refine' tkNH 8 a0.out ?_
   refine' twH 9 a0.out ?_
   refine' twH 10 a0.out ?_
   try simp only [pq]
   refine' tkNH 11 a0.out ?_
   refine' tkNH 12 a0.out ?_
   refine' tkNH 13 a0.out ?_
   refine' tkNH 14 a0.out ?_
   try simp only [pq]
   refine' tkNH 15 a0.out ?_
   refine' tkNH 16 a0.out ?_
   refine' tkNH 17 a0.out ?_
   refine' twH 18 a0.out ?_
   try simp only [pq]
   refine wpAnyH_done (by kernel_rfl) ?_ _
   go_wp2
   go_ret2
   replace a1:=bH a1 a9
   exact ⟨rfl,a1.out⟩
 · cases hs2:isStr p3 p4 16
   · have e0:okW ⟨p1,p2,p3,p4⟩=false:=by simp [okW,hs2]
     rw [e0]
     have E1:=hid hs1;have E2:=hid hs2;clear hs1 hs2 e0
     simp only [Bool.false_eq_true,if_false]
     go_enter Tryz.func5,Tryz.ntmps5
     obtain ⟨a0,a1⟩:=ent1 w #[.int .i64 p1,.int .i64 p2,.int .i64 p3,.int .i64 p4] 25
     obtain ⟨a5,a6,a7,a8⟩:=at4 a0
     go_wp2_with fail
     clear a5 a6 a7 a8
     replace a1:=bD a1
     replace a0:=kD a0
     refine wp_region_held_drew (S:=(fun W'=>Blk W' (w.heap.size) 25 #[.int .i64 p1,.int .i64 p2,.int .i64 p3,.int .i64 p4])) (by kernel_rfl) a0.out (fun _=>?_)
     obtain ⟨e4,b8⟩:∃ w',w'=((w.alloc (.cells #[.int .i64 p1,.int .i64 p2,.int .i64 p3,.int .i64 p4] 25)).drew):=⟨_,rfl⟩
     rw [← b8] at a1 a0
     rw [← b8]
     clear b8
     refine' twH 0 a0.out ?_
     refine' tkH 1 a0.out ?d0 ?_
     case d0=>(rintro W' hS0;have hc0:=Blk.nth hS0 0;have hc1:=Blk.nth hS0 1;clear hS0;go_simp;try with_reducible rfl)
     try simp only [pq]
     refine oneH 2 rfl fun K hK=>?_
     go_simp
     go_at_call 22
     refine (isStretch_is p1 p2 16 _ E1.out _).mono ?_
     rintro e e5 ⟨rfl,b0⟩
     dsimp only
     replace b0:=hid b0
     replace a0:=kH a0 b0
     refine hK.out _ _ a0.out (fun _=>?_);clear hK K
     try simp only [pq]
     refine' twH 3 a0.out ?_
     refine' twH 4 a0.out ?_
     refine' twH 5 a0.out ?_
     refine' tkH 6 a0.out ?d1 ?_
     case d1=>(rintro W' hS0;have hc0:=Blk.nth hS0 2;have hc1:=Blk.nth hS0 3;clear hS0;go_simp;try with_reducible rfl)
     try simp only [pq]
     refine oneH 7 rfl fun K hK=>?_
     go_simp
     go_at_call 22
     refine (isStretch_is p3 p4 16 _ E2.out _).mono ?_
     rintro e e6 ⟨rfl,b1⟩
     dsimp only
     replace b1:=hid b1
     replace a0:=kH a0 b1
     refine hK.out _ _ a0.out (fun _=>?_);clear hK K
     try simp only [pq]
     refine' twH 8 a0.out ?_
     refine' twH 9 a0.out ?_
     refine' twH 10 a0.out ?_
     refine' tkNH 11 a0.out ?_
     try simp only [pq]
     refine' tkNH 12 a0.out ?_
     refine' tkNH 13 a0.out ?_
     refine' tkNH 14 a0.out ?_
     refine' tkNH 15 a0.out ?_
     try simp only [pq]
     refine' tkNH 16 a0.out ?_
     refine' tkNH 17 a0.out ?_
     refine' twH 18 a0.out ?_
     try simp only [pq]
     refine wpAnyH_done (by kernel_rfl) ?_ _
     go_wp2
     go_ret2
     replace a1:=bH (bH a1 b0) b1
     exact ⟨rfl,a1.out⟩
   · have i1:=isStr_ok hs1;have i2:=isStr_ok hs2
     by_cases hk:p2-p1=p4-p3
     · have e0:okW ⟨p1,p2,p3,p4⟩=true:=by simp [okW,hs1,hs2,hk]
       have hjl:=spL_len e0
       have hje:(⟨(Lib.join (([⟨(digs p1).toArray⟩,⟨(digs p2).toArray⟩,⟨(digs p3).toArray⟩,⟨(digs p4).toArray⟩]:List ByteArray).map (·.data.toList)) sp1.data.toList).toArray⟩:ByteArray)=spB ⟨p1,p2,p3,p4⟩:=by
        simp only [List.map_cons,List.map_nil]
        rw [show Lib.join [digs p1,digs p2,digs p3,digs p4] sp1.data.toList=spL ⟨p1,p2,p3,p4⟩ from joinL (p:=⟨p1,p2,p3,p4⟩)]
        rfl
       have hjl2:(Lib.join [digs p1,digs p2,digs p3,digs p4] sp1.data.toList).length≤1000000:=by rw [show Lib.join [digs p1,digs p2,digs p3,digs p4] sp1.data.toList=spL ⟨p1,p2,p3,p4⟩ from joinL (p:=⟨p1,p2,p3,p4⟩)];omega
       have HJL:=hid hjl2;have HJE:=hid hje;clear hjl hjl2 hje
       rw [e0]
       have E1:=hid hs1;have E2:=hid hs2;clear hs1 hs2 e0
       simp only [if_true]
       have hkb:(p2-p1 != p4-p3)=false:=by simpa using hk
       have HR0:=hid (show 0≤p1∧p1≤16 by omega);have HR1:=hid (show 0≤p2∧p2≤16 by omega);have HR2:=hid (show 0≤p3∧p3≤16 by omega);have HR3:=hid (show 0≤p4∧p4≤16 by omega)
       clear hk
       obtain ⟨i0,hi0,hz0,hz1,hz2⟩:=info_parts infoStr
       have HI:=hid hi0;have HZ0:=hid hz0;have HZ1:=hid hz1;have HZ2:=hid hz2;clear hi0 hz0 hz1 hz2
       go_enter Tryz.func5,Tryz.ntmps5
       obtain ⟨a0,a1⟩:=ent1 w #[.int .i64 p1,.int .i64 p2,.int .i64 p3,.int .i64 p4] 25
       obtain ⟨a5,a6,a7,a8⟩:=at4 a0
       go_wp2_with fail
       clear a5 a6 a7 a8
       replace a1:=bD a1
       replace a0:=kD a0
       refine wp_region_held_drew (S:=(fun W'=>Blk W' (w.heap.size) 25 #[.int .i64 p1,.int .i64 p2,.int .i64 p3,.int .i64 p4])) (by kernel_rfl) a0.out (fun _=>?_)
       obtain ⟨e7,b9⟩:∃ w',w'=((w.alloc (.cells #[.int .i64 p1,.int .i64 p2,.int .i64 p3,.int .i64 p4] 25)).drew):=⟨_,rfl⟩
       rw [← b9] at a1 a0
       rw [← b9]
       clear b9
       refine' twH 0 a0.out ?_
       refine' tkH 1 a0.out ?d2 ?_
       case d2=>(rintro W' hS0;have hc0:=Blk.nth hS0 0;have hc1:=Blk.nth hS0 1;clear hS0;go_simp;try with_reducible rfl)
       try simp only [pq]
       refine oneH 2 rfl fun K hK=>?_
       go_simp
       go_at_call 22
       refine (isStretch_is p1 p2 16 _ E1.out _).mono ?_
       rintro e e8 ⟨rfl,b2⟩
       dsimp only
       replace b2:=hid b2
       replace a0:=kH a0 b2
       refine hK.out _ _ a0.out (fun _=>?_);clear hK K
       try simp only [pq]
       refine' twH 3 a0.out ?_
       refine' twH 4 a0.out ?_
       refine' twH 5 a0.out ?_
       refine' tkH 6 a0.out ?d3 ?_
       case d3=>(rintro W' hS0;have hc0:=Blk.nth hS0 2;have hc1:=Blk.nth hS0 3;clear hS0;go_simp;try with_reducible rfl)
       try simp only [pq]
       refine oneH 7 rfl fun K hK=>?_
       go_simp
       go_at_call 22
       refine (isStretch_is p3 p4 16 _ E2.out _).mono ?_
       rintro e e9 ⟨rfl,b3⟩
       dsimp only
       replace b3:=hid b3
       replace a0:=kH a0 b3
       refine hK.out _ _ a0.out (fun _=>?_);clear hK K
       try simp only [pq]
       refine' twH 8 a0.out ?_
       refine' twH 9 a0.out ?_
       refine' twH 10 a0.out ?_
       refine' twH 11 a0.out ?_
       try simp only [pq]
       refine' tkH 12 a0.out ?d4 ?_
       case d4=>(rintro W' hS0;have hc0:=Blk.nth hS0 0;have hc1:=Blk.nth hS0 1;clear hS0;go_simp;try with_reducible rfl)
       refine' twH 14 a0.out ?_
       refine' tkH 15 a0.out ?d5 ?_
       case d5=>(rintro W' hS0;have hc0:=Blk.nth hS0 2;have hc1:=Blk.nth hS0 3;clear hS0;go_simp;try with_reducible rfl)
       try simp only [pq]
       refine oneH 13 rfl fun K hK=>?_
       go_simp
       go_at_call 23
       refine (sides_any p1 p2 _ (by omega) (by omega) (by omega) (by omega)).mono ?_
       rintro e f0 ⟨rfl,b4⟩
       dsimp only
       replace b4:=hid b4
       replace a0:=kH a0 b4
       refine hK.out _ _ a0.out (fun _=>?_);clear hK K
       try simp only [pq]
       refine oneH 16 rfl fun K hK=>?_
       go_simp
       go_at_call 23
       refine (sides_any p3 p4 _ (by omega) (by omega) (by omega) (by omega)).mono ?_
       rintro e d7 ⟨rfl,b5⟩
       dsimp only
       replace b5:=hid b5
       replace a0:=kH a0 b5
       refine hK.out _ _ a0.out (fun _=>?_);clear hK K
       try simp only [pq]
       refine' twH 17 a0.out ?_
       refine' twH 18 a0.out ?_
       try simp only [pq]
       refine wpAnyH_done (by kernel_rfl) ?_ _
       obtain ⟨c1,c2,c3,c4⟩:=at4 a0
       go_wp2
       clear c1 c2 c3 c4
       obtain ⟨w9,hw9⟩:∃ x,x=d7:=⟨_,rfl⟩
       replace a1:=bH (bH (bH (bH a1 b2) b3) b4) b5
       have HB9:=a1
       rw [← hw9] at HB9 ⊢
       clear hw9 a1 a0
       go_loopw [39,4] (fun i v wr=>((i=.int .i64 0∧wr.ownsRow w.heap.size 9 1 v 0 [])∨(i=.int .i64 1∧wr.ownsRow w.heap.size 9 1 v 1 [.string ⟨(digs p1).toArray⟩])∨(i=.int .i64 2∧wr.ownsRow w.heap.size 9 1 v 2 [.string ⟨(digs p1).toArray⟩,.string ⟨(digs p2).toArray⟩])∨(i=.int .i64 3∧wr.ownsRow w.heap.size 9 1 v 3 [.string ⟨(digs p1).toArray⟩,.string ⟨(digs p2).toArray⟩,.string ⟨(digs p3).toArray⟩])∨(i=.int .i64 4∧wr.ownsRow w.heap.size 9 1 v 4 [.string ⟨(digs p1).toArray⟩,.string ⟨(digs p2).toArray⟩,.string ⟨(digs p3).toArray⟩,.string ⟨(digs p4).toArray⟩]))∧Below w.heap.size w wr) (fun i _ _=>4-(intOf i).toNat)
       case atStart=>exact ⟨.inl ⟨rfl,World.ownsRow_nil _ _ _ _⟩,HB9.out⟩
       case round =>
        clear HB9
        obtain ⟨hi,hb⟩:=hrel
        rcases hi with ⟨rfl,hown⟩|⟨rfl,hown⟩|⟨rfl,hown⟩|⟨rfl,hown⟩|⟨rfl,hown⟩
        · have OW:=hid (hown.alloc (.cells #[.string ⟨(digs p1).toArray⟩] 9));clear hown
          have N1:=hid (Blk.new wr 9 #[.string ⟨(digs p1).toArray⟩])
          have HBB:=hid (hb.alloc hb.size (.cells #[.string ⟨(digs p1).toArray⟩] 9))
          have hix:∀ w,(Instr.index 66 (.agg #[.int .i64 p1,.int .i64 p2,.int .i64 p3,.int .i64 p4]) (.int .i64 0)).run Tryz.prog w=.ok (.int .i64 p1) w:=fun _=>by kernel_rfl
          have hbs:=hb.size;have HBZ:=hid hbs;clear hb hbs
          go_wp2_with (first | (go_at_call 24;refine (itoa_any p1 HR0.out.1 HR0.out.2 _).mono ?_;rintro e _ ⟨rfl,rfl⟩) | (at_builtin;refine wpList_append_own _ rfl (.tmp 42) (.tmp 45) 65 rfl w.heap.size 9 i0 _ 1 16 Tryz.underlying65 HI.out HZ0.out HZ1.out HZ2.out rfl (by omega) _ _ _ rfl OW.out ⟨wr.heap.size,0,none⟩ 1 1 [.string ⟨(digs p1).toArray⟩] rfl rfl (fun j u hu=>by rw [Addr.add_lit,Nat.zero_add,N1.out.cell];simpa using hu) (by simp [Value.oneCell']) (by unfold maxLen;omega) (by omega) (by rw [World.size_alloc];have:=HBZ.out;omega) ?_;intro v' w4 hown4 hg4 _;have HO4:=hid hown4;have HG4:=hid hg4;clear hown4 hg4))
          go_roundw
          case rel=>exact ⟨.inr (.inl ⟨rfl,HO4.out⟩),HBB.out.grown HG4.out HBB.out.size (fun q e=>by have:=(OW.out.lt q e).1;omega)⟩
          case measure=>simp [intOf]
        · have OW:=hid (hown.alloc (.cells #[.string ⟨(digs p2).toArray⟩] 9));clear hown
          have N1:=hid (Blk.new wr 9 #[.string ⟨(digs p2).toArray⟩])
          have HBB:=hid (hb.alloc hb.size (.cells #[.string ⟨(digs p2).toArray⟩] 9))
          have hix:∀ w,(Instr.index 66 (.agg #[.int .i64 p1,.int .i64 p2,.int .i64 p3,.int .i64 p4]) (.int .i64 1)).run Tryz.prog w=.ok (.int .i64 p2) w:=fun _=>by kernel_rfl
          have hbs:=hb.size;have HBZ:=hid hbs;clear hb hbs
          go_wp2_with (first | (go_at_call 24;refine (itoa_any p2 HR1.out.1 HR1.out.2 _).mono ?_;rintro e _ ⟨rfl,rfl⟩) | (at_builtin;refine wpList_append_own _ rfl (.tmp 42) (.tmp 45) 65 rfl w.heap.size 9 i0 _ 1 16 Tryz.underlying65 HI.out HZ0.out HZ1.out HZ2.out rfl (by omega) _ _ _ rfl OW.out ⟨wr.heap.size,0,none⟩ 1 1 [.string ⟨(digs p2).toArray⟩] rfl rfl (fun j u hu=>by rw [Addr.add_lit,Nat.zero_add,N1.out.cell];simpa using hu) (by simp [Value.oneCell']) (by unfold maxLen;omega) (by omega) (by rw [World.size_alloc];have:=HBZ.out;omega) ?_;intro v' w4 hown4 hg4 _;have HO4:=hid hown4;have HG4:=hid hg4;clear hown4 hg4))
          go_roundw
          case rel=>exact ⟨.inr (.inr (.inl ⟨rfl,HO4.out⟩)),HBB.out.grown HG4.out HBB.out.size (fun q e=>by have:=(OW.out.lt q e).1;omega)⟩
          case measure=>simp [intOf]
        · have OW:=hid (hown.alloc (.cells #[.string ⟨(digs p3).toArray⟩] 9));clear hown
          have N1:=hid (Blk.new wr 9 #[.string ⟨(digs p3).toArray⟩])
          have HBB:=hid (hb.alloc hb.size (.cells #[.string ⟨(digs p3).toArray⟩] 9))
          have hix:∀ w,(Instr.index 66 (.agg #[.int .i64 p1,.int .i64 p2,.int .i64 p3,.int .i64 p4]) (.int .i64 2)).run Tryz.prog w=.ok (.int .i64 p3) w:=fun _=>by kernel_rfl
          have hbs:=hb.size;have HBZ:=hid hbs;clear hb hbs
          go_wp2_with (first | (go_at_call 24;refine (itoa_any p3 HR2.out.1 HR2.out.2 _).mono ?_;rintro e _ ⟨rfl,rfl⟩) | (at_builtin;refine wpList_append_own _ rfl (.tmp 42) (.tmp 45) 65 rfl w.heap.size 9 i0 _ 1 16 Tryz.underlying65 HI.out HZ0.out HZ1.out HZ2.out rfl (by omega) _ _ _ rfl OW.out ⟨wr.heap.size,0,none⟩ 1 1 [.string ⟨(digs p3).toArray⟩] rfl rfl (fun j u hu=>by rw [Addr.add_lit,Nat.zero_add,N1.out.cell];simpa using hu) (by simp [Value.oneCell']) (by unfold maxLen;omega) (by omega) (by rw [World.size_alloc];have:=HBZ.out;omega) ?_;intro v' w4 hown4 hg4 _;have HO4:=hid hown4;have HG4:=hid hg4;clear hown4 hg4))
          go_roundw
          case rel=>exact ⟨.inr (.inr (.inr (.inl ⟨rfl,HO4.out⟩))),HBB.out.grown HG4.out HBB.out.size (fun q e=>by have:=(OW.out.lt q e).1;omega)⟩
          case measure=>simp [intOf]
        · have OW:=hid (hown.alloc (.cells #[.string ⟨(digs p4).toArray⟩] 9));clear hown
          have N1:=hid (Blk.new wr 9 #[.string ⟨(digs p4).toArray⟩])
          have HBB:=hid (hb.alloc hb.size (.cells #[.string ⟨(digs p4).toArray⟩] 9))
          have hix:∀ w,(Instr.index 66 (.agg #[.int .i64 p1,.int .i64 p2,.int .i64 p3,.int .i64 p4]) (.int .i64 3)).run Tryz.prog w=.ok (.int .i64 p4) w:=fun _=>by kernel_rfl
          have hbs:=hb.size;have HBZ:=hid hbs;clear hb hbs
          go_wp2_with (first | (go_at_call 24;refine (itoa_any p4 HR3.out.1 HR3.out.2 _).mono ?_;rintro e _ ⟨rfl,rfl⟩) | (at_builtin;refine wpList_append_own _ rfl (.tmp 42) (.tmp 45) 65 rfl w.heap.size 9 i0 _ 1 16 Tryz.underlying65 HI.out HZ0.out HZ1.out HZ2.out rfl (by omega) _ _ _ rfl OW.out ⟨wr.heap.size,0,none⟩ 1 1 [.string ⟨(digs p4).toArray⟩] rfl rfl (fun j u hu=>by rw [Addr.add_lit,Nat.zero_add,N1.out.cell];simpa using hu) (by simp [Value.oneCell']) (by unfold maxLen;omega) (by omega) (by rw [World.size_alloc];have:=HBZ.out;omega) ?_;intro v' w4 hown4 hg4 _;have HO4:=hid hown4;have HG4:=hid hg4;clear hown4 hg4))
          go_roundw
          case rel=>exact ⟨.inr (.inr (.inr (.inr (⟨rfl,HO4.out⟩)))),HBB.out.grown HG4.out HBB.out.size (fun q e=>by have:=(OW.out.lt q e).1;omega)⟩
          case measure=>simp [intOf]
        · obtain ⟨A5,c5,hv5,hc5,hm5,hn5,hcl⟩:=own_form hown
          subst hv5
          rcases hcl with hcl|⟨bk,o,rfl,hbk,hcell⟩
          · cases hcl
          have hj:=join_any bk o c5 ([⟨(digs p1).toArray⟩,⟨(digs p2).toArray⟩,⟨(digs p3).toArray⟩,⟨(digs p4).toArray⟩]:List ByteArray) sp1 wr (fun j x hx=>hcell j (.string x) (by have:([.string ⟨(digs p1).toArray⟩,.string ⟨(digs p2).toArray⟩,.string ⟨(digs p3).toArray⟩,.string ⟨(digs p4).toArray⟩]:List Value)=([⟨(digs p1).toArray⟩,⟨(digs p2).toArray⟩,⟨(digs p3).toArray⟩,⟨(digs p4).toArray⟩]:List ByteArray).map Value.string:=rfl;rw [this,List.getElem?_map,hx];rfl)) hbk (by simp) hc5 (by simpa using HJL.out)
          rw [HJE.out] at hj
          have HJ:=hid hj;clear hj hown hcell
          have HBR:=hid hb;clear hb
          go_wp2_with (go_at_call 25;refine HJ.out.mono ?_;rintro e w8 ⟨rfl,hb8⟩)
          go_ret2
          exact ⟨rfl,HBR.out.trans (hb8.mono HBR.out.size)⟩
     · have e0:okW ⟨p1,p2,p3,p4⟩=false:=by simp [okW,hk]
       rw [e0]
       have E1:=hid hs1;have E2:=hid hs2;clear hs1 hs2 e0
       simp only [Bool.false_eq_true,if_false]
       have hkb:(p2-p1 != p4-p3)=true:=by simpa using hk
       clear hk
       go_enter Tryz.func5,Tryz.ntmps5
       obtain ⟨a0,a1⟩:=ent1 w #[.int .i64 p1,.int .i64 p2,.int .i64 p3,.int .i64 p4] 25
       obtain ⟨a5,a6,a7,a8⟩:=at4 a0
       go_wp2_with fail
       clear a5 a6 a7 a8
       replace a1:=bD a1
       replace a0:=kD a0
       refine wp_region_held_drew (S:=(fun W'=>Blk W' (w.heap.size) 25 #[.int .i64 p1,.int .i64 p2,.int .i64 p3,.int .i64 p4])) (by kernel_rfl) a0.out (fun _=>?_)
       obtain ⟨f1,c0⟩:∃ w',w'=((w.alloc (.cells #[.int .i64 p1,.int .i64 p2,.int .i64 p3,.int .i64 p4] 25)).drew):=⟨_,rfl⟩
       rw [← c0] at a1 a0
       rw [← c0]
       clear c0
       refine' twH 0 a0.out ?_
       refine' tkH 1 a0.out ?d6 ?_
       case d6=>(rintro W' hS0;have hc0:=Blk.nth hS0 0;have hc1:=Blk.nth hS0 1;clear hS0;go_simp;try with_reducible rfl)
       try simp only [pq]
       refine oneH 2 rfl fun K hK=>?_
       go_simp
       go_at_call 22
       refine (isStretch_is p1 p2 16 _ E1.out _).mono ?_
       rintro e f2 ⟨rfl,b6⟩
       dsimp only
       replace b6:=hid b6
       replace a0:=kH a0 b6
       refine hK.out _ _ a0.out (fun _=>?_);clear hK K
       try simp only [pq]
       refine' twH 3 a0.out ?_
       refine' twH 4 a0.out ?_
       refine' twH 5 a0.out ?_
       refine' tkH 6 a0.out ?c6 ?_
       case c6=>(rintro W' hS0;have hc0:=Blk.nth hS0 2;have hc1:=Blk.nth hS0 3;clear hS0;go_simp;try with_reducible rfl)
       try simp only [pq]
       refine oneH 7 rfl fun K hK=>?_
       go_simp
       go_at_call 22
       refine (isStretch_is p3 p4 16 _ E2.out _).mono ?_
       rintro e d8 ⟨rfl,a2⟩
       dsimp only
       replace a2:=hid a2
       replace a0:=kH a0 a2
       refine hK.out _ _ a0.out (fun _=>?_);clear hK K
       try simp only [pq]
       refine' twH 8 a0.out ?_
       refine' twH 9 a0.out ?_
       refine' twH 10 a0.out ?_
       refine' twH 11 a0.out ?_
       try simp only [pq]
       refine' tkH 12 a0.out ?c7 ?_
       case c7=>(rintro W' hS0;have hc0:=Blk.nth hS0 0;have hc1:=Blk.nth hS0 1;clear hS0;go_simp;try with_reducible rfl)
       refine' twH 14 a0.out ?_
       refine' tkH 15 a0.out ?c8 ?_
       case c8=>(rintro W' hS0;have hc0:=Blk.nth hS0 2;have hc1:=Blk.nth hS0 3;clear hS0;go_simp;try with_reducible rfl)
       try simp only [pq]
       refine oneH 13 rfl fun K hK=>?_
       go_simp
       go_at_call 23
       refine (sides_any p1 p2 _ (by omega) (by omega) (by omega) (by omega)).mono ?_
       rintro e d9 ⟨rfl,a3⟩
       dsimp only
       replace a3:=hid a3
       replace a0:=kH a0 a3
       refine hK.out _ _ a0.out (fun _=>?_);clear hK K
       try simp only [pq]
       refine oneH 16 rfl fun K hK=>?_
       go_simp
       go_at_call 23
       refine (sides_any p3 p4 _ (by omega) (by omega) (by omega) (by omega)).mono ?_
       rintro e e1 ⟨rfl,a4⟩
       dsimp only
       replace a4:=hid a4
       replace a0:=kH a0 a4
       refine hK.out _ _ a0.out (fun _=>?_);clear hK K
       try simp only [pq]
       refine' twH 17 a0.out ?_
       refine' twH 18 a0.out ?_
       try simp only [pq]
       refine wpAnyH_done (by kernel_rfl) ?_ _
       go_wp2
       go_ret2
       replace a1:=bH (bH (bH (bH a1 b6) a2) a3) a4
       exact ⟨rfl,a1.out⟩
open Classical in
noncomputable def rdP (s:ByteArray):Prg:=if h:∃ p,SpIs s p then h.choose else ⟨0,0,0,0⟩
open Classical in
noncomputable def rdE (s:ByteArray):Int:=if ∃ p,SpIs s p then 0 else 4
theorem rd_is {s:ByteArray} {p:Prg} (h:SpIs s p):rdP s=p∧rdE s=0:=by
 have he:∃ p,SpIs s p:=⟨p,h⟩
 refine ⟨?_,if_pos he⟩
 unfold rdP
 rw [dif_pos he]
 exact sp_inj he.choose_spec.1 h.1 (he.choose_spec.2.trans h.2.symm)
theorem rd_no {s:ByteArray} (h:NoSp s):rdP s=⟨0,0,0,0⟩∧rdE s=4:=by
 have he:¬ ∃ p,SpIs s p:=fun ⟨p,h1,h2⟩=>h p h1 h2
 exact ⟨dif_neg he,if_neg he⟩
theorem split_size (sep:ByteArray):∀ (k:Nat) (s:ByteArray),∀ x∈Lib.splitB sep 0 k s,x.size≤s.size
 | 0,s,x,hx=>by
  simp only [Lib.splitB,List.mem_singleton] at hx
  subst hx
  exact Nat.le_refl _
 | k+1,s,x,hx=>by
  unfold Lib.splitB at hx
  split at hx
  · simp only [List.mem_singleton] at hx
    subst hx
    exact Nat.le_refl _
  · rcases List.mem_cons.1 hx with rfl|hx
    · rw [ByteArray.size_extract];omega
    · have:=split_size sep k _ x hx
      rw [ByteArray.size_extract] at this
      omega
theorem bytes_bne {a b:ByteArray} (h:¬ a=b):(a.toList == b.toList)=false:=by
 rw [ByteArray.toList_eq,ByteArray.toList_eq]
 simpa using fun e=>h (bytes_inj (congrArg Array.toList e))
theorem LibOK.keep2 {w w2:World} (hb:Below w.heap.size w w2) (h0:LibOK w) (k:Nat) (v:Value):LibOK (w2.setCell ⟨w.heap.size+1,k,none⟩ v) :=
 h0.keep (hb.setCell (p:=⟨w.heap.size+1,k,none⟩) (by simp) v)
theorem split_rd (s:ByteArray) (w:World) (hs:s.size≤100000) (hl:LibOK w) :
 Calls Tryz.prog 28 #[.string s,.string ⟨#[32]⟩] w fun e w'=>∃ b,e=.returned (.slice (some ⟨b,0,none⟩) (wordsB s).length (wordsB s).length)∧Blk w' b 9 ((wordsB s).map Value.string).toArray∧w.heap.size≤b∧Below w.heap.size w w':=by
 refine (split_any s w hs hl).mono ?_
 rintro e w' ⟨rfl,rfl⟩
 have hn:(wordsB s).length=Lib.countB s sp1+1:=Lib.splitB_all sp1 (by decide) 0 _ s rfl
 rw [hn]
 exact ⟨_,rfl,Blk.new _ _ _,Nat.le_refl _,(Below.refl _ w).alloc (Nat.le_refl _) _⟩
set_option maxRecDepth 100000 in
theorem Read_few (s:ByteArray) (w:World) (hs:s.size≤100000) (hlib:LibOK w) (hw:(wordsB s).length≠4) :
 Calls Tryz.prog 7 #[.string s] w fun e w'=>e=.returned (.tuple #[.agg #[.int .i64 0,.int .i64 0,.int .i64 0,.int .i64 0],.int .i64 4])∧Below w.heap.size w w':=by
 have hw2:((((wordsB s).length:Nat):Int) != 4)=true:=by simp;omega
 have hw3:¬ (((wordsB s).length:Nat):Int)=4:=by omega
 obtain ⟨nw,hnw⟩:∃ n,(wordsB s).length=n:=⟨_,rfl⟩
 go_enter Tryz.func7,Tryz.ntmps7
 have a0:=hid (show Below w.heap.size w w from Below.refl _ w)
 have a2:=hid (hlib)
 clear hlib
 obtain ⟨o_,ho_⟩:∃ o,o=((.cells #[.int .i64 0,.int .i64 0,.int .i64 0,.int .i64 0] 25):Obj):=⟨_,rfl⟩
 replace a0:=bA a0 o_
 replace a2:=hid (LibOK.alloc (a2.out) (o_))
 subst ho_
 have a1:=hid (Blk.new w 25 #[.int .i64 0,.int .i64 0,.int .i64 0,.int .i64 0])
 obtain ⟨o_,ho_⟩:∃ o,o=((.cells #[.int .i64 0,.int .i64 0,.int .i64 0,.int .i64 0] 66):Obj):=⟨_,rfl⟩
 replace a0:=bA a0 o_
 replace a2:=hid (LibOK.alloc (a2.out) (o_))
 replace a1:=kA a1 o_
 subst ho_
 have nb_:=Blk.new (w.alloc (.cells #[.int .i64 0,.int .i64 0,.int .i64 0,.int .i64 0] 25)) 66 #[.int .i64 0,.int .i64 0,.int .i64 0,.int .i64 0]
 simp only [World.size_alloc] at nb_
 have b4:=hid nb_;clear nb_
 have hc:=split_rd s _ hs a2.out
 have HC:=hid hc;clear hc
 go_wp2_with fail
 refine HC.out.mono ?_
 rintro e a3 ⟨b5,rfl,hbk,hge,hb⟩
 clear HC
 have a5:=hid hb
 clear hb
 have b6:=hid (hbk)
 clear hbk
 simp only [World.size_alloc] at hge
 have HNE:=hid (show b5≠w.heap.size+1 by omega);clear hge
 replace a1:=kH a1 a5
 obtain ⟨b2,b3,b0,b1⟩:=at4 a1
 have a6:(a3).frozen? ⟨w.heap.size,0,none⟩=false:=Blk.frozen a1.out 0
 have a7:(a3).frozen? ⟨w.heap.size,1,none⟩=false:=Blk.frozen a1.out 1
 have a8:(a3).frozen? ⟨w.heap.size,2,none⟩=false:=Blk.frozen a1.out 2
 have a9:(a3).frozen? ⟨w.heap.size,3,none⟩=false:=Blk.frozen a1.out 3
 replace a0:=bH a0 a5
 have a4:=a0.out
 go_wp2
 refine bodyPost_ret (v:=.tuple #[.agg #[.int .i64 0,.int .i64 0,.int .i64 0,.int .i64 0],.int .i64 4]) (by simp [results,Tryz.results7,go_sem,b2,b3,b0,b1,a6,a7,a8,a9]) rfl ⟨rfl,(by have hsz_:=Below.size a4;repeat' (first|with_reducible exact a4|with_reducible exact Below.refl _ _|with_reducible refine Below.alloc ?_ ?_ _|with_reducible refine Below.setCell ?_ ?_ _|with_reducible refine Below.drew ?_|with_reducible refine below_setRow ?_ ?_ _|omega | (simp;done) | (simp;omega)))⟩
set_option maxRecDepth 100000 in
theorem Read_four (s:ByteArray) (w:World) (hs:s.size≤100000) (hlib:LibOK w) (a b c d:ByteArray) (HW:Hid (wordsB s=[a,b,c,d])) (HWL:Hid ((wordsB s).length=4)) (HS0:Hid (a.size≤100000)) (HS1:Hid (b.size≤100000)) (HS2:Hid (c.size≤100000)) (HS3:Hid (d.size≤100000))
 (HLIB:Hid (LibOK w)) (rp:Prg) (re:Int)
 (HF:Hid (rp=(if okW ⟨atoV a.data.toList,atoV b.data.toList,atoV c.data.toList,atoV d.data.toList⟩=true∧spB ⟨atoV a.data.toList,atoV b.data.toList,atoV c.data.toList,atoV d.data.toList⟩=s then ⟨atoV a.data.toList,atoV b.data.toList,atoV c.data.toList,atoV d.data.toList⟩ else ⟨0,0,0,0⟩) ∧
  re=(if okW ⟨atoV a.data.toList,atoV b.data.toList,atoV c.data.toList,atoV d.data.toList⟩=true∧spB ⟨atoV a.data.toList,atoV b.data.toList,atoV c.data.toList,atoV d.data.toList⟩=s then 0 else 4))) :
 Calls Tryz.prog 7 #[.string s] w fun e w'=>e=.returned (.tuple #[.agg #[.int .i64 rp.af,.int .i64 rp.at2,.int .i64 rp.bf,.int .i64 rp.bt],.int .i64 re])∧Below w.heap.size w w':=by
  go_enter Tryz.func7,Tryz.ntmps7
  have b3:=hid (show Below w.heap.size w w from Below.refl _ w)
  have a8:=hid (hlib)
  clear hlib
  obtain ⟨o_,ho_⟩:∃ o,o=((.cells #[.int .i64 0,.int .i64 0,.int .i64 0,.int .i64 0] 25):Obj):=⟨_,rfl⟩
  replace b3:=bA b3 o_
  replace a8:=hid (LibOK.alloc (a8.out) (o_))
  subst ho_
  have d0:=hid (Blk.new w 25 #[.int .i64 0,.int .i64 0,.int .i64 0,.int .i64 0])
  obtain ⟨o_,ho_⟩:∃ o,o=((.cells #[.int .i64 0,.int .i64 0,.int .i64 0,.int .i64 0] 66):Obj):=⟨_,rfl⟩
  replace b3:=bA b3 o_
  replace a8:=hid (LibOK.alloc (a8.out) (o_))
  replace d0:=kA d0 o_
  subst ho_
  have nb_:=Blk.new (w.alloc (.cells #[.int .i64 0,.int .i64 0,.int .i64 0,.int .i64 0] 25)) 66 #[.int .i64 0,.int .i64 0,.int .i64 0,.int .i64 0]
  simp only [World.size_alloc] at nb_
  have e3:=hid nb_;clear nb_
  have hc:=split_rd s _ hs a8.out
  have HC:=hid hc;clear hc
  go_wp2_with fail
  refine HC.out.mono ?_
  rintro e w2 ⟨b5,rfl,hbk,hge,hb⟩
  clear HC
  have e8:=hid hb
  clear hb
  have e4:=hid (hbk)
  clear hbk
  simp only [World.size_alloc] at hge
  have HNE:=hid (show b5≠w.heap.size+1 by omega);clear hge
  rw [HW.out] at e4
  simp only [List.map_cons,List.map_nil] at e4
  rw [HWL.out]
  replace d0:=kH d0 e8
  obtain ⟨r2,r3,o6,o7⟩:=at4 d0
  replace e3:=kH e3 e8
  obtain ⟨o8,o9,p0,p1⟩:=at4 e3
  obtain ⟨p2,p3,p4,p5⟩:=at4 e4
  go_wp2
  clear r2 r3 o6 o7 o8 o9 p0 p1 p2 p3 p4 p5
  replace b3:=bH b3 e8
  replace a8:=hid (LibOK.keep (a8.out) e8.out)
  go_loopw [19] (fun i wr=>((i=.int .i64 0∧Blk wr (w.heap.size+1) 66 #[.int .i64 0,.int .i64 0,.int .i64 0,.int .i64 0])∨(i=.int .i64 1∧Blk wr (w.heap.size+1) 66 #[.int .i64 (atoV a.data.toList),.int .i64 0,.int .i64 0,.int .i64 0])∨(i=.int .i64 2∧Blk wr (w.heap.size+1) 66 #[.int .i64 (atoV a.data.toList),.int .i64 (atoV b.data.toList),.int .i64 0,.int .i64 0])∨(i=.int .i64 3∧Blk wr (w.heap.size+1) 66 #[.int .i64 (atoV a.data.toList),.int .i64 (atoV b.data.toList),.int .i64 (atoV c.data.toList),.int .i64 0])∨(i=.int .i64 4∧Blk wr (w.heap.size+1) 66 #[.int .i64 (atoV a.data.toList),.int .i64 (atoV b.data.toList),.int .i64 (atoV c.data.toList),.int .i64 (atoV d.data.toList)]))∧Blk wr (w.heap.size) 25 #[.int .i64 0,.int .i64 0,.int .i64 0,.int .i64 0]∧Blk wr (b5) 9 #[.string a,.string b,.string c,.string d]∧LibOK wr∧Below w.heap.size w wr) (fun i _=>4-(intOf i).toNat)
  case atStart=>exact ⟨.inl ⟨rfl,e3.out⟩,d0.out,e4.out,a8.out,b3.out⟩
  case round =>
   clear b3 a8 d0 e3 e4
   obtain ⟨hi,h1,h2,h3,h4⟩:=hrel
   rcases hi with ⟨rfl,h0⟩|⟨rfl,h0⟩|⟨rfl,h0⟩|⟨rfl,h0⟩|⟨rfl,h0⟩
   · have a2:=hid (h0)
     clear h0
     have b4:=hid (h1)
     clear h1
     have b6:=hid (h2)
     clear h2
     have d1:=hid (h3)
     clear h3
     have a9:=hid (h4)
     clear h4
     obtain ⟨g9,h5,h6,h7⟩:=at4 b4
     obtain ⟨h8,h9,i0,i1⟩:=at4 a2
     obtain ⟨i2,i3,i4,i5⟩:=at4 b6
     have hc:=atoi_any a _ HS0.out d1.out
     have HC:=hid hc;clear hc
     go_wp2_with fail
     refine HC.out.mono ?_
     rintro e d5 ⟨er,rfl,hb⟩
     clear HC
     clear g9 h5 h6 h7 h8 h9 i0 i1 i2 i3 i4 i5
     have b7:=hid hb
     clear hb
     replace b4:=kH b4 b7
     obtain ⟨r4,r5,r6,r7⟩:=at4 b4
     replace a2:=kH a2 b7
     obtain ⟨r8,r9,s0,s1⟩:=at4 a2
     replace b6:=kH b6 b7
     obtain ⟨s2,s3,s4,s5⟩:=at4 b6
     have p6:(d5).frozen? ⟨w.heap.size+1,0,none⟩=false:=Blk.frozen a2.out 0
     have p7:(d5).frozen? ⟨w.heap.size+1,1,none⟩=false:=Blk.frozen a2.out 1
     have p8:(d5).frozen? ⟨w.heap.size+1,2,none⟩=false:=Blk.frozen a2.out 2
     have p9:(d5).frozen? ⟨w.heap.size+1,3,none⟩=false:=Blk.frozen a2.out 3
     have hsz_:=Blk.lt a2.out
     replace a9:=bH a9 b7
     have hbz_:=(a9.out).size
     go_wp2
     replace d1:=hid (LibOK.keep (d1.out) b7.out)
     go_roundw
     case rel=>exact ⟨.inr (.inl ⟨rfl,Blk.set_ a2.out 0 _⟩),Blk.far b4.out (p:=⟨w.heap.size+1,0,none⟩) (by simp) _,Blk.far b6.out (p:=⟨w.heap.size+1,0,none⟩) (by simpa using HNE.out) _,LibOK.keep2 a9.out HLIB.out 0 _,Below.setCell a9.out (p:=⟨w.heap.size+1,0,none⟩) (by simp) _⟩
     case measure=>simp [intOf]
   · have a3:=hid (h0)
     clear h0
     have b8:=hid (h1)
     clear h1
     have b9:=hid (h2)
     clear h2
     have d2:=hid (h3)
     clear h3
     have b0:=hid (h4)
     clear h4
     obtain ⟨i6,i7,i8,i9⟩:=at4 b8
     obtain ⟨j0,j1,j2,j3⟩:=at4 a3
     obtain ⟨j4,j5,j6,j7⟩:=at4 b9
     have hc:=atoi_any b _ HS1.out d2.out
     have HC:=hid hc;clear hc
     go_wp2_with fail
     refine HC.out.mono ?_
     rintro e d6 ⟨er,rfl,hb⟩
     clear HC
     clear i6 i7 i8 i9 j0 j1 j2 j3 j4 j5 j6 j7
     have c0:=hid hb
     clear hb
     replace b8:=kH b8 c0
     obtain ⟨s6,s7,s8,s9⟩:=at4 b8
     replace a3:=kH a3 c0
     obtain ⟨t0,t1,t2,t3⟩:=at4 a3
     replace b9:=kH b9 c0
     obtain ⟨t4,t5,t6,t7⟩:=at4 b9
     have q0:(d6).frozen? ⟨w.heap.size+1,0,none⟩=false:=Blk.frozen a3.out 0
     have q1:(d6).frozen? ⟨w.heap.size+1,1,none⟩=false:=Blk.frozen a3.out 1
     have q2:(d6).frozen? ⟨w.heap.size+1,2,none⟩=false:=Blk.frozen a3.out 2
     have q3:(d6).frozen? ⟨w.heap.size+1,3,none⟩=false:=Blk.frozen a3.out 3
     have hsz_:=Blk.lt a3.out
     replace b0:=bH b0 c0
     have hbz_:=(b0.out).size
     go_wp2
     replace d2:=hid (LibOK.keep (d2.out) c0.out)
     go_roundw
     case rel=>exact ⟨.inr (.inr (.inl ⟨rfl,Blk.set_ a3.out 1 _⟩)),Blk.far b8.out (p:=⟨w.heap.size+1,1,none⟩) (by simp) _,Blk.far b9.out (p:=⟨w.heap.size+1,1,none⟩) (by simpa using HNE.out) _,LibOK.keep2 b0.out HLIB.out 1 _,Below.setCell b0.out (p:=⟨w.heap.size+1,1,none⟩) (by simp) _⟩
     case measure=>simp [intOf]
   · have a4:=hid (h0)
     clear h0
     have c1:=hid (h1)
     clear h1
     have c2:=hid (h2)
     clear h2
     have d3:=hid (h3)
     clear h3
     have b1:=hid (h4)
     clear h4
     obtain ⟨j8,j9,k0,k1⟩:=at4 c1
     obtain ⟨k2,k3,k4,k5⟩:=at4 a4
     obtain ⟨k6,k7,k8,k9⟩:=at4 c2
     have hc:=atoi_any c _ HS2.out d3.out
     have HC:=hid hc;clear hc
     go_wp2_with fail
     refine HC.out.mono ?_
     rintro e d7 ⟨er,rfl,hb⟩
     clear HC
     clear j8 j9 k0 k1 k2 k3 k4 k5 k6 k7 k8 k9
     have c3:=hid hb
     clear hb
     replace c1:=kH c1 c3
     obtain ⟨t8,t9,u0,u1⟩:=at4 c1
     replace a4:=kH a4 c3
     obtain ⟨u2,u3,u4,u5⟩:=at4 a4
     replace c2:=kH c2 c3
     obtain ⟨u6,u7,u8,u9⟩:=at4 c2
     have q4:(d7).frozen? ⟨w.heap.size+1,0,none⟩=false:=Blk.frozen a4.out 0
     have q5:(d7).frozen? ⟨w.heap.size+1,1,none⟩=false:=Blk.frozen a4.out 1
     have q6:(d7).frozen? ⟨w.heap.size+1,2,none⟩=false:=Blk.frozen a4.out 2
     have q7:(d7).frozen? ⟨w.heap.size+1,3,none⟩=false:=Blk.frozen a4.out 3
     have hsz_:=Blk.lt a4.out
     replace b1:=bH b1 c3
     have hbz_:=(b1.out).size
     go_wp2
     replace d3:=hid (LibOK.keep (d3.out) c3.out)
     go_roundw
     case rel=>exact ⟨.inr (.inr (.inr (.inl ⟨rfl,Blk.set_ a4.out 2 _⟩))),Blk.far c1.out (p:=⟨w.heap.size+1,2,none⟩) (by simp) _,Blk.far c2.out (p:=⟨w.heap.size+1,2,none⟩) (by simpa using HNE.out) _,LibOK.keep2 b1.out HLIB.out 2 _,Below.setCell b1.out (p:=⟨w.heap.size+1,2,none⟩) (by simp) _⟩
     case measure=>simp [intOf]
   · have a5:=hid (h0)
     clear h0
     have c4:=hid (h1)
     clear h1
     have c5:=hid (h2)
     clear h2
     have d4:=hid (h3)
     clear h3
     have b2:=hid (h4)
     clear h4
     obtain ⟨l0,l1,l2,l3⟩:=at4 c4
     obtain ⟨l4,l5,l6,l7⟩:=at4 a5
     obtain ⟨l8,l9,m0,m1⟩:=at4 c5
     have hc:=atoi_any d _ HS3.out d4.out
     have HC:=hid hc;clear hc
     go_wp2_with fail
     refine HC.out.mono ?_
     rintro e d8 ⟨er,rfl,hb⟩
     clear HC
     clear l0 l1 l2 l3 l4 l5 l6 l7 l8 l9 m0 m1
     have c6:=hid hb
     clear hb
     replace c4:=kH c4 c6
     obtain ⟨v0,v1,v2,v3⟩:=at4 c4
     replace a5:=kH a5 c6
     obtain ⟨v4,v5,v6,v7⟩:=at4 a5
     replace c5:=kH c5 c6
     obtain ⟨v8,v9,w0,w1⟩:=at4 c5
     have q8:(d8).frozen? ⟨w.heap.size+1,0,none⟩=false:=Blk.frozen a5.out 0
     have q9:(d8).frozen? ⟨w.heap.size+1,1,none⟩=false:=Blk.frozen a5.out 1
     have r0:(d8).frozen? ⟨w.heap.size+1,2,none⟩=false:=Blk.frozen a5.out 2
     have r1:(d8).frozen? ⟨w.heap.size+1,3,none⟩=false:=Blk.frozen a5.out 3
     have hsz_:=Blk.lt a5.out
     replace b2:=bH b2 c6
     have hbz_:=(b2.out).size
     go_wp2
     replace d4:=hid (LibOK.keep (d4.out) c6.out)
     go_roundw
     case rel=>exact ⟨.inr (.inr (.inr (.inr (⟨rfl,Blk.set_ a5.out 3 _⟩)))),Blk.far c4.out (p:=⟨w.heap.size+1,3,none⟩) (by simp) _,Blk.far c5.out (p:=⟨w.heap.size+1,3,none⟩) (by simpa using HNE.out) _,LibOK.keep2 b2.out HLIB.out 3 _,Below.setCell b2.out (p:=⟨w.heap.size+1,3,none⟩) (by simp) _⟩
     case measure=>simp [intOf]
   · have a7:=hid (h0)
     clear h0
     have a0:=hid (h1)
     clear h1
     have c8:=hid (h3)
     clear h3
     have a6:=hid (h4)
     clear h4
     clear h2
     obtain ⟨n0,hn0⟩:∃ n,atoV a.data.toList=n:=⟨_,rfl⟩
     obtain ⟨n1,hn1⟩:∃ n,atoV b.data.toList=n:=⟨_,rfl⟩
     obtain ⟨n2,hn2⟩:∃ n,atoV c.data.toList=n:=⟨_,rfl⟩
     obtain ⟨n3,hn3⟩:∃ n,atoV d.data.toList=n:=⟨_,rfl⟩
     rw [hn0,hn1,hn2,hn3] at a7 HF
     clear hn0 hn1 hn2 hn3
     obtain ⟨m2,m3,m4,m5⟩:=at4 a0
     obtain ⟨m6,m7,m8,m9⟩:=at4 a7
     obtain ⟨o_,ho_⟩:∃ o,o=((.cells #[.int .i64 n0,.int .i64 n1,.int .i64 n2,.int .i64 n3] 25):Obj):=⟨_,rfl⟩
     replace a7:=kA a7 o_
     replace a0:=kA a0 o_
     replace c8:=hid (LibOK.alloc (c8.out) (o_))
     replace a6:=bA a6 o_
     subst ho_
     have c9:=hid (Blk.new wr 25 #[.int .i64 n0,.int .i64 n1,.int .i64 n2,.int .i64 n3])
     obtain ⟨n4,n5,n6,n7⟩:=at4 a0
     obtain ⟨n8,n9,o0,o1⟩:=at4 a7
     obtain ⟨o2,o3,o4,o5⟩:=at4 c9
     have hc:=Write_any n0 n1 n2 n3 ((wr.alloc (.cells #[.int .i64 n0,.int .i64 n1,.int .i64 n2,.int .i64 n3] 25)))
     have HC:=hid hc;clear hc
     go_wp2_with fail
     refine HC.out.mono ?_
     rintro e a1 ⟨rfl,hb⟩
     clear HC
     clear m2 m3 m4 m5 m6 m7 m8 m9 n4 n5 n6 n7 n8 n9 o0 o1 o2 o3 o4 o5
     have c7:=hid hb
     clear hb
     have HF2:=HF.out
     replace a7:=kH a7 c7
     replace a0:=kH a0 c7
     replace c8:=hid (LibOK.keep (c8.out) c7.out)
     replace a6:=bH a6 c7
     replace c9:=kH c9 c7
     cases hok:okW ⟨n0,n1,n2,n3⟩
     · rw [hok] at HF2
       simp only [Bool.false_eq_true,false_and,if_false] at HF2
       have hwe:wrE ⟨n0,n1,n2,n3⟩=4-3:=by unfold wrE;rw [hok];rfl
       simp only [Int.reduceSub] at hwe
       rw [hwe]
       clear hwe hok HF
       obtain ⟨g1,g2,g3,g4⟩:=at4 a0
       have e9:(a1).frozen? ⟨w.heap.size,0,none⟩=false:=Blk.frozen a0.out 0
       have f0:(a1).frozen? ⟨w.heap.size,1,none⟩=false:=Blk.frozen a0.out 1
       have f1:(a1).frozen? ⟨w.heap.size,2,none⟩=false:=Blk.frozen a0.out 2
       have f2:(a1).frozen? ⟨w.heap.size,3,none⟩=false:=Blk.frozen a0.out 3
       have e5:=a6.out
       go_wp2
       refine bodyPost_ret (v:=.tuple #[.agg #[.int .i64 0,.int .i64 0,.int .i64 0,.int .i64 0],.int .i64 4]) (by simp [results,Tryz.results7,go_sem,g1,g2,g3,g4,e9,f0,f1,f2]) rfl ⟨by rw [HF2.1,HF2.2],(by have hsz_:=Below.size e5;repeat' (first|with_reducible exact e5|with_reducible exact Below.refl _ _|with_reducible refine Below.alloc ?_ ?_ _|with_reducible refine Below.setCell ?_ ?_ _|with_reducible refine Below.drew ?_|with_reducible refine below_setRow ?_ ?_ _|omega | (simp;done) | (simp;omega)))⟩
     · rw [hok] at HF2
       simp only [true_and] at HF2
       have hwe:wrE ⟨n0,n1,n2,n3⟩=0:=by unfold wrE;rw [hok];rfl
       have hws:wrS ⟨n0,n1,n2,n3⟩=spB ⟨n0,n1,n2,n3⟩:=by unfold wrS;rw [hok];rfl
       rw [hwe,hws]
       clear hwe hws hok HF
       obtain ⟨t,ht⟩:∃ t,spB ⟨n0,n1,n2,n3⟩=t:=⟨_,rfl⟩
       rw [ht] at HF2 ⊢
       clear ht
       by_cases hts:t=s
       · subst hts
         rw [if_pos rfl,if_pos rfl] at HF2
         obtain ⟨d9,e0,e1,e2⟩:=at4 a0
         obtain ⟨g5,g6,g7,g8⟩:=at4 c9
         have f3:(a1).frozen? ⟨w.heap.size,0,none⟩=false:=Blk.frozen a0.out 0
         have f4:(a1).frozen? ⟨w.heap.size,1,none⟩=false:=Blk.frozen a0.out 1
         have f5:(a1).frozen? ⟨w.heap.size,2,none⟩=false:=Blk.frozen a0.out 2
         have f6:(a1).frozen? ⟨w.heap.size,3,none⟩=false:=Blk.frozen a0.out 3
         have e6:=a6.out
         go_wp2
         refine bodyPost_ret (v:=.tuple #[.agg #[.int .i64 n0,.int .i64 n1,.int .i64 n2,.int .i64 n3],.int .i64 0]) (by simp [results,Tryz.results7,go_sem,d9,e0,e1,e2,g5,g6,g7,g8,f3,f4,f5,f6]) rfl ⟨by rw [HF2.1,HF2.2],(by have hsz_:=Below.size e6;repeat' (first|with_reducible exact e6|with_reducible exact Below.refl _ _|with_reducible refine Below.alloc ?_ ?_ _|with_reducible refine Below.setCell ?_ ?_ _|with_reducible refine Below.drew ?_|with_reducible refine below_setRow ?_ ?_ _|omega | (simp;done) | (simp;omega)))⟩
       · rw [if_neg hts,if_neg hts] at HF2
         have hne:=bytes_bne hts
         obtain ⟨d9,e0,e1,e2⟩:=at4 a0
         have f7:(a1).frozen? ⟨w.heap.size,0,none⟩=false:=Blk.frozen a0.out 0
         have f8:(a1).frozen? ⟨w.heap.size,1,none⟩=false:=Blk.frozen a0.out 1
         have f9:(a1).frozen? ⟨w.heap.size,2,none⟩=false:=Blk.frozen a0.out 2
         have g0:(a1).frozen? ⟨w.heap.size,3,none⟩=false:=Blk.frozen a0.out 3
         have e7:=a6.out
         go_wp2
         refine bodyPost_ret (v:=.tuple #[.agg #[.int .i64 0,.int .i64 0,.int .i64 0,.int .i64 0],.int .i64 4]) (by simp [results,Tryz.results7,go_sem,d9,e0,e1,e2,f7,f8,f9,g0]) rfl ⟨by rw [HF2.1,HF2.2],(by have hsz_:=Below.size e7;repeat' (first|with_reducible exact e7|with_reducible exact Below.refl _ _|with_reducible refine Below.alloc ?_ ?_ _|with_reducible refine Below.setCell ?_ ?_ _|with_reducible refine Below.drew ?_|with_reducible refine below_setRow ?_ ?_ _|omega | (simp;done) | (simp;omega)))⟩
end Go.Proofs.YtebkniakflhhkaaGreatDoor
