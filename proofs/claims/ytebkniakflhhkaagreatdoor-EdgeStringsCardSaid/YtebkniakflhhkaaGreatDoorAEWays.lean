import Derived.Deep.DeepCutAuto
import Derived.Deep.OwnRows
import Derived.Great.BuildSlice
import Derived.Laws.AppendOwnNone
import Derived.Lib.SmallJoins
import Derived.Maps.OwnIn
import Derived.RangeFuncNested
import Derived.Shelf.SlIterI.Nil
import Derived.Shelf.Slices.Reverse
import Derived.Shelf.SortM.Plain
import Derived.Shelf.SortM.SortNone
import Derived.Sort.OwnSortedInts
import Derived.Test.YtebkniakflhhkaaGreatDoorAMem
import Derived.Test.YtebkniakflhhkaaGreatDoorAApp2
import Derived.Test.YtebkniakflhhkaaGreatDoorAEPair
import Derived.Test.YtebkniakflhhkaaGreatDoorAECopy
set_option maxHeartbeats 4000000
set_option linter.unusedSimpArgs false
set_option linter.unusedVariables false
namespace Go.Proofs.YtebkniakflhhkaaGreatDoor
open Go.Lib (hid)
open Go.RowKit
theorem cells_add {w:World} {g:Nat} {t:TypeId} {cs:List Value} (h:Blk w g t cs.toArray):∀ j u,cs[j]?=some u→w.cell? ((⟨g,0,none⟩:Addr).add j)=some u:=fun j u hu=>by
 rw [Addr.add_lit,Nat.zero_add,h.cell]
 simpa using hu
set_option maxRecDepth 100000 in
theorem corner_any (c:Int) (A B:Option Addr) (n k m j:Nat) (d:Int) (C D:Option Addr) (n2 k2 m2 j2:Nat) (p1 p2 p3 p4:Int) (w:World) (g0:3≤c∧c≤16) :
 Calls Tryz.prog 60 #[.agg #[.int .i64 c,.slice A n k,.slice B m j,.int .i64 d,.slice C n2 k2,.slice D m2 j2,.int .i64 p1,.int .i64 p2,.int .i64 p3,.int .i64 p4]] w fun e w'=>∃ g,e=.returned (fnV g)∧Cl w' g (c+1) p1 p3 p4∧w.heap.size≤g∧Below w.heap.size w w':=by
 obtain ⟨b3,b4⟩:=g0
 go_enter Tryz.func60,Tryz.ntmps60
 obtain ⟨a2,a0⟩:=ent1 w #[.int .i64 c,.slice A n k,.slice B m j,.int .i64 d,.slice C n2 k2,.slice D m2 j2,.int .i64 p1,.int .i64 p2,.int .i64 p3,.int .i64 p4] 78
 obtain ⟨a6,a7,a8,a9,b0,b1,b2,a3,a4,a5⟩:=at10 a2
 have hc:=renumbered_any (c+1) p1 p3 (p4) ((w.alloc (.cells #[.int .i64 c,.slice A n k,.slice B m j,.int .i64 d,.slice C n2 k2,.slice D m2 j2,.int .i64 p1,.int .i64 p2,.int .i64 p3,.int .i64 p4] 78)))
 have HC:=hid hc;clear hc
 go_wp2_with fail
 refine HC.out.mono ?_
 rintro e w9 ⟨rfl,hcl,hb⟩
 clear HC
 clear a6 a7 a8 a9 b0 b1 b2 a3 a4 a5
 have a1:=hid hb
 simp only [World.size_alloc] at hcl
 go_wp2
 go_ret
 replace a0:=bH a0 a1
 exact ⟨_,rfl,(by simpa using hcl),by simp,a0.out⟩
set_option maxRecDepth 100000 in
theorem side_any (c:Int) (A B:Option Addr) (n k m j:Nat) (d:Int) (C D:Option Addr) (n2 k2 m2 j2:Nat) (p1 p2 p3 p4:Int) (w:World) (g3:0≤p4∧p4≤16) :
 Calls Tryz.prog 71 #[.agg #[.int .i64 c,.slice A n k,.slice B m j,.int .i64 d,.slice C n2 k2,.slice D m2 j2,.int .i64 p1,.int .i64 p2,.int .i64 p3,.int .i64 p4]] w fun e w'=>∃ g,e=.returned (fnV g)∧Cl w' g c p1 p3 (p4-1)∧w.heap.size≤g∧Below w.heap.size w w':=by
 obtain ⟨b3,b4⟩:=g3
 go_enter Tryz.func71,Tryz.ntmps71
 obtain ⟨a2,a0⟩:=ent1 w #[.int .i64 c,.slice A n k,.slice B m j,.int .i64 d,.slice C n2 k2,.slice D m2 j2,.int .i64 p1,.int .i64 p2,.int .i64 p3,.int .i64 p4] 78
 obtain ⟨a6,a7,a8,a9,b0,b1,b2,a3,a4,a5⟩:=at10 a2
 have hc:=renumbered_any (c) p1 p3 (p4-1) ((w.alloc (.cells #[.int .i64 c,.slice A n k,.slice B m j,.int .i64 d,.slice C n2 k2,.slice D m2 j2,.int .i64 p1,.int .i64 p2,.int .i64 p3,.int .i64 p4] 78)))
 have HC:=hid hc;clear hc
 go_wp2_with fail
 refine HC.out.mono ?_
 rintro e w9 ⟨rfl,hcl,hb⟩
 clear HC
 clear a6 a7 a8 a9 b0 b1 b2 a3 a4 a5
 have a1:=hid hb
 simp only [World.size_alloc] at hcl
 go_wp2
 go_ret
 replace a0:=bH a0 a1
 exact ⟨_,rfl,(by simpa using hcl),by simp,a0.out⟩
theorem OwnsX.of {w:World} {base:Nat} {e:TypeId} {size:Nat} {v:Value} {n:Nat} {xs:List Value} (h:w.ownsRow base e size v n xs):OwnsX w base e size v n xs:=.inl h
theorem Cl.belowB {w w':World} {g B:Nat} {n x lo hi:Int} (h:Cl w g n x lo hi) (hb:Below B w w') (hg:g+4≤B):Cl w' g n x lo hi:=⟨h.n0.below hb (by omega),h.x0.below hb (by omega),h.l0.below hb (by omega),h.h0.below hb (by omega)⟩
theorem rdB_of {w:World} {base:Nat} {A:Option Addr} {n c:Nat} {l:List Bnd} (h:OwnsX w base 50 4 (.slice A n c) n (bcells l)):RdB w A n c l:=by
 rcases h with h|⟨A',h1,h2,h3⟩
 · exact (OwnB.rd h).1
 · injection h1 with h4 h5 h6
   subst h4 h5 h6
   have hl:l=[]:=by
    have:=congrArg List.length h3
    rw [bcells_length] at this
    exact List.length_eq_zero_iff.1 (by simp at this;omega)
   subst hl
   exact ⟨rfl,Nat.le_refl _,fun _=>⟨rfl,rfl⟩,.inl rfl⟩
theorem OwnsX.setCell {w:World} {base:Nat} {e:TypeId} {size:Nat} {v:Value} {n:Nat} {xs:List Value} (h:OwnsX w base e size v n xs) {a:Addr} (ha:a.block<base) (u:Value):OwnsX (w.setCell a u) base e size v n xs :=
 h.imp (fun h=>ownsRow_setCell_below h ha u) id
set_option maxRecDepth 100000 in
theorem ways_any (c:Int) (A B:Option Addr) (n k m j:Nat) (ws ts:List Bnd) (d:Int) (C D:Option Addr) (n2 k2 m2 j2:Nat) (ws2 ts2:List Bnd) (p1 p2 p3 p4:Int) (w:World) (h1:RdB w A n k ws) (h2:RdB w B m j ts) (hn:n≤maxLen) (hm:m≤maxLen) (h3:RdB w C n2 k2 ws2) (h4:RdB w D m2 j2 ts2) (hn2:n2≤maxLen) (hm2:m2≤maxLen) (g0:3≤c∧c≤16) (g1:3≤d∧d≤16) (g2:0≤p1∧p1<p2∧p2≤c) (g3:0≤p3∧p3<p4∧p4≤d) (hl1:n≤400) (hl2:n2≤400) (hok:∀ x∈ws2,0≤x.f∧x.f≤16∧0≤x.t∧x.t≤16) :
 Calls Tryz.prog 33 #[.agg #[.int .i64 c,.slice A n k,.slice B m j,.int .i64 d,.slice C n2 k2,.slice D m2 j2,.int .i64 p1,.int .i64 p2,.int .i64 p3,.int .i64 p4]] w fun e w'=>∃ Ar nr kr,e=.returned (.agg #[.int .i64 (wayP ⟨c,ws,ts⟩ ⟨d,ws2,ts2⟩ ⟨p1,p2,p3,p4⟩),.slice Ar nr kr])∧RdB w' Ar nr kr (wayL ⟨c,ws,ts⟩ ⟨d,ws2,ts2⟩ ⟨p1,p2,p3,p4⟩)∧Below w.heap.size w w':=by
 obtain ⟨i0,hi0,hz0,hz1,hz2⟩:=info_parts infoB
 have HI:=hid hi0;have HZ0:=hid hz0;have HZ1:=hid hz1;have HZ2:=hid hz2;clear hi0 hz0 hz1 hz2
 have RB0:=hid h3
 go_enter Tryz.func33,Tryz.ntmps33
 obtain ⟨a6,a7,a9⟩:=ent2 w #[.int .i64 c,.slice A n k,.slice B m j,.int .i64 d,.slice C n2 k2,.slice D m2 j2,.int .i64 p1,.int .i64 p2,.int .i64 p3,.int .i64 p4] 78 #[.int .i64 0,.slice none 0 0] 84
 have b8:=rI h1 a9
 clear h1
 clear h2 h3 h4
 obtain ⟨j0,j1,j3,j4,j5,d4,d5,d6,d7,d8⟩:=at10 a6
 obtain ⟨d9,e4⟩:=at2 a7
 have hc:=corner_any c A B n k m j d C D n2 k2 m2 j2 p1 p2 p3 p4 (((w.alloc (.cells #[.int .i64 c,.slice A n k,.slice B m j,.int .i64 d,.slice C n2 k2,.slice D m2 j2,.int .i64 p1,.int .i64 p2,.int .i64 p3,.int .i64 p4] 78)).alloc (.cells #[.int .i64 0,.slice none 0 0] 84))) g0
 have HC:=hid hc;clear hc
 go_wp2_with fail
 refine HC.out.mono ?_
 rintro e w9 ⟨g,rfl,hcl,hge,hb⟩
 clear HC
 clear j0 j1 j3 j4 j5 d4 d5 d6 d7 d8 d9 e4
 simp only [World.size_alloc] at hge
 have b1:=hid hb
 clear hb
 have b0:=hid (hcl)
 clear hcl
 unfold fnV
 replace a6:=kH a6 b1
 obtain ⟨e5,e6,e7,e8,e9,f0,f1,f2,f3,f4⟩:=at10 a6
 replace a7:=kH a7 b1
 obtain ⟨f5,f6⟩:=at2 a7
 replace b8:=rH b8 b1
 have hc:=ecopied_any A n k ws _ b8.out hl1
 have HC:=hid hc;clear hc
 go_wp2_with fail
 refine HC.out.mono ?_
 rintro e k3 ⟨Ac,cc,rfl,hox,hb⟩
 clear HC
 clear e5 e6 e7 e8 e9 f0 f1 f2 f3 f4 f5 f6
 have hsz:=Cl.lt b0.out
 have hox:=OwnsX.base hox (show g+4≤w9.heap.size by omega)
 have b2:=hid hb
 clear hb
 have c0:=hid (hox)
 clear hox hsz
 replace a6:=kH a6 b2
 obtain ⟨f7,f8,f9,g4,g6,g7,g8,g9,h0,h5⟩:=at10 a6
 replace a7:=kH a7 b2
 obtain ⟨h6,h7⟩:=at2 a7
 go_wp2
 clear f7 f8 f9 g4 g6 g7 g8 g9 h0 h5 h6 h7
 replace a9:=bH (bH a9 b1) b2
 replace b0:=hid (Cl.keep (b0.out) b2.out)
 go_loopw [4,19] (fun s i wr=>∃ (q:Nat) (Ai:Option Addr) (ci:Nat),q≤n2∧i=.int .i64 q∧s=.slice Ai (n+q) ci∧OwnsX wr (g+4) 50 4 (.slice Ai (n+q) ci) (n+q) (bcells (ws++(ws2.take q).map (wayB ⟨c,ws,ts⟩ ⟨p1,p2,p3,p4⟩)))∧Cl wr g (c+1) p1 p3 p4∧Blk wr (w.heap.size) 78 #[.int .i64 c,.slice A n k,.slice B m j,.int .i64 d,.slice C n2 k2,.slice D m2 j2,.int .i64 p1,.int .i64 p2,.int .i64 p3,.int .i64 p4]∧Blk wr (w.heap.size+1) 84 #[.int .i64 0,.slice none 0 0]∧Below w.heap.size w wr) (fun s i _=>n2-(intOf i).toNat)
 case atStart=>exact ⟨0,Ac,cc,Nat.zero_le _,rfl,rfl,by simpa using c0.out,b0.out,a6.out,a7.out,a9.out⟩
 case round =>
  clear a9 a6 a7 b0 c0
  obtain ⟨q,Ai,ci,hq,rfl,rfl,i1,i2,i3,i4,i5⟩:=hrel
  have a5:=hid (i1)
  have a3:=hid (i2)
  have a0:=hid (i3)
  have a4:=hid (i4)
  have a2:=hid (i5)
  clear i1 i2 i3 i4 i5
  have hgs:=Cl.lt a3.out
  by_cases hlt:q<n2
  · have hlt':(q:Int)<n2:=by omega
    have hlen:=RB0.out.len
    obtain ⟨⟨f,t,mm,ib⟩,hx⟩:∃ b,ws2[q]?=some b:=⟨ws2[q]'(by omega),List.getElem?_eq_getElem _⟩
    obtain ⟨o1,o2,o3,o4⟩:=hok _ (List.mem_of_getElem? hx)
    dsimp only at o1 o2 o3 o4
    obtain ⟨bb,ob,hBB⟩:=rdB_some RB0.out hx
    subst hBB
    obtain ⟨e0,e1,e2,e3,el⟩:=rdB_at (RdB.below RB0.out a2.out) hx
    obtain ⟨v1,hv1⟩:∃ v,ren (c+1) p1 p3 p4 t=v:=⟨_,rfl⟩
    obtain ⟨v2,hv2⟩:∃ v,ren (c+1) p1 p3 p4 f=v:=⟨_,rfl⟩
    have htk:(ws2.take (q+1)).map (wayB ⟨c,ws,ts⟩ ⟨p1,p2,p3,p4⟩)=(ws2.take q).map (wayB ⟨c,ws,ts⟩ ⟨p1,p2,p3,p4⟩)++[⟨v1,v2,mm,ib⟩]:=by rw [List.take_add_one,hx,List.map_append,← hv1,← hv2];rfl
    have HTK:=hid htk;clear htk hx hlen
    have HV1:=hid (fun w h=>Calls.mono (renum_any (c+1) p1 p3 p4 t g w h (by omega) (by omega) (by omega) (by omega) (by omega)) (fun e w' h=>(show e=.returned (.int .i64 v1)∧w=w' from ⟨by rw [h.1,hv1],h.2⟩)))
    have HV2:=hid (fun w h=>Calls.mono (renum_any (c+1) p1 p3 p4 f g w h (by omega) (by omega) (by omega) (by omega) (by omega)) (fun e w' h=>(show e=.returned (.int .i64 v2)∧w=w' from ⟨by rw [h.1,hv2],h.2⟩)))
    clear hv1 hv2 o1 o2 o3 o4
    go_wp2
    clear e0 e1 e2 e3
    have NE:=hid (OwnsX.ne (a5.out) (Nat.le_refl _))
    obtain ⟨o_,ho_⟩:∃ o,o=((.cells #[.int .i64 f,.int .i64 t,.int .i64 mm,.int .i64 ib] 50):Obj):=⟨_,rfl⟩
    replace a5:=hid (OwnsX.alloc (a5.out) (o_))
    replace a3:=hid (Cl.alloc (a3.out) (o_))
    replace a0:=kA a0 o_
    replace a4:=kA a4 o_
    replace a2:=bA a2 o_
    subst ho_
    have a1:=hid (Blk.new wr 50 #[.int .i64 f,.int .i64 t,.int .i64 mm,.int .i64 ib])
    replace a5:=hid (OwnsX.drew (a5.out))
    replace a3:=hid (Cl.drew (a3.out))
    replace a0:=kD a0
    replace a4:=kD a4
    replace a2:=bD a2
    replace a1:=kD a1
    refine wp_region_held_drew (S:=(fun W'=>Blk W' (wr.heap.size) 50 #[.int .i64 f,.int .i64 t,.int .i64 mm,.int .i64 ib])) (by kernel_rfl) a1.out (fun _=>?_)
    obtain ⟨b9,b4⟩:∃ w',w'=((wr.alloc (.cells #[.int .i64 f,.int .i64 t,.int .i64 mm,.int .i64 ib] 50)).drew):=⟨_,rfl⟩
    rw [← b4] at a5 a3 a0 a4 a2 a1
    rw [← b4]
    clear b4
    refine' twH 0 a1.out ?_
    refine' twH 1 a1.out ?_
    refine' twH 2 a1.out ?_
    refine' tkH 3 a1.out ?c1 ?_
    case c1=>(rintro W' hS0;have hc0:=Blk.nth hS0 1;clear hS0;go_simp;try with_reducible rfl)
    try simp only [pq]
    refine' twH 5 a1.out ?_
    refine' twH 6 a1.out ?_
    refine' tkH 7 a1.out ?c2 ?_
    case c2=>(rintro W' hS0;have hc0:=Blk.nth hS0 0;clear hS0;go_simp;try with_reducible rfl)
    refine' twH 9 a1.out ?_
    try simp only [pq]
    refine' tkH 10 a1.out ?c3 ?_
    case c3=>(rintro W' hS0;have hc0:=Blk.nth hS0 2;clear hS0;go_simp;try with_reducible rfl)
    refine' twH 11 a1.out ?_
    refine' tkH 12 a1.out ?c4 ?_
    case c4=>(rintro W' hS0;have hc0:=Blk.nth hS0 3;clear hS0;go_simp;try with_reducible rfl)
    try simp only [pq]
    refine oneH 4 rfl fun K hK=>?_
    go_simp
    go_at_call 130
    refine (HV1.out _ (a3.out)).mono ?_
    rintro e j6 ⟨rfl,rfl⟩
    dsimp only
    refine hK.out _ _ a1.out (fun _=>?_);clear hK K
    try simp only [pq]
    refine oneH 8 rfl fun K hK=>?_
    go_simp
    go_at_call 130
    refine (HV2.out _ (a3.out)).mono ?_
    rintro e j7 ⟨rfl,rfl⟩
    dsimp only
    refine hK.out _ _ a1.out (fun _=>?_);clear hK K
    try simp only [pq]
    refine' twH 13 a1.out ?_
    try simp only [pq]
    refine oneH 14 rfl fun K hK=>?_
    go_simp
    have d0:=hid (Nat.ne_of_lt (Blk.lt a0.out))
    have d1:=hid (Nat.ne_of_lt (Blk.lt a4.out))
    have d2:=hid (a2.out.size)
    have d3:=hid (Nat.ne_of_lt (Blk.lt a1.out))
    obtain ⟨o_,ho_⟩:∃ o,o=(.cells #[.int .i64 v1,.int .i64 v2,.int .i64 mm,.int .i64 ib] 50:Obj):=⟨_,rfl⟩
    replace a5:=hid (OwnsX.alloc (a5.out) (o_))
    replace a3:=hid (Cl.alloc (a3.out) (o_))
    replace a0:=kA a0 o_
    replace a4:=kA a4 o_
    replace a2:=bA a2 o_
    replace a1:=kA a1 o_
    subst ho_
    have b3:=hid (Blk.new (b9) 50 #[.int .i64 v1,.int .i64 v2,.int .i64 mm,.int .i64 ib])
    obtain ⟨h8,b5⟩:∃ g,g=(b9).heap.size:=⟨_,rfl⟩
    obtain ⟨j8,b6⟩:∃ w',w'=(b9).alloc (.cells #[.int .i64 v1,.int .i64 v2,.int .i64 mm,.int .i64 ib] 50):=⟨_,rfl⟩
    rw [← b6] at a5 a3 a0 a4 a2 a1 b3
    rw [← b5] at d0 d1 d2 d3 b3
    rw [← b5,← b6]
    clear b5 b6
    refine hK.out _ _ a1.out (fun _=>?_);clear hK K
    try simp only [pq]
    refine oneH 15 rfl fun K hK=>?_
    have hcell:=cells_add (cs:=bcells [⟨v1,v2,mm,ib⟩]) (show Blk _ _ _ (bcells [⟨v1,v2,mm,ib⟩]).toArray from b3.out)
    have hsz:=Cl.lt (a3.out)
    refine wp_append_X _ (.tmp 23) (.tmp 37) 33 rfl (g+4) 50 i0 _ 4 32 Tryz.underlying33 HI.out HZ0.out HZ1.out HZ2.out rfl (by omega) Ai (n+q) ci _ rfl (a5.out) ⟨h8,0,none⟩ 1 1 (bcells [⟨v1,v2,mm,ib⟩]) rfl rfl hcell (bcells_one _) (by omega) (by unfold maxLen;omega) (by omega) (by omega) ?_
    intro g5 c5 j9 hown5 hb5 hg5 hkp5
    have h9:=hid (OwnsX.of (hown5))
    have i6:=hid (Cl.belowB (a3.out) hb5 (Nat.le_refl _))
    have i7:=hid (Blk.below (a0.out) hb5 (by omega))
    have i8:=hid (Blk.below (a4.out) hb5 (by omega))
    have i9:=hid (Below.trans (a2.out) (Below.mono hb5 (by omega)))
    have c6:=hid ((hkp5 _ (Blk.lt (a1.out)) NE.out).trans (a1.out))
    clear hown5 hb5 hcell hsz hkp5
    refine hK.out _ _ c6.out (fun _=>?_);clear hK K
    try simp only [pq]
    refine' twH 16 c6.out ?_
    try simp only [pq]
    refine wpAnyH_done (by kernel_rfl) ?_ _
    go_wp2
    go_roundw
    case rel=>exact ⟨q+1,some ⟨g5,0,none⟩,c5,by omega,by go_num,rfl,by rw [HTK.out,← List.append_assoc,bcells_append];exact h9.out,i6.out,i7.out,i8.out,i9.out⟩
    case measure=>simp [intOf];omega
  · obtain rfl:n2=q:=by omega
    have hlen:=RB0.out.len
    have hox2:=a5.out
    rw [List.take_of_length_le (by omega)] at hox2
    have OXF:=hid hox2;clear hox2 hlen
    clear a5
    go_wp2
    have hw1:IntKind.i64.wrap (c+d)=c+d:=IntWalk.i64_in _ (by omega)
    have hw2:IntKind.i64.wrap (c+d+1)=c+d+1:=IntWalk.i64_in _ (by omega)
    have hw3:IntKind.i64.wrap (c+d+1-(p2-p1))=c+d+1-(p2-p1):=IntWalk.i64_in _ (by omega)
    have HWS:=hid (And.intro hw1 (And.intro hw2 hw3));clear hw1 hw2 hw3
    replace OXF:=hid (OwnsX.drew (OXF.out))
    replace a3:=hid (Cl.drew (a3.out))
    replace a0:=kD a0
    replace a4:=kD a4
    replace a2:=bD a2
    refine wp_region_held_drew (S:=(fun W'=>Blk W' (w.heap.size) 78 #[.int .i64 c,.slice A n k,.slice B m j,.int .i64 d,.slice C n2 k2,.slice D m2 j2,.int .i64 p1,.int .i64 p2,.int .i64 p3,.int .i64 p4])) (by kernel_rfl) a0.out (fun _=>?_)
    obtain ⟨k0,b7⟩:∃ w',w'=(wr.drew):=⟨_,rfl⟩
    rw [← b7] at OXF a3 a0 a4 a2
    rw [← b7]
    clear b7
    refine' twH 0 a0.out ?_
    refine' twH 1 a0.out ?_
    refine' twH 2 a0.out ?_
    refine' tkH 3 a0.out ?c7 ?_
    case c7=>(rintro W' hS0;have hc0:=Blk.nth hS0 0;clear hS0;go_simp;try with_reducible rfl)
    try simp only [pq]
    refine' twH 4 a0.out ?_
    refine' twH 5 a0.out ?_
    refine' twH 6 a0.out ?_
    refine' tkH 7 a0.out ?c8 ?_
    case c8=>(rintro W' hS0;have hc0:=Blk.nth hS0 3;clear hS0;go_simp;try with_reducible rfl)
    try simp only [pq]
    refine' twH 8 a0.out ?_
    refine' twH 9 a0.out ?_
    refine' twH 10 a0.out ?_
    refine' twH 11 a0.out ?_
    try simp only [pq]
    refine' tkH 12 a0.out ?c9 ?_
    case c9=>(rintro W' hS0;have hc0:=Blk.nth hS0 6;have hc1:=Blk.nth hS0 7;clear hS0;go_simp;try with_reducible rfl)
    refine' twH 15 a0.out ?_
    try simp only [pq]
    refine oneH 13 rfl fun K hK=>?_
    go_simp
    go_at_call 23
    refine (sides_any p1 p2 _ (by omega) (by omega) (by omega) (by omega)).mono ?_
    rintro e k1 ⟨rfl,a8⟩
    dsimp only
    replace a8:=hid a8
    replace a0:=kH a0 a8
    refine hK.out _ _ a0.out (fun _=>?_);clear hK K
    try simp only [pq]
    refine' twH 14 a0.out ?_
    refine' twH 16 a0.out ?_
    try simp only [pq]
    refine oneH 17 rfl fun K hK=>?_
    replace a2:=bH a2 a8
    replace OXF:=hid (OwnsX.below (OXF.out) a8.out)
    replace a4:=kH a4 a8
    have bl_:=a2.out
    have ox_:=OXF.out
    have bz_:=a4.out
    have c0_:=Blk.cell bz_ 0;have c1_:=Blk.cell bz_ 1;have f0_:=Blk.frozen bz_ 0;have f1_:=Blk.frozen bz_ 1;have hlt_:=Blk.lt bz_
    simp only [List.getElem?_toArray,List.getElem?_cons_zero,List.getElem?_cons_succ] at c0_ c1_
    go_simp
    obtain ⟨hw1,hw2,hw3⟩:=HWS.out
    simp only [hw1,hw2,hw3]
    clear hw1 hw2 hw3
    have bx2_:=hid (Blk.far (Blk.far (a0.out) (p:=⟨w.heap.size+1,0,none⟩) (by simp) (.int .i64 (c+d+1-(p2-p1)))) (p:=⟨w.heap.size+1,1,none⟩) (by simp) (.slice Ai (n+n2) ci))
    have bel2_:=hid (Below.setCell (Below.setCell (bl_) (p:=⟨w.heap.size+1,0,none⟩) (by simp) (.int .i64 (c+d+1-(p2-p1)))) (p:=⟨w.heap.size+1,1,none⟩) (by simp) (.slice Ai (n+n2) ci))
    have ox2_:=hid (OwnsX.setCell (OwnsX.setCell (ox_) (a:=⟨w.heap.size+1,0,none⟩) (by simp;omega) (.int .i64 (c+d+1-(p2-p1)))) (a:=⟨w.heap.size+1,1,none⟩) (by simp;omega) (.slice Ai (n+n2) ci))
    have bz2_:=hid (Blk.set_ (Blk.set_ bz_ 0 (.int .i64 (c+d+1-(p2-p1)))) 1 (.slice Ai (n+n2) ci))
    clear c0_ c1_ f0_ f1_ bl_ ox_ bz_ hlt_
    refine hK.out _ _ bx2_.out (fun _=>?_);clear hK K
    try simp only [pq]
    refine wpAnyH_done (by kernel_rfl) ?_ _
    have c0_:=Blk.cell bz2_.out 0;have c1_:=Blk.cell bz2_.out 1
    have rd_:=rdB_of ox2_.out;have bl_:=bel2_.out
    simp only [List.setIfInBounds_toArray,List.set_cons_zero,List.set_cons_succ,List.getElem?_toArray,List.getElem?_cons_zero,List.getElem?_cons_succ] at c0_ c1_
    generalize World.setCell (World.setCell _ _ _) _ _=wF at *
    go_wp2
    refine bodyPost_ret (v:=.agg #[.int .i64 (c+d+1-(p2-p1)),.slice Ai (n+n2) ci]) (by simp [results,Tryz.results33,go_sem,c0_,c1_]) rfl ?_
    exact ⟨Ai,n+n2,ci,rfl,rd_,bl_⟩
set_option maxRecDepth 100000 in
theorem turns_any (c:Int) (A B:Option Addr) (n k m j:Nat) (ws ts:List Bnd) (d:Int) (C D:Option Addr) (n2 k2 m2 j2:Nat) (ws2 ts2:List Bnd) (p1 p2 p3 p4:Int) (w:World) (h1:RdB w A n k ws) (h2:RdB w B m j ts) (hn:n≤maxLen) (hm:m≤maxLen) (h3:RdB w C n2 k2 ws2) (h4:RdB w D m2 j2 ts2) (hn2:n2≤maxLen) (hm2:m2≤maxLen) (g0:3≤c∧c≤16) (g1:3≤d∧d≤16) (g2:0≤p1∧p1<p2∧p2≤c) (g3:0≤p3∧p3<p4∧p4≤d) (hl1:m≤400) (hl2:m2≤400) (hok:∀ x∈ts2,0≤x.f∧x.f≤16∧0≤x.t∧x.t≤16) :
 Calls Tryz.prog 44 #[.agg #[.int .i64 c,.slice A n k,.slice B m j,.int .i64 d,.slice C n2 k2,.slice D m2 j2,.int .i64 p1,.int .i64 p2,.int .i64 p3,.int .i64 p4]] w fun e w'=>∃ Ar nr kr,e=.returned (.agg #[.int .i64 (turnP ⟨c,ws,ts⟩ ⟨d,ws2,ts2⟩ ⟨p1,p2,p3,p4⟩),.slice Ar nr kr])∧RdB w' Ar nr kr (turnL ⟨c,ws,ts⟩ ⟨d,ws2,ts2⟩ ⟨p1,p2,p3,p4⟩)∧Below w.heap.size w w':=by
 obtain ⟨i0,hi0,hz0,hz1,hz2⟩:=info_parts infoB
 have HI:=hid hi0;have HZ0:=hid hz0;have HZ1:=hid hz1;have HZ2:=hid hz2;clear hi0 hz0 hz1 hz2
 have RB0:=hid h4
 go_enter Tryz.func44,Tryz.ntmps44
 obtain ⟨a6,a7,a9⟩:=ent2 w #[.int .i64 c,.slice A n k,.slice B m j,.int .i64 d,.slice C n2 k2,.slice D m2 j2,.int .i64 p1,.int .i64 p2,.int .i64 p3,.int .i64 p4] 78 #[.int .i64 0,.slice none 0 0] 84
 have b8:=rI h2 a9
 clear h2
 clear h1 h3 h4
 obtain ⟨j0,j1,j3,j4,j5,d4,d5,d6,d7,d8⟩:=at10 a6
 obtain ⟨d9,e4⟩:=at2 a7
 have hc:=side_any c A B n k m j d C D n2 k2 m2 j2 p1 p2 p3 p4 (((w.alloc (.cells #[.int .i64 c,.slice A n k,.slice B m j,.int .i64 d,.slice C n2 k2,.slice D m2 j2,.int .i64 p1,.int .i64 p2,.int .i64 p3,.int .i64 p4] 78)).alloc (.cells #[.int .i64 0,.slice none 0 0] 84))) ⟨by omega,by omega⟩
 have HC:=hid hc;clear hc
 go_wp2_with fail
 refine HC.out.mono ?_
 rintro e w9 ⟨g,rfl,hcl,hge,hb⟩
 clear HC
 clear j0 j1 j3 j4 j5 d4 d5 d6 d7 d8 d9 e4
 simp only [World.size_alloc] at hge
 have b1:=hid hb
 clear hb
 have b0:=hid (hcl)
 clear hcl
 unfold fnV
 replace a6:=kH a6 b1
 obtain ⟨e5,e6,e7,e8,e9,f0,f1,f2,f3,f4⟩:=at10 a6
 replace a7:=kH a7 b1
 obtain ⟨f5,f6⟩:=at2 a7
 replace b8:=rH b8 b1
 have hc:=ecopied_any B m j ts _ b8.out hl1
 have HC:=hid hc;clear hc
 go_wp2_with fail
 refine HC.out.mono ?_
 rintro e k3 ⟨Ac,cc,rfl,hox,hb⟩
 clear HC
 clear e5 e6 e7 e8 e9 f0 f1 f2 f3 f4 f5 f6
 have hsz:=Cl.lt b0.out
 have hox:=OwnsX.base hox (show g+4≤w9.heap.size by omega)
 have b2:=hid hb
 clear hb
 have c0:=hid (hox)
 clear hox hsz
 replace a6:=kH a6 b2
 obtain ⟨f7,f8,f9,g4,g6,g7,g8,g9,h0,h5⟩:=at10 a6
 replace a7:=kH a7 b2
 obtain ⟨h6,h7⟩:=at2 a7
 go_wp2
 clear f7 f8 f9 g4 g6 g7 g8 g9 h0 h5 h6 h7
 replace a9:=bH (bH a9 b1) b2
 replace b0:=hid (Cl.keep (b0.out) b2.out)
 go_loopw [4,19] (fun s i wr=>∃ (q:Nat) (Ai:Option Addr) (ci:Nat),q≤m2∧i=.int .i64 q∧s=.slice Ai (m+q) ci∧OwnsX wr (g+4) 50 4 (.slice Ai (m+q) ci) (m+q) (bcells (ts++(ts2.take q).map (turnB ⟨c,ws,ts⟩ ⟨p1,p2,p3,p4⟩)))∧Cl wr g c p1 p3 (p4-1)∧Blk wr (w.heap.size) 78 #[.int .i64 c,.slice A n k,.slice B m j,.int .i64 d,.slice C n2 k2,.slice D m2 j2,.int .i64 p1,.int .i64 p2,.int .i64 p3,.int .i64 p4]∧Blk wr (w.heap.size+1) 84 #[.int .i64 0,.slice none 0 0]∧Below w.heap.size w wr) (fun s i _=>m2-(intOf i).toNat)
 case atStart=>exact ⟨0,Ac,cc,Nat.zero_le _,rfl,rfl,by simpa using c0.out,b0.out,a6.out,a7.out,a9.out⟩
 case round =>
  clear a9 a6 a7 b0 c0
  obtain ⟨q,Ai,ci,hq,rfl,rfl,i1,i2,i3,i4,i5⟩:=hrel
  have a5:=hid (i1)
  have a3:=hid (i2)
  have a0:=hid (i3)
  have a4:=hid (i4)
  have a2:=hid (i5)
  clear i1 i2 i3 i4 i5
  have hgs:=Cl.lt a3.out
  by_cases hlt:q<m2
  · have hlt':(q:Int)<m2:=by omega
    have hlen:=RB0.out.len
    obtain ⟨⟨f,t,mm,ib⟩,hx⟩:∃ b,ts2[q]?=some b:=⟨ts2[q]'(by omega),List.getElem?_eq_getElem _⟩
    obtain ⟨o1,o2,o3,o4⟩:=hok _ (List.mem_of_getElem? hx)
    dsimp only at o1 o2 o3 o4
    obtain ⟨bb,ob,hBB⟩:=rdB_some RB0.out hx
    subst hBB
    obtain ⟨e0,e1,e2,e3,el⟩:=rdB_at (RdB.below RB0.out a2.out) hx
    obtain ⟨v1,hv1⟩:∃ v,ren c p1 p3 (p4-1) f=v:=⟨_,rfl⟩
    obtain ⟨v2,hv2⟩:∃ v,ren c p1 p3 (p4-1) t=v:=⟨_,rfl⟩
    have htk:(ts2.take (q+1)).map (turnB ⟨c,ws,ts⟩ ⟨p1,p2,p3,p4⟩)=(ts2.take q).map (turnB ⟨c,ws,ts⟩ ⟨p1,p2,p3,p4⟩)++[⟨v1,v2,mm,ib⟩]:=by rw [List.take_add_one,hx,List.map_append,← hv1,← hv2];rfl
    have HTK:=hid htk;clear htk hx hlen
    have HV1:=hid (fun w h=>Calls.mono (renum_any c p1 p3 (p4-1) f g w h (by omega) (by omega) (by omega) (by omega) (by omega)) (fun e w' h=>(show e=.returned (.int .i64 v1)∧w=w' from ⟨by rw [h.1,hv1],h.2⟩)))
    have HV2:=hid (fun w h=>Calls.mono (renum_any c p1 p3 (p4-1) t g w h (by omega) (by omega) (by omega) (by omega) (by omega)) (fun e w' h=>(show e=.returned (.int .i64 v2)∧w=w' from ⟨by rw [h.1,hv2],h.2⟩)))
    clear hv1 hv2 o1 o2 o3 o4
    go_wp2
    clear e0 e1 e2 e3
    have NE:=hid (OwnsX.ne (a5.out) (Nat.le_refl _))
    obtain ⟨o_,ho_⟩:∃ o,o=((.cells #[.int .i64 f,.int .i64 t,.int .i64 mm,.int .i64 ib] 50):Obj):=⟨_,rfl⟩
    replace a5:=hid (OwnsX.alloc (a5.out) (o_))
    replace a3:=hid (Cl.alloc (a3.out) (o_))
    replace a0:=kA a0 o_
    replace a4:=kA a4 o_
    replace a2:=bA a2 o_
    subst ho_
    have a1:=hid (Blk.new wr 50 #[.int .i64 f,.int .i64 t,.int .i64 mm,.int .i64 ib])
    replace a5:=hid (OwnsX.drew (a5.out))
    replace a3:=hid (Cl.drew (a3.out))
    replace a0:=kD a0
    replace a4:=kD a4
    replace a2:=bD a2
    replace a1:=kD a1
    refine wp_region_held_drew (S:=(fun W'=>Blk W' (wr.heap.size) 50 #[.int .i64 f,.int .i64 t,.int .i64 mm,.int .i64 ib])) (by kernel_rfl) a1.out (fun _=>?_)
    obtain ⟨b9,b4⟩:∃ w',w'=((wr.alloc (.cells #[.int .i64 f,.int .i64 t,.int .i64 mm,.int .i64 ib] 50)).drew):=⟨_,rfl⟩
    rw [← b4] at a5 a3 a0 a4 a2 a1
    rw [← b4]
    clear b4
    refine' twH 0 a1.out ?_
    refine' twH 1 a1.out ?_
    refine' twH 2 a1.out ?_
    refine' tkH 3 a1.out ?c1 ?_
    case c1=>(rintro W' hS0;have hc0:=Blk.nth hS0 0;clear hS0;go_simp;try with_reducible rfl)
    try simp only [pq]
    refine' twH 5 a1.out ?_
    refine' twH 6 a1.out ?_
    refine' tkH 7 a1.out ?c2 ?_
    case c2=>(rintro W' hS0;have hc0:=Blk.nth hS0 1;clear hS0;go_simp;try with_reducible rfl)
    refine' twH 9 a1.out ?_
    try simp only [pq]
    refine' tkH 10 a1.out ?c3 ?_
    case c3=>(rintro W' hS0;have hc0:=Blk.nth hS0 2;clear hS0;go_simp;try with_reducible rfl)
    refine' twH 11 a1.out ?_
    refine' tkH 12 a1.out ?c4 ?_
    case c4=>(rintro W' hS0;have hc0:=Blk.nth hS0 3;clear hS0;go_simp;try with_reducible rfl)
    try simp only [pq]
    refine oneH 4 rfl fun K hK=>?_
    go_simp
    go_at_call 130
    refine (HV1.out _ (a3.out)).mono ?_
    rintro e j6 ⟨rfl,rfl⟩
    dsimp only
    refine hK.out _ _ a1.out (fun _=>?_);clear hK K
    try simp only [pq]
    refine oneH 8 rfl fun K hK=>?_
    go_simp
    go_at_call 130
    refine (HV2.out _ (a3.out)).mono ?_
    rintro e j7 ⟨rfl,rfl⟩
    dsimp only
    refine hK.out _ _ a1.out (fun _=>?_);clear hK K
    try simp only [pq]
    refine' twH 13 a1.out ?_
    try simp only [pq]
    refine oneH 14 rfl fun K hK=>?_
    go_simp
    have d0:=hid (Nat.ne_of_lt (Blk.lt a0.out))
    have d1:=hid (Nat.ne_of_lt (Blk.lt a4.out))
    have d2:=hid (a2.out.size)
    have d3:=hid (Nat.ne_of_lt (Blk.lt a1.out))
    obtain ⟨o_,ho_⟩:∃ o,o=(.cells #[.int .i64 v1,.int .i64 v2,.int .i64 mm,.int .i64 ib] 50:Obj):=⟨_,rfl⟩
    replace a5:=hid (OwnsX.alloc (a5.out) (o_))
    replace a3:=hid (Cl.alloc (a3.out) (o_))
    replace a0:=kA a0 o_
    replace a4:=kA a4 o_
    replace a2:=bA a2 o_
    replace a1:=kA a1 o_
    subst ho_
    have b3:=hid (Blk.new (b9) 50 #[.int .i64 v1,.int .i64 v2,.int .i64 mm,.int .i64 ib])
    obtain ⟨h8,b5⟩:∃ g,g=(b9).heap.size:=⟨_,rfl⟩
    obtain ⟨j8,b6⟩:∃ w',w'=(b9).alloc (.cells #[.int .i64 v1,.int .i64 v2,.int .i64 mm,.int .i64 ib] 50):=⟨_,rfl⟩
    rw [← b6] at a5 a3 a0 a4 a2 a1 b3
    rw [← b5] at d0 d1 d2 d3 b3
    rw [← b5,← b6]
    clear b5 b6
    refine hK.out _ _ a1.out (fun _=>?_);clear hK K
    try simp only [pq]
    refine oneH 15 rfl fun K hK=>?_
    have hcell:=cells_add (cs:=bcells [⟨v1,v2,mm,ib⟩]) (show Blk _ _ _ (bcells [⟨v1,v2,mm,ib⟩]).toArray from b3.out)
    have hsz:=Cl.lt (a3.out)
    refine wp_append_X _ (.tmp 23) (.tmp 37) 33 rfl (g+4) 50 i0 _ 4 32 Tryz.underlying33 HI.out HZ0.out HZ1.out HZ2.out rfl (by omega) Ai (m+q) ci _ rfl (a5.out) ⟨h8,0,none⟩ 1 1 (bcells [⟨v1,v2,mm,ib⟩]) rfl rfl hcell (bcells_one _) (by omega) (by unfold maxLen;omega) (by omega) (by omega) ?_
    intro g5 c5 j9 hown5 hb5 hg5 hkp5
    have h9:=hid (OwnsX.of (hown5))
    have i6:=hid (Cl.belowB (a3.out) hb5 (Nat.le_refl _))
    have i7:=hid (Blk.below (a0.out) hb5 (by omega))
    have i8:=hid (Blk.below (a4.out) hb5 (by omega))
    have i9:=hid (Below.trans (a2.out) (Below.mono hb5 (by omega)))
    have c6:=hid ((hkp5 _ (Blk.lt (a1.out)) NE.out).trans (a1.out))
    clear hown5 hb5 hcell hsz hkp5
    refine hK.out _ _ c6.out (fun _=>?_);clear hK K
    try simp only [pq]
    refine' twH 16 c6.out ?_
    try simp only [pq]
    refine wpAnyH_done (by kernel_rfl) ?_ _
    go_wp2
    go_roundw
    case rel=>exact ⟨q+1,some ⟨g5,0,none⟩,c5,by omega,by go_num,rfl,by rw [HTK.out,← List.append_assoc,bcells_append];exact h9.out,i6.out,i7.out,i8.out,i9.out⟩
    case measure=>simp [intOf];omega
  · obtain rfl:m2=q:=by omega
    have hlen:=RB0.out.len
    have hox2:=a5.out
    rw [List.take_of_length_le (by omega)] at hox2
    have OXF:=hid hox2;clear hox2 hlen
    clear a5
    go_wp2
    have hw1:IntKind.i64.wrap (c+d)=c+d:=IntWalk.i64_in _ (by omega)
    have hw3:IntKind.i64.wrap (c+d-(p2-p1))=c+d-(p2-p1):=IntWalk.i64_in _ (by omega)
    have HWS:=hid (And.intro hw1 (And.intro trivial hw3));clear hw1 hw3
    replace OXF:=hid (OwnsX.drew (OXF.out))
    replace a3:=hid (Cl.drew (a3.out))
    replace a0:=kD a0
    replace a4:=kD a4
    replace a2:=bD a2
    refine wp_region_held_drew (S:=(fun W'=>Blk W' (w.heap.size) 78 #[.int .i64 c,.slice A n k,.slice B m j,.int .i64 d,.slice C n2 k2,.slice D m2 j2,.int .i64 p1,.int .i64 p2,.int .i64 p3,.int .i64 p4])) (by kernel_rfl) a0.out (fun _=>?_)
    obtain ⟨k0,b7⟩:∃ w',w'=(wr.drew):=⟨_,rfl⟩
    rw [← b7] at OXF a3 a0 a4 a2
    rw [← b7]
    clear b7
    refine' twH 0 a0.out ?_
    refine' twH 1 a0.out ?_
    refine' twH 2 a0.out ?_
    refine' tkH 3 a0.out ?c7 ?_
    case c7=>(rintro W' hS0;have hc0:=Blk.nth hS0 0;clear hS0;go_simp;try with_reducible rfl)
    try simp only [pq]
    refine' twH 4 a0.out ?_
    refine' twH 5 a0.out ?_
    refine' twH 6 a0.out ?_
    refine' tkH 7 a0.out ?c8 ?_
    case c8=>(rintro W' hS0;have hc0:=Blk.nth hS0 3;clear hS0;go_simp;try with_reducible rfl)
    try simp only [pq]
    refine' twH 8 a0.out ?_
    refine' twH 9 a0.out ?_
    refine' twH 10 a0.out ?_
    refine' tkH 11 a0.out ?c9 ?_
    case c9=>(rintro W' hS0;have hc0:=Blk.nth hS0 6;have hc1:=Blk.nth hS0 7;clear hS0;go_simp;try with_reducible rfl)
    try simp only [pq]
    refine' twH 14 a0.out ?_
    try simp only [pq]
    refine oneH 12 rfl fun K hK=>?_
    go_simp
    go_at_call 23
    refine (sides_any p1 p2 _ (by omega) (by omega) (by omega) (by omega)).mono ?_
    rintro e k1 ⟨rfl,a8⟩
    dsimp only
    replace a8:=hid a8
    replace a0:=kH a0 a8
    refine hK.out _ _ a0.out (fun _=>?_);clear hK K
    try simp only [pq]
    refine' twH 13 a0.out ?_
    refine' twH 15 a0.out ?_
    try simp only [pq]
    refine oneH 16 rfl fun K hK=>?_
    replace a2:=bH a2 a8
    replace OXF:=hid (OwnsX.below (OXF.out) a8.out)
    replace a4:=kH a4 a8
    have bl_:=a2.out
    have ox_:=OXF.out
    have bz_:=a4.out
    have c0_:=Blk.cell bz_ 0;have c1_:=Blk.cell bz_ 1;have f0_:=Blk.frozen bz_ 0;have f1_:=Blk.frozen bz_ 1;have hlt_:=Blk.lt bz_
    simp only [List.getElem?_toArray,List.getElem?_cons_zero,List.getElem?_cons_succ] at c0_ c1_
    go_simp
    obtain ⟨hw1,hw2,hw3⟩:=HWS.out
    simp only [hw1,hw3]
    clear hw1 hw2 hw3
    have bx2_:=hid (Blk.far (Blk.far (a0.out) (p:=⟨w.heap.size+1,0,none⟩) (by simp) (.int .i64 (c+d-(p2-p1)))) (p:=⟨w.heap.size+1,1,none⟩) (by simp) (.slice Ai (m+m2) ci))
    have bel2_:=hid (Below.setCell (Below.setCell (bl_) (p:=⟨w.heap.size+1,0,none⟩) (by simp) (.int .i64 (c+d-(p2-p1)))) (p:=⟨w.heap.size+1,1,none⟩) (by simp) (.slice Ai (m+m2) ci))
    have ox2_:=hid (OwnsX.setCell (OwnsX.setCell (ox_) (a:=⟨w.heap.size+1,0,none⟩) (by simp;omega) (.int .i64 (c+d-(p2-p1)))) (a:=⟨w.heap.size+1,1,none⟩) (by simp;omega) (.slice Ai (m+m2) ci))
    have bz2_:=hid (Blk.set_ (Blk.set_ bz_ 0 (.int .i64 (c+d-(p2-p1)))) 1 (.slice Ai (m+m2) ci))
    clear c0_ c1_ f0_ f1_ bl_ ox_ bz_ hlt_
    refine hK.out _ _ bx2_.out (fun _=>?_);clear hK K
    try simp only [pq]
    refine wpAnyH_done (by kernel_rfl) ?_ _
    have c0_:=Blk.cell bz2_.out 0;have c1_:=Blk.cell bz2_.out 1
    have rd_:=rdB_of ox2_.out;have bl_:=bel2_.out
    simp only [List.setIfInBounds_toArray,List.set_cons_zero,List.set_cons_succ,List.getElem?_toArray,List.getElem?_cons_zero,List.getElem?_cons_succ] at c0_ c1_
    generalize World.setCell (World.setCell _ _ _) _ _=wF at *
    go_wp2
    refine bodyPost_ret (v:=.agg #[.int .i64 (c+d-(p2-p1)),.slice Ai (m+m2) ci]) (by simp [results,Tryz.results44,go_sem,c0_,c1_]) rfl ?_
    exact ⟨Ai,m+m2,ci,rfl,rd_,bl_⟩
end Go.Proofs.YtebkniakflhhkaaGreatDoor
