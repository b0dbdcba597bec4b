import Derived.Test.YtebkniakflhhkaaGreatDoorASet
set_option maxHeartbeats 4000000
set_option linter.unusedSimpArgs false
set_option linter.unusedVariables false
namespace Go.Proofs.YtebkniakflhhkaaGreatDoor
open Go.Lib (hid)
open Go.RowKit
theorem settle_len {l:List Bnd} {p:Nat} {x y:List Int} (h:settle l p x=some y):y.length=x.length:=by
 obtain ⟨k,_,e,_⟩:=settle_some h
 rw [e,rounds_length]
def setL (l:List Bnd) (p:Nat) (x:List Int):List Int:=(settle l p x).getD zeros
theorem setL_length {l:List Bnd} {p:Nat} {x:List Int} (hx:x.length=60):(setL l p x).length=60:=by
 unfold setL
 cases h:settle l p x with
 | none=>rfl
 | some y=>exact (settle_len h).trans hx
theorem settled_f (p:Nat) (A:Option Addr) (n c:Nat) (l:List Bnd) (x:List Int) (hx:Wd 800000000000 x) (hp:p≤60) (hn400:n≤402) (hok:OkB l) (w:World) (hr:RdB w A n c l) :
 Calls Tryz.prog 156 #[.agg #[.int .i64 (p:Int),.slice A n c],.agg (arr x)] w fun e w'=>e=.returned (.tuple #[.agg (arr (setL l p x)),.bool (settle l p x).isSome])∧Below w.heap.size w w' :=
 (settled_any p A n c l x hx hp hn400 hok w hr).mono fun e w' h=>by
  obtain ⟨y,ok,_,rfl,hb,⟨rfl,h1⟩|⟨rfl,h1,h2⟩⟩:=h
  · unfold setL;rw [h1];exact ⟨rfl,hb⟩
  · unfold setL;rw [h1,h2];exact ⟨rfl,hb⟩
theorem at_zeros (i:Nat):at_ zeros i=0:=by
 unfold at_ zeros
 rw [List.getD_eq_getElem?_getD,List.getElem?_replicate]
 split<;>rfl
theorem wd_zeros {r:Int} (h:0≤r):Wd r zeros:=⟨rfl,fun i _=>.inr (by rw [at_zeros];omega)⟩
theorem solution_any (p:Nat) (A:Option Addr) (n c:Nat) (l:List Bnd) (hp:p≤60) (hn400:n≤402) (hok:OkB l) (w:World) (hr:RdB w A n c l) :
 Calls Tryz.prog 126 #[.agg #[.int .i64 (p:Int),.slice A n c]] w fun e w'=>e=.returned (.tuple #[.agg (arr (setL l p zeros)),.bool (settle l p zeros).isSome])∧Below w.heap.size w w':=by
 have hl:=setL_length (l:=l) (p:=p) zeros_length
 have hB:Below w.heap.size w ((w.alloc (.cells #[.int .i64 (p:Int),.slice A n c] 133)).alloc (.cells (arr zeros) 196)):=((Below.refl _ w).alloc (Nat.le_refl _) _).alloc (by simp) _
 have hr2:=hr.below hB
 have hc:=settled_f p A n c l zeros (wd_zeros (by omega)) hp hn400 hok _ hr2
 have b2:=Blk.new (w.alloc (.cells #[.int .i64 (p:Int),.slice A n c] 133)) 196 (arr zeros)
 simp only [World.size_alloc] at b2
 generalize settle l p zeros=q at *
 generalize setL l p zeros=z at *
 have HC:=hid hc;have B2:=hid b2;have HL:=hid hl;clear hc b2 hr2 hr hl
 go_enter Tryz.func126,Tryz.ntmps126
 go_wp2_with (first | (refine wpList_alloc_row rfl 196 rfl (arr zeros) zero_sums.1 ?_;simp only [World.size_alloc]) | (refine wpList_build0 rfl 196 rfl (arr zeros) built_sums ?_))
 refine HC.out.mono ?_
 rintro e w1 ⟨rfl,hb1⟩
 have b3:=B2.out.keep hb1
 have B3:=hid b3;clear b3
 go_wp2_with (first | (refine wpList_store_row rfl 196 (.tmp 2) (.tmp 7) rfl _ (arr z) rfl rfl _ (arr zeros) B3.out (size_sums HL.out) ((arr_size _).trans (zeros_length.trans (HL.out.symm.trans (arr_size _).symm))) (arr_one _) ?_))
 refine bodyPost_ret (results_row_tmp rfl _ _ (w.heap.size+1) 196 (arr z) (0,0) _ rfl (B3.out.row (arr z)) Tryz.underlying196 rfl (size_sums HL.out)) rfl ?_
 exact ⟨rfl,below_setRow (hB.trans (hb1.mono hB.size)) (by omega) _⟩
def startL (a:Nat):List Int:=(List.replicate 60 Inf).set a 0
def startK (k:Nat):List Int:=List.replicate k Inf++List.replicate (60-k) 0
theorem startK_length {k:Nat} (h:k≤60):(startK k).length=60:=by simp [startK];omega
theorem startK_set {k:Nat} (h:k<60):(startK k).set k Inf=startK (k+1):=by
 unfold startK
 obtain ⟨d,hd⟩:∃ d,60-k=d+1:=⟨60-k-1,by omega⟩
 rw [hd,show 60-(k+1)=d from by omega,List.set_append_right _ _ (by simp)]
 rw [show List.replicate (d+1) (0:Int)=0::List.replicate d 0 from rfl,List.length_replicate,Nat.sub_self,List.set_cons_zero,show List.replicate (k+1) Inf=List.replicate k Inf++[Inf] from List.replicate_succ',List.append_assoc]
 rfl
theorem startK_all:startK 60=List.replicate 60 Inf:=by simp [startK]
theorem startL_length (a:Nat):(startL a).length=60:=by simp [startL]
theorem at_startL {a:Nat} (ha:a<60) (i:Nat) (hi:i<60):at_ (startL a) i=if a=i then 0 else Inf:=by
 unfold startL
 rw [at_set _ _ _ _ (by simpa using ha)]
 split
 · rfl
 · unfold at_
   rw [List.getD_eq_getElem?_getD,List.getElem?_replicate]
   simp [hi]
theorem wd_startL {r:Int} (h:0≤r) {a:Nat} (ha:a<60):Wd r (startL a):=⟨startL_length a,fun i hi=>by
 rw [at_startL ha i hi]
 split
 · exact .inr (by omega)
 · exact .inl rfl⟩
theorem start_any (a:Nat) (ha:a<60) (w:World) :
 Calls Tryz.prog 138 #[.int .i64 (a:Int)] w fun e w'=>e=.returned (.agg (arr (startL a)))∧Below w.heap.size w w':=by
 have b0:=(Blk.new w 196 (arr zeros)).alloc (.cells (arr zeros) 196)
 have b1:=Blk.new (w.alloc (.cells (arr zeros) 196)) 196 (arr zeros)
 simp only [World.size_alloc] at b1
 have hB:Below w.heap.size w ((w.alloc (.cells (arr zeros) 196)).alloc (.cells (arr zeros) 196)):=((Below.refl _ w).alloc (Nat.le_refl _) _).alloc (by simp) _
 have B0:=hid b0;have B1:=hid b1;clear b0 b1
 go_enter Tryz.func138,Tryz.ntmps138
 go_wp2_with (first | (refine wpList_alloc_row rfl 196 rfl (arr zeros) zero_sums.1 ?_;simp only [World.size_alloc]))
 go_loopw [5] (fun i wr=>∃ k:Nat,k≤60∧i=.int .i64 k∧Blk wr (w.heap.size+1) 196 (arr (startK k))∧Blk wr w.heap.size 196 (arr zeros)∧Below w.heap.size w wr) (fun i _=>60-(intOf i).toNat)
 case atStart=>exact ⟨0,by omega,rfl,B1.out,B0.out,hB⟩
 case round =>
  obtain ⟨k,hk,rfl,c1,c0,hBr⟩:=hrel
  have C1:=hid c1;have C0:=hid c0;clear c1 c0
  by_cases hlt:k<60
  · have hlt':(k:Int)<60:=by omega
    have u0:wr.cell? ⟨w.heap.size+1,k,none⟩=some (.int .i64 (at_ (startK k) k)):=(C1.out.cell k).trans (arr_get _ k (by rw [startK_length hk];exact hlt))
    have u1:wr.frozen? ⟨w.heap.size+1,k,none⟩=false:=C1.out.frozen k
    have hset:=C1.out.set_ k (.int .i64 Inf)
    rw [arr_set,startK_set hlt] at hset
    have HS:=hid hset;clear hset
    go_wp2
    go_roundw
    case rel=>exact ⟨k+1,by omega,by go_num,HS.out,C0.out.far (by simp) _,hBr.setCell (p:=⟨w.heap.size+1,k,none⟩) (by simp) _⟩
    case measure=>simp [intOf];omega
  · obtain rfl:k=60:=by omega
    have ha':(a:Int)<60:=by omega
    have u0:wr.cell? ⟨w.heap.size+1,a,none⟩=some (.int .i64 (at_ (startK 60) a)):=(C1.out.cell a).trans (arr_get _ a (by rw [startK_length hk];exact ha))
    have u1:wr.frozen? ⟨w.heap.size+1,a,none⟩=false:=C1.out.frozen a
    have hset:=C1.out.set_ a (.int .i64 0)
    rw [arr_set,startK_all] at hset
    have HS:Hid (Blk (wr.setCell ⟨w.heap.size+1,a,none⟩ (.int .i64 0)) (w.heap.size+1) 196 (arr (startL a))):=hid hset;clear hset
    have hz:=C0.out.far (p:=⟨w.heap.size+1,a,none⟩) (by simp) (.int .i64 0)
    have HZ:=hid hz;clear hz
    go_wp2_with (first | (refine wpList_load_row rfl 196 (.tmp 3) rfl _ rfl _ (arr (startL a)) (0,0) _ HS.out Tryz.underlying196 rfl (size_sums (startL_length a)) ?_) | (refine wpList_store_row rfl 196 (.tmp 2) (.tmp 13) rfl _ (arr (startL a)) rfl rfl _ (arr zeros) HZ.out (size_sums (startL_length a)) ((arr_size _).trans (zeros_length.trans ((startL_length a).symm.trans (arr_size _).symm))) (arr_one _) ?_))
    refine bodyPost_ret (results_cell_row rfl _ _ w.heap.size 196 (arr (startL a)) (0,0) _ rfl (HZ.out.row _) Tryz.underlying196 rfl (size_sums (startL_length a))) rfl ?_
    exact ⟨rfl,below_setRow (hBr.setCell (p:=⟨w.heap.size+1,a,none⟩) (by simp) _) (by omega) _⟩
set_option maxRecDepth 100000 in
theorem from_any (p a:Nat) (A:Option Addr) (n c:Nat) (l:List Bnd) (hp:p≤60) (ha:a<60) (hn400:n≤402) (hok:OkB l) (w:World) (hr:RdB w A n c l) :
 Calls Tryz.prog 158 #[.agg #[.int .i64 (p:Int),.slice A n c],.int .i64 (a:Int)] w fun e w'=>e=.returned (.agg (arr (setL l p (startL a))))∧Below w.heap.size w w':=by
 have hl:=setL_length (l:=l) (p:=p) (startL_length a)
 have hB:Below w.heap.size w ((w.alloc (.cells #[.int .i64 (p:Int),.slice A n c] 133)).alloc (.cells (arr zeros) 196)).drew:=(((Below.refl _ w).alloc (Nat.le_refl _) _).alloc (by simp) _).drew
 have hc1:=start_any a ha
 have hc2:=fun w' hw'=>settled_f p A n c l (startL a) (wd_startL (by omega) ha) hp hn400 hok w' (hr.below hw')
 have b0:=((Blk.new w 133 #[.int .i64 (p:Int),.slice A n c]).alloc (.cells (arr zeros) 196)).drew
 have b2:=(Blk.new (w.alloc (.cells #[.int .i64 (p:Int),.slice A n c] 133)) 196 (arr zeros)).drew
 simp only [World.size_alloc] at b2
 generalize setL l p (startL a)=z at *
 have HL:=hid hl;have HC1:=hid hc1;have HC2:=hid hc2;have B0:=hid b0;have B2:=hid b2;have HBD:=hid hB;clear hl hc1 hc2 hr b0 b2 hB
 go_enter Tryz.func158,Tryz.ntmps158
 go_wp2_with (first | (refine wpList_alloc_row rfl 196 rfl (arr zeros) zero_sums.1 ?_;simp only [World.size_alloc]))
 refine wp_region_any (by kernel_rfl) ?_
 change wpAny _ _ _ _ _ _ _ (World.drew _)
 refine' twY 1 ?_
 try simp only [pq]
 refine wpAny_ready (rs:=[0,2,7]) (by kernel_rfl) (by simp) ?_
 refine rdY rfl (fun K hK=>?_) ?_
 · -- 0: load
  rw [if_pos (by rfl)]
  refine wp_load_row 133 (.tmp 2) rfl w.heap.size rfl 133 #[.int .i64 (p:Int),.slice A n c] (0,0) _ B0.out Tryz.underlying133 rfl (by kernel_rfl) ?_
  refine hK _ _ ?_;clear hK K
  try simp only [pq]
  refine wpAny_ready (rs:=[2,7]) (by kernel_rfl) (by simp) ?_
  refine rdY rfl (fun K hK=>?_) ?_
  · -- 2: call
   go_simp
   go_at_call 138
   refine (HC1.out _).mono ?_
   rintro e h7 ⟨rfl,a2⟩
   dsimp only
   replace a2:=hid a2
   refine hK _ _ ?_;clear hK K
   try simp only [pq]
   refine wpAny_ready (rs:=[3,7]) (by kernel_rfl) (by simp) ?_
   refine rdY rfl (fun K hK=>?_) ?_
   · -- 3: call
    replace HBD:=bH HBD a2
    go_simp
    go_at_call 156
    refine (HC2.out _ HBD.out).mono ?_
    rintro e h8 ⟨rfl,b9⟩
    dsimp only
    replace b9:=hid b9
    refine hK _ _ ?_;clear hK K
    try simp only [pq]
    refine' twY 4 ?_
    refine' twY 5 ?_
    refine' twY 6 ?_
    try simp only [pq]
    refine oneY 7 rfl fun K hK=>?_
    replace B0:=kH (kH B0 a2) b9
    replace B2:=kH (kH B2 a2) b9
    replace HBD:=bH HBD b9
    rw [if_pos (by rfl)]
    refine wp_alloc_row 196 rfl (arr zeros) zero_sums.1 ?_
    have h9:=hid (Nat.ne_of_lt (Blk.lt B0.out))
    have i0:=hid (Nat.ne_of_lt (Blk.lt B2.out))
    have i1:=hid (HBD.out.size)
    obtain ⟨o_,ho_⟩:∃ o,o=(.cells (arr zeros) 196:Obj):=⟨_,rfl⟩
    replace B0:=kA B0 o_
    replace B2:=kA B2 o_
    replace HBD:=bA HBD o_
    subst ho_
    have d2:=hid (Blk.new (h8) 196 (arr zeros))
    obtain ⟨k8,f3⟩:∃ g,g=(h8).heap.size:=⟨_,rfl⟩
    obtain ⟨k9,f4⟩:∃ w',w'=(h8).alloc (.cells (arr zeros) 196):=⟨_,rfl⟩
    rw [← f4] at B0 B2 HBD d2
    rw [← f3] at h9 i0 i1 d2
    rw [← f3,← f4]
    clear f3 f4
    refine hK _ _ ?_;clear hK K
    try simp only [pq]
    refine oneY 8 rfl fun K hK=>?_
    rw [if_pos (by rfl)]
    refine wp_store_row 196 (.tmp 5) (.tmp 12) rfl _ (arr z) rfl rfl 196 (arr zeros) d2.out (size_sums HL.out) ((arr_size _).trans (zeros_length.trans (HL.out.symm.trans (arr_size _).symm))) (arr_one _) ?_
    have j9:=hid (Blk.rowFar (B0.out) (h9.out) (arr z))
    have d3:=hid (Blk.rowFar (B2.out) (i0.out) (arr z))
    have f0:=hid (below_setRow (HBD.out) (i1.out) (arr z))
    have i2:=hid (Blk.row (d2.out) (arr z))
    obtain ⟨m6,f5⟩:∃ w',w'=(k9).setRow k8 (arr z):=⟨_,rfl⟩
    rw [← f5] at j9 d3 f0 i2
    rw [← f5]
    clear f5
    refine hK _ _ ?_;clear hK K
    try simp only [pq]
    refine' twY 9 ?_
    try simp only [pq]
    refine wpAny_done (by kernel_rfl) ?_ _
    go_wp2_with (first | (refine wpList_load_row rfl 196 (.tmp 5) rfl _ rfl _ (arr z) (0,0) _ i2.out Tryz.underlying196 rfl (size_sums HL.out) ?_) | (refine wpList_store_row rfl 196 (.tmp 4) (.tmp 14) rfl _ (arr z) rfl rfl _ (arr zeros) d3.out (size_sums HL.out) ((arr_size _).trans (zeros_length.trans (HL.out.symm.trans (arr_size _).symm))) (arr_one _) ?_))
    refine bodyPost_ret (results_cell_row rfl _ _ (w.heap.size+1) 196 (arr z) (0,0) _ rfl (Blk.row (d3.out) (arr z)) Tryz.underlying196 rfl (size_sums HL.out)) rfl ?_
    exact ⟨rfl,below_setRow (f0.out) (by omega) _⟩
   refine rdY rfl (fun K hK=>?_) ?_
   · -- 7: alloc
    replace B0:=kH B0 a2
    replace B2:=kH B2 a2
    replace HBD:=bH HBD a2
    rw [if_pos (by rfl)]
    refine wp_alloc_row 196 rfl (arr zeros) zero_sums.1 ?_
    have i3:=hid (Nat.ne_of_lt (Blk.lt B0.out))
    have i4:=hid (Nat.ne_of_lt (Blk.lt B2.out))
    have i5:=hid (HBD.out.size)
    obtain ⟨o_,ho_⟩:∃ o,o=(.cells (arr zeros) 196:Obj):=⟨_,rfl⟩
    replace B0:=kA B0 o_
    replace B2:=kA B2 o_
    replace HBD:=bA HBD o_
    subst ho_
    have b3:=hid (Blk.new (h7) 196 (arr zeros))
    obtain ⟨l0,f6⟩:∃ g,g=(h7).heap.size:=⟨_,rfl⟩
    obtain ⟨m7,f7⟩:∃ w',w'=(h7).alloc (.cells (arr zeros) 196):=⟨_,rfl⟩
    rw [← f7] at B0 B2 HBD b3
    rw [← f6] at i3 i4 i5 b3
    rw [← f6,← f7]
    clear f6 f7
    refine hK _ _ ?_;clear hK K
    try simp only [pq]
    refine oneY 3 rfl fun K hK=>?_
    go_simp
    go_at_call 156
    refine (HC2.out _ HBD.out).mono ?_
    rintro e l1 ⟨rfl,b4⟩
    dsimp only
    replace b4:=hid b4
    refine hK _ _ ?_;clear hK K
    try simp only [pq]
    refine' twY 4 ?_
    refine' twY 5 ?_
    refine' twY 6 ?_
    try simp only [pq]
    refine oneY 8 rfl fun K hK=>?_
    replace b3:=kH b3 b4
    rw [if_pos (by rfl)]
    refine wp_store_row 196 (.tmp 5) (.tmp 12) rfl _ (arr z) rfl rfl 196 (arr zeros) b3.out (size_sums HL.out) ((arr_size _).trans (zeros_length.trans (HL.out.symm.trans (arr_size _).symm))) (arr_one _) ?_
    have k0:=hid (Blk.rowFar ((kH B0 b4).out) (i3.out) (arr z))
    have d4:=hid (Blk.rowFar ((kH B2 b4).out) (i4.out) (arr z))
    have f1:=hid (below_setRow ((bH HBD b4).out) (i5.out) (arr z))
    have i6:=hid (Blk.row (b3.out) (arr z))
    obtain ⟨m8,f8⟩:∃ w',w'=(l1).setRow l0 (arr z):=⟨_,rfl⟩
    rw [← f8] at k0 d4 f1 i6
    rw [← f8]
    clear f8
    refine hK _ _ ?_;clear hK K
    try simp only [pq]
    refine' twY 9 ?_
    try simp only [pq]
    refine wpAny_done (by kernel_rfl) ?_ _
    go_wp2_with (first | (refine wpList_load_row rfl 196 (.tmp 5) rfl _ rfl _ (arr z) (0,0) _ i6.out Tryz.underlying196 rfl (size_sums HL.out) ?_) | (refine wpList_store_row rfl 196 (.tmp 4) (.tmp 14) rfl _ (arr z) rfl rfl _ (arr zeros) d4.out (size_sums HL.out) ((arr_size _).trans (zeros_length.trans (HL.out.symm.trans (arr_size _).symm))) (arr_one _) ?_))
    refine bodyPost_ret (results_cell_row rfl _ _ (w.heap.size+1) 196 (arr z) (0,0) _ rfl (Blk.row (d4.out) (arr z)) Tryz.underlying196 rfl (size_sums HL.out)) rfl ?_
    exact ⟨rfl,below_setRow (f1.out) (by omega) _⟩
   exact AllReady.nil
  refine rdY rfl (fun K hK=>?_) ?_
  · -- 7: alloc
   rw [if_pos (by rfl)]
   refine wp_alloc_row 196 rfl (arr zeros) zero_sums.1 ?_
   have i7:=hid (Nat.ne_of_lt (Blk.lt B0.out))
   have i8:=hid (Nat.ne_of_lt (Blk.lt B2.out))
   have i9:=hid (HBD.out.size)
   obtain ⟨o_,ho_⟩:∃ o,o=(.cells (arr zeros) 196:Obj):=⟨_,rfl⟩
   replace B0:=kA B0 o_
   replace B2:=kA B2 o_
   replace HBD:=bA HBD o_
   subst ho_
   have b5:=hid (Blk.new (((w.alloc (.cells #[.int .i64 (p:Int),.slice A n c] 133)).alloc (.cells (arr zeros) 196)).drew) 196 (arr zeros))
   obtain ⟨l2,f9⟩:∃ g,g=(((w.alloc (.cells #[.int .i64 (p:Int),.slice A n c] 133)).alloc (.cells (arr zeros) 196)).drew).heap.size:=⟨_,rfl⟩
   obtain ⟨m9,g0⟩:∃ w',w'=(((w.alloc (.cells #[.int .i64 (p:Int),.slice A n c] 133)).alloc (.cells (arr zeros) 196)).drew).alloc (.cells (arr zeros) 196):=⟨_,rfl⟩
   rw [← g0] at B0 B2 HBD b5
   rw [← f9] at i7 i8 i9 b5
   rw [← f9,← g0]
   clear f9 g0
   refine hK _ _ ?_;clear hK K
   try simp only [pq]
   refine oneY 2 rfl fun K hK=>?_
   go_simp
   go_at_call 138
   refine (HC1.out _).mono ?_
   rintro e n0 ⟨rfl,b6⟩
   dsimp only
   replace b6:=hid b6
   refine hK _ _ ?_;clear hK K
   try simp only [pq]
   refine oneY 3 rfl fun K hK=>?_
   replace HBD:=bH HBD b6
   go_simp
   go_at_call 156
   refine (HC2.out _ HBD.out).mono ?_
   rintro e l3 ⟨rfl,b7⟩
   dsimp only
   replace b7:=hid b7
   refine hK _ _ ?_;clear hK K
   try simp only [pq]
   refine' twY 4 ?_
   refine' twY 5 ?_
   refine' twY 6 ?_
   try simp only [pq]
   refine oneY 8 rfl fun K hK=>?_
   replace b5:=kH (kH b5 b6) b7
   rw [if_pos (by rfl)]
   refine wp_store_row 196 (.tmp 5) (.tmp 12) rfl _ (arr z) rfl rfl 196 (arr zeros) b5.out (size_sums HL.out) ((arr_size _).trans (zeros_length.trans (HL.out.symm.trans (arr_size _).symm))) (arr_one _) ?_
   have k1:=hid (Blk.rowFar ((kH (kH B0 b6) b7).out) (i7.out) (arr z))
   have d5:=hid (Blk.rowFar ((kH (kH B2 b6) b7).out) (i8.out) (arr z))
   have f2:=hid (below_setRow ((bH HBD b7).out) (i9.out) (arr z))
   have j0:=hid (Blk.row (b5.out) (arr z))
   obtain ⟨n1,g1⟩:∃ w',w'=(l3).setRow l2 (arr z):=⟨_,rfl⟩
   rw [← g1] at k1 d5 f2 j0
   rw [← g1]
   clear g1
   refine hK _ _ ?_;clear hK K
   try simp only [pq]
   refine' twY 9 ?_
   try simp only [pq]
   refine wpAny_done (by kernel_rfl) ?_ _
   go_wp2_with (first | (refine wpList_load_row rfl 196 (.tmp 5) rfl _ rfl _ (arr z) (0,0) _ j0.out Tryz.underlying196 rfl (size_sums HL.out) ?_) | (refine wpList_store_row rfl 196 (.tmp 4) (.tmp 14) rfl _ (arr z) rfl rfl _ (arr zeros) d5.out (size_sums HL.out) ((arr_size _).trans (zeros_length.trans (HL.out.symm.trans (arr_size _).symm))) (arr_one _) ?_))
   refine bodyPost_ret (results_cell_row rfl _ _ (w.heap.size+1) 196 (arr z) (0,0) _ rfl (Blk.row (d5.out) (arr z)) Tryz.underlying196 rfl (size_sums HL.out)) rfl ?_
   exact ⟨rfl,below_setRow (f2.out) (by omega) _⟩
  exact AllReady.nil
 refine rdY rfl (fun K hK=>?_) ?_
 · -- 2: call
  go_simp
  go_at_call 138
  refine (HC1.out _).mono ?_
  rintro e c6 ⟨rfl,a1⟩
  dsimp only
  replace a1:=hid a1
  refine hK _ _ ?_;clear hK K
  try simp only [pq]
  refine wpAny_ready (rs:=[0,7]) (by kernel_rfl) (by simp) ?_
  refine rdY rfl (fun K hK=>?_) ?_
  · -- 0: load
   replace B0:=kH B0 a1
   rw [if_pos (by rfl)]
   refine wp_load_row 133 (.tmp 2) rfl w.heap.size rfl 133 #[.int .i64 (p:Int),.slice A n c] (0,0) _ B0.out Tryz.underlying133 rfl (by kernel_rfl) ?_
   refine hK _ _ ?_;clear hK K
   try simp only [pq]
   refine wpAny_ready (rs:=[3,7]) (by kernel_rfl) (by simp) ?_
   refine rdY rfl (fun K hK=>?_) ?_
   · -- 3: call
    replace HBD:=bH HBD a1
    go_simp
    go_at_call 156
    refine (HC2.out _ HBD.out).mono ?_
    rintro e j1 ⟨rfl,c0⟩
    dsimp only
    replace c0:=hid c0
    refine hK _ _ ?_;clear hK K
    try simp only [pq]
    refine' twY 4 ?_
    refine' twY 5 ?_
    refine' twY 6 ?_
    try simp only [pq]
    refine oneY 7 rfl fun K hK=>?_
    replace B0:=kH B0 c0
    replace B2:=kH (kH B2 a1) c0
    replace HBD:=bH HBD c0
    rw [if_pos (by rfl)]
    refine wp_alloc_row 196 rfl (arr zeros) zero_sums.1 ?_
    have j2:=hid (Nat.ne_of_lt (Blk.lt B0.out))
    have g4:=hid (Nat.ne_of_lt (Blk.lt B2.out))
    have g5:=hid (HBD.out.size)
    obtain ⟨o_,ho_⟩:∃ o,o=(.cells (arr zeros) 196:Obj):=⟨_,rfl⟩
    replace B0:=kA B0 o_
    replace B2:=kA B2 o_
    replace HBD:=bA HBD o_
    subst ho_
    have b8:=hid (Blk.new (j1) 196 (arr zeros))
    obtain ⟨l4,g2⟩:∃ g,g=(j1).heap.size:=⟨_,rfl⟩
    obtain ⟨l5,g3⟩:∃ w',w'=(j1).alloc (.cells (arr zeros) 196):=⟨_,rfl⟩
    rw [← g3] at B0 B2 HBD b8
    rw [← g2] at j2 g4 g5 b8
    rw [← g2,← g3]
    clear g2 g3
    refine hK _ _ ?_;clear hK K
    try simp only [pq]
    refine oneY 8 rfl fun K hK=>?_
    rw [if_pos (by rfl)]
    refine wp_store_row 196 (.tmp 5) (.tmp 12) rfl _ (arr z) rfl rfl 196 (arr zeros) b8.out (size_sums HL.out) ((arr_size _).trans (zeros_length.trans (HL.out.symm.trans (arr_size _).symm))) (arr_one _) ?_
    have j3:=hid (Blk.rowFar (B0.out) (j2.out) (arr z))
    have c1:=hid (Blk.rowFar (B2.out) (g4.out) (arr z))
    have c7:=hid (below_setRow (HBD.out) (g5.out) (arr z))
    have g6:=hid (Blk.row (b8.out) (arr z))
    obtain ⟨l6,d6⟩:∃ w',w'=(l5).setRow l4 (arr z):=⟨_,rfl⟩
    rw [← d6] at j3 c1 c7 g6
    rw [← d6]
    clear d6
    refine hK _ _ ?_;clear hK K
    try simp only [pq]
    refine' twY 9 ?_
    try simp only [pq]
    refine wpAny_done (by kernel_rfl) ?_ _
    go_wp2_with (first | (refine wpList_load_row rfl 196 (.tmp 5) rfl _ rfl _ (arr z) (0,0) _ g6.out Tryz.underlying196 rfl (size_sums HL.out) ?_) | (refine wpList_store_row rfl 196 (.tmp 4) (.tmp 14) rfl _ (arr z) rfl rfl _ (arr zeros) c1.out (size_sums HL.out) ((arr_size _).trans (zeros_length.trans (HL.out.symm.trans (arr_size _).symm))) (arr_one _) ?_))
    refine bodyPost_ret (results_cell_row rfl _ _ (w.heap.size+1) 196 (arr z) (0,0) _ rfl (Blk.row (c1.out) (arr z)) Tryz.underlying196 rfl (size_sums HL.out)) rfl ?_
    exact ⟨rfl,below_setRow (c7.out) (by omega) _⟩
   refine rdY rfl (fun K hK=>?_) ?_
   · -- 7: alloc
    replace B2:=kH B2 a1
    replace HBD:=bH HBD a1
    rw [if_pos (by rfl)]
    refine wp_alloc_row 196 rfl (arr zeros) zero_sums.1 ?_
    have g7:=hid (Nat.ne_of_lt (Blk.lt B0.out))
    have g8:=hid (Nat.ne_of_lt (Blk.lt B2.out))
    have g9:=hid (HBD.out.size)
    obtain ⟨o_,ho_⟩:∃ o,o=(.cells (arr zeros) 196:Obj):=⟨_,rfl⟩
    replace B0:=kA B0 o_
    replace B2:=kA B2 o_
    replace HBD:=bA HBD o_
    subst ho_
    have a3:=hid (Blk.new (c6) 196 (arr zeros))
    obtain ⟨k2,d7⟩:∃ g,g=(c6).heap.size:=⟨_,rfl⟩
    obtain ⟨l7,d8⟩:∃ w',w'=(c6).alloc (.cells (arr zeros) 196):=⟨_,rfl⟩
    rw [← d8] at B0 B2 HBD a3
    rw [← d7] at g7 g8 g9 a3
    rw [← d7,← d8]
    clear d7 d8
    refine hK _ _ ?_;clear hK K
    try simp only [pq]
    refine oneY 3 rfl fun K hK=>?_
    go_simp
    go_at_call 156
    refine (HC2.out _ HBD.out).mono ?_
    rintro e k3 ⟨rfl,a4⟩
    dsimp only
    replace a4:=hid a4
    refine hK _ _ ?_;clear hK K
    try simp only [pq]
    refine' twY 4 ?_
    refine' twY 5 ?_
    refine' twY 6 ?_
    try simp only [pq]
    refine oneY 8 rfl fun K hK=>?_
    replace a3:=kH a3 a4
    rw [if_pos (by rfl)]
    refine wp_store_row 196 (.tmp 5) (.tmp 12) rfl _ (arr z) rfl rfl 196 (arr zeros) a3.out (size_sums HL.out) ((arr_size _).trans (zeros_length.trans (HL.out.symm.trans (arr_size _).symm))) (arr_one _) ?_
    have j4:=hid (Blk.rowFar ((kH B0 a4).out) (g7.out) (arr z))
    have c2:=hid (Blk.rowFar ((kH B2 a4).out) (g8.out) (arr z))
    have c8:=hid (below_setRow ((bH HBD a4).out) (g9.out) (arr z))
    have h0:=hid (Blk.row (a3.out) (arr z))
    obtain ⟨l8,d9⟩:∃ w',w'=(k3).setRow k2 (arr z):=⟨_,rfl⟩
    rw [← d9] at j4 c2 c8 h0
    rw [← d9]
    clear d9
    refine hK _ _ ?_;clear hK K
    try simp only [pq]
    refine' twY 9 ?_
    try simp only [pq]
    refine wpAny_done (by kernel_rfl) ?_ _
    go_wp2_with (first | (refine wpList_load_row rfl 196 (.tmp 5) rfl _ rfl _ (arr z) (0,0) _ h0.out Tryz.underlying196 rfl (size_sums HL.out) ?_) | (refine wpList_store_row rfl 196 (.tmp 4) (.tmp 14) rfl _ (arr z) rfl rfl _ (arr zeros) c2.out (size_sums HL.out) ((arr_size _).trans (zeros_length.trans (HL.out.symm.trans (arr_size _).symm))) (arr_one _) ?_))
    refine bodyPost_ret (results_cell_row rfl _ _ (w.heap.size+1) 196 (arr z) (0,0) _ rfl (Blk.row (c2.out) (arr z)) Tryz.underlying196 rfl (size_sums HL.out)) rfl ?_
    exact ⟨rfl,below_setRow (c8.out) (by omega) _⟩
   exact AllReady.nil
  refine rdY rfl (fun K hK=>?_) ?_
  · -- 7: alloc
   replace B0:=kH B0 a1
   replace B2:=kH B2 a1
   replace HBD:=bH HBD a1
   rw [if_pos (by rfl)]
   refine wp_alloc_row 196 rfl (arr zeros) zero_sums.1 ?_
   have h1:=hid (Nat.ne_of_lt (Blk.lt B0.out))
   have h2:=hid (Nat.ne_of_lt (Blk.lt B2.out))
   have h3:=hid (HBD.out.size)
   obtain ⟨o_,ho_⟩:∃ o,o=(.cells (arr zeros) 196:Obj):=⟨_,rfl⟩
   replace B0:=kA B0 o_
   replace B2:=kA B2 o_
   replace HBD:=bA HBD o_
   subst ho_
   have a5:=hid (Blk.new (c6) 196 (arr zeros))
   obtain ⟨k4,e0⟩:∃ g,g=(c6).heap.size:=⟨_,rfl⟩
   obtain ⟨l9,e1⟩:∃ w',w'=(c6).alloc (.cells (arr zeros) 196):=⟨_,rfl⟩
   rw [← e1] at B0 B2 HBD a5
   rw [← e0] at h1 h2 h3 a5
   rw [← e0,← e1]
   clear e0 e1
   refine hK _ _ ?_;clear hK K
   try simp only [pq]
   refine oneY 0 rfl fun K hK=>?_
   rw [if_pos (by rfl)]
   refine wp_load_row 133 (.tmp 2) rfl w.heap.size rfl 133 #[.int .i64 (p:Int),.slice A n c] (0,0) _ B0.out Tryz.underlying133 rfl (by kernel_rfl) ?_
   refine hK _ _ ?_;clear hK K
   try simp only [pq]
   refine oneY 3 rfl fun K hK=>?_
   go_simp
   go_at_call 156
   refine (HC2.out _ HBD.out).mono ?_
   rintro e k5 ⟨rfl,a6⟩
   dsimp only
   replace a6:=hid a6
   refine hK _ _ ?_;clear hK K
   try simp only [pq]
   refine' twY 4 ?_
   refine' twY 5 ?_
   refine' twY 6 ?_
   try simp only [pq]
   refine oneY 8 rfl fun K hK=>?_
   replace a5:=kH a5 a6
   rw [if_pos (by rfl)]
   refine wp_store_row 196 (.tmp 5) (.tmp 12) rfl _ (arr z) rfl rfl 196 (arr zeros) a5.out (size_sums HL.out) ((arr_size _).trans (zeros_length.trans (HL.out.symm.trans (arr_size _).symm))) (arr_one _) ?_
   have j5:=hid (Blk.rowFar ((kH B0 a6).out) (h1.out) (arr z))
   have c3:=hid (Blk.rowFar ((kH B2 a6).out) (h2.out) (arr z))
   have c9:=hid (below_setRow ((bH HBD a6).out) (h3.out) (arr z))
   have h4:=hid (Blk.row (a5.out) (arr z))
   obtain ⟨m0,e2⟩:∃ w',w'=(k5).setRow k4 (arr z):=⟨_,rfl⟩
   rw [← e2] at j5 c3 c9 h4
   rw [← e2]
   clear e2
   refine hK _ _ ?_;clear hK K
   try simp only [pq]
   refine' twY 9 ?_
   try simp only [pq]
   refine wpAny_done (by kernel_rfl) ?_ _
   go_wp2_with (first | (refine wpList_load_row rfl 196 (.tmp 5) rfl _ rfl _ (arr z) (0,0) _ h4.out Tryz.underlying196 rfl (size_sums HL.out) ?_) | (refine wpList_store_row rfl 196 (.tmp 4) (.tmp 14) rfl _ (arr z) rfl rfl _ (arr zeros) c3.out (size_sums HL.out) ((arr_size _).trans (zeros_length.trans (HL.out.symm.trans (arr_size _).symm))) (arr_one _) ?_))
   refine bodyPost_ret (results_cell_row rfl _ _ (w.heap.size+1) 196 (arr z) (0,0) _ rfl (Blk.row (c3.out) (arr z)) Tryz.underlying196 rfl (size_sums HL.out)) rfl ?_
   exact ⟨rfl,below_setRow (c9.out) (by omega) _⟩
  exact AllReady.nil
 refine rdY rfl (fun K hK=>?_) ?_
 · -- 7: alloc
  rw [if_pos (by rfl)]
  refine wp_alloc_row 196 rfl (arr zeros) zero_sums.1 ?_
  have e3:=hid (Nat.ne_of_lt (Blk.lt B0.out))
  have e4:=hid (Nat.ne_of_lt (Blk.lt B2.out))
  have e5:=hid (HBD.out.size)
  obtain ⟨o_,ho_⟩:∃ o,o=(.cells (arr zeros) 196:Obj):=⟨_,rfl⟩
  replace B0:=kA B0 o_
  replace B2:=kA B2 o_
  replace HBD:=bA HBD o_
  subst ho_
  have a0:=hid (Blk.new (((w.alloc (.cells #[.int .i64 (p:Int),.slice A n c] 133)).alloc (.cells (arr zeros) 196)).drew) 196 (arr zeros))
  obtain ⟨j6,e6⟩:∃ g,g=(((w.alloc (.cells #[.int .i64 (p:Int),.slice A n c] 133)).alloc (.cells (arr zeros) 196)).drew).heap.size:=⟨_,rfl⟩
  obtain ⟨m1,e7⟩:∃ w',w'=(((w.alloc (.cells #[.int .i64 (p:Int),.slice A n c] 133)).alloc (.cells (arr zeros) 196)).drew).alloc (.cells (arr zeros) 196):=⟨_,rfl⟩
  rw [← e7] at B0 B2 HBD a0
  rw [← e6] at e3 e4 e5 a0
  rw [← e6,← e7]
  clear e6 e7
  refine hK _ _ ?_;clear hK K
  try simp only [pq]
  refine wpAny_ready (rs:=[0,2]) (by kernel_rfl) (by simp) ?_
  refine rdY rfl (fun K hK=>?_) ?_
  · -- 0: load
   rw [if_pos (by rfl)]
   refine wp_load_row 133 (.tmp 2) rfl w.heap.size rfl 133 #[.int .i64 (p:Int),.slice A n c] (0,0) _ B0.out Tryz.underlying133 rfl (by kernel_rfl) ?_
   refine hK _ _ ?_;clear hK K
   try simp only [pq]
   refine oneY 2 rfl fun K hK=>?_
   go_simp
   go_at_call 138
   refine (HC1.out _).mono ?_
   rintro e m2 ⟨rfl,a7⟩
   dsimp only
   replace a7:=hid a7
   refine hK _ _ ?_;clear hK K
   try simp only [pq]
   refine oneY 3 rfl fun K hK=>?_
   replace HBD:=bH HBD a7
   go_simp
   go_at_call 156
   refine (HC2.out _ HBD.out).mono ?_
   rintro e k6 ⟨rfl,a8⟩
   dsimp only
   replace a8:=hid a8
   refine hK _ _ ?_;clear hK K
   try simp only [pq]
   refine' twY 4 ?_
   refine' twY 5 ?_
   refine' twY 6 ?_
   try simp only [pq]
   refine oneY 8 rfl fun K hK=>?_
   replace a0:=kH (kH a0 a7) a8
   rw [if_pos (by rfl)]
   refine wp_store_row 196 (.tmp 5) (.tmp 12) rfl _ (arr z) rfl rfl 196 (arr zeros) a0.out (size_sums HL.out) ((arr_size _).trans (zeros_length.trans (HL.out.symm.trans (arr_size _).symm))) (arr_one _) ?_
   have j7:=hid (Blk.rowFar ((kH (kH B0 a7) a8).out) (e3.out) (arr z))
   have c4:=hid (Blk.rowFar ((kH (kH B2 a7) a8).out) (e4.out) (arr z))
   have d0:=hid (below_setRow ((bH HBD a8).out) (e5.out) (arr z))
   have h5:=hid (Blk.row (a0.out) (arr z))
   obtain ⟨m3,e8⟩:∃ w',w'=(k6).setRow j6 (arr z):=⟨_,rfl⟩
   rw [← e8] at j7 c4 d0 h5
   rw [← e8]
   clear e8
   refine hK _ _ ?_;clear hK K
   try simp only [pq]
   refine' twY 9 ?_
   try simp only [pq]
   refine wpAny_done (by kernel_rfl) ?_ _
   go_wp2_with (first | (refine wpList_load_row rfl 196 (.tmp 5) rfl _ rfl _ (arr z) (0,0) _ h5.out Tryz.underlying196 rfl (size_sums HL.out) ?_) | (refine wpList_store_row rfl 196 (.tmp 4) (.tmp 14) rfl _ (arr z) rfl rfl _ (arr zeros) c4.out (size_sums HL.out) ((arr_size _).trans (zeros_length.trans (HL.out.symm.trans (arr_size _).symm))) (arr_one _) ?_))
   refine bodyPost_ret (results_cell_row rfl _ _ (w.heap.size+1) 196 (arr z) (0,0) _ rfl (Blk.row (c4.out) (arr z)) Tryz.underlying196 rfl (size_sums HL.out)) rfl ?_
   exact ⟨rfl,below_setRow (d0.out) (by omega) _⟩
  refine rdY rfl (fun K hK=>?_) ?_
  · -- 2: call
   go_simp
   go_at_call 138
   refine (HC1.out _).mono ?_
   rintro e m4 ⟨rfl,a9⟩
   dsimp only
   replace a9:=hid a9
   refine hK _ _ ?_;clear hK K
   try simp only [pq]
   refine oneY 0 rfl fun K hK=>?_
   replace B0:=kH B0 a9
   rw [if_pos (by rfl)]
   refine wp_load_row 133 (.tmp 2) rfl w.heap.size rfl 133 #[.int .i64 (p:Int),.slice A n c] (0,0) _ B0.out Tryz.underlying133 rfl (by kernel_rfl) ?_
   refine hK _ _ ?_;clear hK K
   try simp only [pq]
   refine oneY 3 rfl fun K hK=>?_
   replace HBD:=bH HBD a9
   go_simp
   go_at_call 156
   refine (HC2.out _ HBD.out).mono ?_
   rintro e k7 ⟨rfl,b1⟩
   dsimp only
   replace b1:=hid b1
   refine hK _ _ ?_;clear hK K
   try simp only [pq]
   refine' twY 4 ?_
   refine' twY 5 ?_
   refine' twY 6 ?_
   try simp only [pq]
   refine oneY 8 rfl fun K hK=>?_
   replace a0:=kH (kH a0 a9) b1
   rw [if_pos (by rfl)]
   refine wp_store_row 196 (.tmp 5) (.tmp 12) rfl _ (arr z) rfl rfl 196 (arr zeros) a0.out (size_sums HL.out) ((arr_size _).trans (zeros_length.trans (HL.out.symm.trans (arr_size _).symm))) (arr_one _) ?_
   have j8:=hid (Blk.rowFar ((kH B0 b1).out) (e3.out) (arr z))
   have c5:=hid (Blk.rowFar ((kH (kH B2 a9) b1).out) (e4.out) (arr z))
   have d1:=hid (below_setRow ((bH HBD b1).out) (e5.out) (arr z))
   have h6:=hid (Blk.row (a0.out) (arr z))
   obtain ⟨m5,e9⟩:∃ w',w'=(k7).setRow j6 (arr z):=⟨_,rfl⟩
   rw [← e9] at j8 c5 d1 h6
   rw [← e9]
   clear e9
   refine hK _ _ ?_;clear hK K
   try simp only [pq]
   refine' twY 9 ?_
   try simp only [pq]
   refine wpAny_done (by kernel_rfl) ?_ _
   go_wp2_with (first | (refine wpList_load_row rfl 196 (.tmp 5) rfl _ rfl _ (arr z) (0,0) _ h6.out Tryz.underlying196 rfl (size_sums HL.out) ?_) | (refine wpList_store_row rfl 196 (.tmp 4) (.tmp 14) rfl _ (arr z) rfl rfl _ (arr zeros) c5.out (size_sums HL.out) ((arr_size _).trans (zeros_length.trans (HL.out.symm.trans (arr_size _).symm))) (arr_one _) ?_))
   refine bodyPost_ret (results_cell_row rfl _ _ (w.heap.size+1) 196 (arr z) (0,0) _ rfl (Blk.row (c5.out) (arr z)) Tryz.underlying196 rfl (size_sums HL.out)) rfl ?_
   exact ⟨rfl,below_setRow (d1.out) (by omega) _⟩
  exact AllReady.nil
 exact AllReady.nil
end Go.Proofs.YtebkniakflhhkaaGreatDoor
