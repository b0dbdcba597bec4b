import Derived.Test.YtaoanagmgheicaaGreatQSet
set_option maxHeartbeats 4000000
set_option linter.unusedSimpArgs false
set_option linter.unusedVariables false
namespace Go.Proofs.YtaoanagmgheicaaGreat
open Go.RowKit
theorem settle_len {l : List Bnd} {p : Nat} {x y : List Int} (h : settle l p x = some y) : y.length = x.length := by
 obtain ⟨k, _, e, _⟩ := settle_some h
 rw [e, rounds_length]
def setL (l : List Bnd) (p : Nat) (x : List Int) : List Int := (settle l p x).getD zeros
theorem setL_length {l : List Bnd} {p : Nat} {x : List Int} (hx : x.length = 60) : (setL l p x).length = 60 := by
 unfold setL
 cases h : settle l p x with
 | none => rfl
 | some y => exact (settle_len h).trans hx
theorem settled_f (p : Nat) (A : Option Addr) (n c : Nat) (l : List Bnd) (x : List Int) (hx : Wd 800000000000 x) (hp : p ≤ 60) (hn400 : n ≤ 402) (hok : OkB l) (w : World) (hr : RdB w A n c l) :
 Calls Tryz.prog 171 #[.agg #[.int .i64 (p : Int), .slice A n c], .agg (arr x)] w fun e w' => e = .returned (.tuple #[.agg (arr (setL l p x)), .bool (settle l p x).isSome]) ∧ Below w.heap.size w w' :=
 (settled_any p A n c l x hx hp hn400 hok w hr).mono fun e w' h => by
  obtain ⟨y, ok, _, rfl, hb, ⟨rfl, h1⟩ | ⟨rfl, h1, h2⟩⟩ := h
  · unfold setL; rw [h1]; exact ⟨rfl, hb⟩
  · unfold setL; rw [h1, h2]; exact ⟨rfl, hb⟩
theorem at_zeros (i : Nat) : at_ zeros i = 0 := by
 unfold at_ zeros
 rw [List.getD_eq_getElem?_getD, List.getElem?_replicate]
 split <;> rfl
theorem wd_zeros {r : Int} (h : 0 ≤ r) : Wd r zeros := ⟨rfl, fun i _ => .inr (by rw [at_zeros]; omega)⟩
theorem solution_any (p : Nat) (A : Option Addr) (n c : Nat) (l : List Bnd) (hp : p ≤ 60) (hn400 : n ≤ 402) (hok : OkB l) (w : World) (hr : RdB w A n c l) :
 Calls Tryz.prog 147 #[.agg #[.int .i64 (p : Int), .slice A n c]] w fun e w' => e = .returned (.tuple #[.agg (arr (setL l p zeros)), .bool (settle l p zeros).isSome]) ∧ Below w.heap.size w w' := by
 have hl := setL_length (l := l) (p := p) zeros_length
 have hB : Below w.heap.size w ((w.alloc (.cells #[.int .i64 (p : Int), .slice A n c] 136)).alloc (.cells (arr zeros) 169)) := ((Below.refl _ w).alloc (Nat.le_refl _) _).alloc (by simp) _
 have hr2 := hr.below hB
 have hc := settled_f p A n c l zeros (wd_zeros (by omega)) hp hn400 hok _ hr2
 have b2 := Blk.new (w.alloc (.cells #[.int .i64 (p : Int), .slice A n c] 136)) 169 (arr zeros)
 simp only [World.size_alloc] at b2
 generalize settle l p zeros = q at *
 generalize setL l p zeros = z at *
 have HC := Lib.hid hc; have B2 := Lib.hid b2; have HL := Lib.hid hl; clear hc b2 hr2 hr hl
 go_enter Tryz.func147, Tryz.ntmps147
 go_wp2_with (first | (refine wpList_alloc_row rfl 169 rfl (arr zeros) zero_sums.1 ?_; simp only [World.size_alloc]) | (refine wpList_build0 rfl 169 rfl (arr zeros) built_sums ?_))
 refine HC.out.mono ?_
 rintro e w1 ⟨rfl, hb1⟩
 have b3 := B2.out.keep hb1
 have B3 := Lib.hid b3; clear b3
 go_wp2_with (first | (refine wpList_store_row rfl 169 (.tmp 2) (.tmp 7) rfl _ (arr z) rfl rfl _ (arr zeros) B3.out (size_sums HL.out) ((arr_size _).trans (zeros_length.trans (HL.out.symm.trans (arr_size _).symm))) (arr_one _) ?_))
 refine bodyPost_ret (results_row_tmp rfl _ _ (w.heap.size + 1) 169 (arr z) (0, 0) _ rfl (B3.out.row (arr z)) Tryz.underlying169 rfl (size_sums HL.out)) rfl ?_
 exact ⟨rfl, below_setRow (hB.trans (hb1.mono hB.size)) (by omega) _⟩
def startL (a : Nat) : List Int := (List.replicate 60 Inf).set a 0
def startK (k : Nat) : List Int := List.replicate k Inf ++ List.replicate (60 - k) 0
theorem startK_length {k : Nat} (h : k ≤ 60) : (startK k).length = 60 := by simp [startK]; omega
theorem startK_set {k : Nat} (h : k < 60) : (startK k).set k Inf = startK (k + 1) := by
 unfold startK
 obtain ⟨d, hd⟩ : ∃ d, 60 - k = d + 1 := ⟨60 - k - 1, by omega⟩
 rw [hd, show 60 - (k + 1) = d from by omega, List.set_append_right _ _ (by simp)]
 rw [show List.replicate (d + 1) (0 : Int) = 0 :: List.replicate d 0 from rfl, List.length_replicate, Nat.sub_self, List.set_cons_zero, show List.replicate (k + 1) Inf = List.replicate k Inf ++ [Inf] from List.replicate_succ', List.append_assoc]
 rfl
theorem startK_all : startK 60 = List.replicate 60 Inf := by simp [startK]
theorem startL_length (a : Nat) : (startL a).length = 60 := by simp [startL]
theorem at_startL {a : Nat} (ha : a < 60) (i : Nat) (hi : i < 60) : at_ (startL a) i = if a = i then 0 else Inf := by
 unfold startL
 rw [at_set _ _ _ _ (by simpa using ha)]
 split
 · rfl
 · unfold at_
   rw [List.getD_eq_getElem?_getD, List.getElem?_replicate]
   simp [hi]
theorem wd_startL {r : Int} (h : 0 ≤ r) {a : Nat} (ha : a < 60) : Wd r (startL a) := ⟨startL_length a, fun i hi => by
 rw [at_startL ha i hi]
 split
 · exact .inr (by omega)
 · exact .inl rfl⟩
theorem start_any (a : Nat) (ha : a < 60) (w : World) :
 Calls Tryz.prog 174 #[.int .i64 (a : Int)] w fun e w' => e = .returned (.agg (arr (startL a))) ∧ Below w.heap.size w w' := by
 have b0 := (Blk.new w 169 (arr zeros)).alloc (.cells (arr zeros) 169)
 have b1 := Blk.new (w.alloc (.cells (arr zeros) 169)) 169 (arr zeros)
 simp only [World.size_alloc] at b1
 have hB : Below w.heap.size w ((w.alloc (.cells (arr zeros) 169)).alloc (.cells (arr zeros) 169)) := ((Below.refl _ w).alloc (Nat.le_refl _) _).alloc (by simp) _
 have B0 := Lib.hid b0; have B1 := Lib.hid b1; clear b0 b1
 go_enter Tryz.func174, Tryz.ntmps174
 go_wp2_with (first | (refine wpList_alloc_row rfl 169 rfl (arr zeros) zero_sums.1 ?_; simp only [World.size_alloc]))
 go_loopw [5] (fun i wr => ∃ k : Nat, k ≤ 60 ∧ i = .int .i64 k ∧ Blk wr (w.heap.size + 1) 169 (arr (startK k)) ∧ Blk wr w.heap.size 169 (arr zeros) ∧ Below w.heap.size w wr) (fun i _ => 60 - (intOf i).toNat)
 case atStart => exact ⟨0, by omega, rfl, B1.out, B0.out, hB⟩
 case round =>
  obtain ⟨k, hk, rfl, c1, c0, hBr⟩ := hrel
  have C1 := Lib.hid c1; have C0 := Lib.hid c0; clear c1 c0
  by_cases hlt : k < 60
  · have hlt' : (k : Int) < 60 := by omega
    have u0 : wr.cell? ⟨w.heap.size + 1, k, none⟩ = some (.int .i64 (at_ (startK k) k)) := (C1.out.cell k).trans (arr_get _ k (by rw [startK_length hk]; exact hlt))
    have u1 : wr.frozen? ⟨w.heap.size + 1, k, none⟩ = false := C1.out.frozen k
    have hset := C1.out.set_ k (.int .i64 Inf)
    rw [arr_set, startK_set hlt] at hset
    have HS := Lib.hid hset; clear hset
    go_wp2
    go_roundw
    case rel => exact ⟨k + 1, by omega, by go_num, HS.out, C0.out.far (by simp) _, hBr.setCell (p := ⟨w.heap.size + 1, k, none⟩) (by simp) _⟩
    case measure => simp [intOf]; omega
  · obtain rfl : k = 60 := by omega
    have ha' : (a : Int) < 60 := by omega
    have u0 : wr.cell? ⟨w.heap.size + 1, a, none⟩ = some (.int .i64 (at_ (startK 60) a)) := (C1.out.cell a).trans (arr_get _ a (by rw [startK_length hk]; exact ha))
    have u1 : wr.frozen? ⟨w.heap.size + 1, a, none⟩ = false := C1.out.frozen a
    have hset := C1.out.set_ a (.int .i64 0)
    rw [arr_set, startK_all] at hset
    have HS : Hid (Blk (wr.setCell ⟨w.heap.size + 1, a, none⟩ (.int .i64 0)) (w.heap.size + 1) 169 (arr (startL a))) := Lib.hid hset; clear hset
    have hz := C0.out.far (p := ⟨w.heap.size + 1, a, none⟩) (by simp) (.int .i64 0)
    have HZ := Lib.hid hz; clear hz
    go_wp2_with (first | (refine wpList_load_row rfl 169 (.tmp 3) rfl _ rfl _ (arr (startL a)) (0, 0) _ HS.out Tryz.underlying169 rfl (size_sums (startL_length a)) ?_) | (refine wpList_store_row rfl 169 (.tmp 2) (.tmp 13) rfl _ (arr (startL a)) rfl rfl _ (arr zeros) HZ.out (size_sums (startL_length a)) ((arr_size _).trans (zeros_length.trans ((startL_length a).symm.trans (arr_size _).symm))) (arr_one _) ?_))
    refine bodyPost_ret (results_cell_row rfl _ _ w.heap.size 169 (arr (startL a)) (0, 0) _ rfl (HZ.out.row _) Tryz.underlying169 rfl (size_sums (startL_length a))) rfl ?_
    exact ⟨rfl, below_setRow (hBr.setCell (p := ⟨w.heap.size + 1, a, none⟩) (by simp) _) (by omega) _⟩
set_option maxRecDepth 100000 in
theorem from_any (p a : Nat) (A : Option Addr) (n c : Nat) (l : List Bnd) (hp : p ≤ 60) (ha : a < 60) (hn400 : n ≤ 402) (hok : OkB l) (w : World) (hr : RdB w A n c l) :
 Calls Tryz.prog 193 #[.agg #[.int .i64 (p : Int), .slice A n c], .int .i64 (a : Int)] w fun e w' => e = .returned (.agg (arr (setL l p (startL a)))) ∧ Below w.heap.size w w' := by
 have hl := setL_length (l := l) (p := p) (startL_length a)
 have hB : Below w.heap.size w ((w.alloc (.cells #[.int .i64 (p : Int), .slice A n c] 136)).alloc (.cells (arr zeros) 169)).drew := (((Below.refl _ w).alloc (Nat.le_refl _) _).alloc (by simp) _).drew
 have hc1 := start_any a ha
 have hc2 := fun w' hw' => settled_f p A n c l (startL a) (wd_startL (by omega) ha) hp hn400 hok w' (hr.below hw')
 have b0 := ((Blk.new w 136 #[.int .i64 (p : Int), .slice A n c]).alloc (.cells (arr zeros) 169)).drew
 have b2 := (Blk.new (w.alloc (.cells #[.int .i64 (p : Int), .slice A n c] 136)) 169 (arr zeros)).drew
 simp only [World.size_alloc] at b2
 generalize setL l p (startL a) = z at *
 have HL := Lib.hid hl; have HC1 := Lib.hid hc1; have HC2 := Lib.hid hc2; have B0 := Lib.hid b0; have B2 := Lib.hid b2; have HBD := Lib.hid hB; clear hl hc1 hc2 hr b0 b2 hB
 go_enter Tryz.func193, Tryz.ntmps193
 go_wp2_with (first | (refine wpList_alloc_row rfl 169 rfl (arr zeros) zero_sums.1 ?_; simp only [World.size_alloc]))
 refine wp_region_any (by kernel_rfl) ?_
 change wpAny _ _ _ _ _ _ _ (World.drew _)
 refine' twY 1 ?_
 try simp only [Act.put, qsA, qsZ, qsS]
 refine wpAny_ready (rs := [0, 2, 7]) (by kernel_rfl) (by simp) ?_
 refine rdY rfl (fun K hK => ?_) ?_
 · -- 0: load
  rw [if_pos (by rfl)]
  refine wp_load_row 136 (.tmp 2) rfl w.heap.size rfl 136 #[.int .i64 (p : Int), .slice A n c] (0, 0) _ B0.out Tryz.underlying136 rfl (by kernel_rfl) ?_
  refine hK _ _ ?_; clear hK K
  try simp only [Act.put, qsA, qsZ, qsS]
  refine wpAny_ready (rs := [2, 7]) (by kernel_rfl) (by simp) ?_
  refine rdY rfl (fun K hK => ?_) ?_
  · -- 2: call
   go_simp
   go_at_call 174
   refine (HC1.out _).mono ?_
   rintro e w24 ⟨rfl, hb25⟩
   dsimp only
   replace hb25 := Lib.hid hb25
   refine hK _ _ ?_; clear hK K
   try simp only [Act.put, qsA, qsZ, qsS]
   refine wpAny_ready (rs := [3, 7]) (by kernel_rfl) (by simp) ?_
   refine rdY rfl (fun K hK => ?_) ?_
   · -- 3: call
    replace HBD := bH HBD hb25
    go_simp
    go_at_call 171
    refine (HC2.out _ HBD.out).mono ?_
    rintro e w26 ⟨rfl, hb27⟩
    dsimp only
    replace hb27 := Lib.hid hb27
    refine hK _ _ ?_; clear hK K
    try simp only [Act.put, qsA, qsZ, qsS]
    refine' twY 4 ?_
    refine' twY 5 ?_
    refine' twY 6 ?_
    try simp only [Act.put, qsA, qsZ, qsS]
    refine oneY 7 rfl fun K hK => ?_
    replace B0 := kH (kH B0 hb25) hb27
    replace B2 := kH (kH B2 hb25) hb27
    replace HBD := bH HBD hb27
    rw [if_pos (by rfl)]
    refine wp_alloc_row 169 rfl (arr zeros) zero_sums.1 ?_
    have ne35 := Lib.hid (Nat.ne_of_lt (Blk.lt B0.out))
    have ne36 := Lib.hid (Nat.ne_of_lt (Blk.lt B2.out))
    have lb37 := Lib.hid (HBD.out.size)
    obtain ⟨o_, ho_⟩ : ∃ o, o = (.cells (arr zeros) 169 : Obj) := ⟨_, rfl⟩
    replace B0 := kA B0 o_
    replace B2 := kA B2 o_
    replace HBD := bA HBD o_
    subst ho_
    have x_38 := Lib.hid (Blk.new (w26) 169 (arr zeros))
    obtain ⟨g31, hg32⟩ : ∃ g, g = (w26).heap.size := ⟨_, rfl⟩
    obtain ⟨w33, hw34⟩ : ∃ w', w' = (w26).alloc (.cells (arr zeros) 169) := ⟨_, rfl⟩
    rw [← hw34] at B0 B2 HBD x_38
    rw [← hg32] at ne35 ne36 lb37 x_38
    rw [← hg32, ← hw34]
    clear hg32 hw34
    refine hK _ _ ?_; clear hK K
    try simp only [Act.put, qsA, qsZ, qsS]
    refine oneY 8 rfl fun K hK => ?_
    rw [if_pos (by rfl)]
    refine wp_store_row 169 (.tmp 5) (.tmp 12) rfl _ (arr z) rfl rfl 169 (arr zeros) x_38.out (size_sums HL.out) ((arr_size _).trans (zeros_length.trans (HL.out.symm.trans (arr_size _).symm))) (arr_one _) ?_
    have bg_41 := Lib.hid (Blk.rowFar (B0.out) (ne35.out) (arr z))
    have b4_42 := Lib.hid (Blk.rowFar (B2.out) (ne36.out) (arr z))
    have bel_43 := Lib.hid (below_setRow (HBD.out) (lb37.out) (arr z))
    have x_44 := Lib.hid (Blk.row (x_38.out) (arr z))
    obtain ⟨w39, hw40⟩ : ∃ w', w' = (w33).setRow g31 (arr z) := ⟨_, rfl⟩
    rw [← hw40] at bg_41 b4_42 bel_43 x_44
    rw [← hw40]
    clear hw40
    refine hK _ _ ?_; clear hK K
    try simp only [Act.put, qsA, qsZ, qsS]
    refine' twY 9 ?_
    try simp only [Act.put, qsA, qsZ, qsS]
    refine wpAny_done (by kernel_rfl) ?_ _
    go_wp2_with (first | (refine wpList_load_row rfl 169 (.tmp 5) rfl _ rfl _ (arr z) (0, 0) _ x_44.out Tryz.underlying169 rfl (size_sums HL.out) ?_) | (refine wpList_store_row rfl 169 (.tmp 4) (.tmp 14) rfl _ (arr z) rfl rfl _ (arr zeros) b4_42.out (size_sums HL.out) ((arr_size _).trans (zeros_length.trans (HL.out.symm.trans (arr_size _).symm))) (arr_one _) ?_))
    refine bodyPost_ret (results_cell_row rfl _ _ (w.heap.size + 1) 169 (arr z) (0, 0) _ rfl (Blk.row (b4_42.out) (arr z)) Tryz.underlying169 rfl (size_sums HL.out)) rfl ?_
    exact ⟨rfl, below_setRow (bel_43.out) (by omega) _⟩
   refine rdY rfl (fun K hK => ?_) ?_
   · -- 7: alloc
    replace B0 := kH B0 hb25
    replace B2 := kH B2 hb25
    replace HBD := bH HBD hb25
    rw [if_pos (by rfl)]
    refine wp_alloc_row 169 rfl (arr zeros) zero_sums.1 ?_
    have ne50 := Lib.hid (Nat.ne_of_lt (Blk.lt B0.out))
    have ne51 := Lib.hid (Nat.ne_of_lt (Blk.lt B2.out))
    have lb52 := Lib.hid (HBD.out.size)
    obtain ⟨o_, ho_⟩ : ∃ o, o = (.cells (arr zeros) 169 : Obj) := ⟨_, rfl⟩
    replace B0 := kA B0 o_
    replace B2 := kA B2 o_
    replace HBD := bA HBD o_
    subst ho_
    have x_53 := Lib.hid (Blk.new (w24) 169 (arr zeros))
    obtain ⟨g46, hg47⟩ : ∃ g, g = (w24).heap.size := ⟨_, rfl⟩
    obtain ⟨w48, hw49⟩ : ∃ w', w' = (w24).alloc (.cells (arr zeros) 169) := ⟨_, rfl⟩
    rw [← hw49] at B0 B2 HBD x_53
    rw [← hg47] at ne50 ne51 lb52 x_53
    rw [← hg47, ← hw49]
    clear hg47 hw49
    refine hK _ _ ?_; clear hK K
    try simp only [Act.put, qsA, qsZ, qsS]
    refine oneY 3 rfl fun K hK => ?_
    go_simp
    go_at_call 171
    refine (HC2.out _ HBD.out).mono ?_
    rintro e w54 ⟨rfl, hb55⟩
    dsimp only
    replace hb55 := Lib.hid hb55
    refine hK _ _ ?_; clear hK K
    try simp only [Act.put, qsA, qsZ, qsS]
    refine' twY 4 ?_
    refine' twY 5 ?_
    refine' twY 6 ?_
    try simp only [Act.put, qsA, qsZ, qsS]
    refine oneY 8 rfl fun K hK => ?_
    replace x_53 := kH x_53 hb55
    rw [if_pos (by rfl)]
    refine wp_store_row 169 (.tmp 5) (.tmp 12) rfl _ (arr z) rfl rfl 169 (arr zeros) x_53.out (size_sums HL.out) ((arr_size _).trans (zeros_length.trans (HL.out.symm.trans (arr_size _).symm))) (arr_one _) ?_
    have bg_61 := Lib.hid (Blk.rowFar ((kH B0 hb55).out) (ne50.out) (arr z))
    have b4_62 := Lib.hid (Blk.rowFar ((kH B2 hb55).out) (ne51.out) (arr z))
    have bel_63 := Lib.hid (below_setRow ((bH HBD hb55).out) (lb52.out) (arr z))
    have x_64 := Lib.hid (Blk.row (x_53.out) (arr z))
    obtain ⟨w59, hw60⟩ : ∃ w', w' = (w54).setRow g46 (arr z) := ⟨_, rfl⟩
    rw [← hw60] at bg_61 b4_62 bel_63 x_64
    rw [← hw60]
    clear hw60
    refine hK _ _ ?_; clear hK K
    try simp only [Act.put, qsA, qsZ, qsS]
    refine' twY 9 ?_
    try simp only [Act.put, qsA, qsZ, qsS]
    refine wpAny_done (by kernel_rfl) ?_ _
    go_wp2_with (first | (refine wpList_load_row rfl 169 (.tmp 5) rfl _ rfl _ (arr z) (0, 0) _ x_64.out Tryz.underlying169 rfl (size_sums HL.out) ?_) | (refine wpList_store_row rfl 169 (.tmp 4) (.tmp 14) rfl _ (arr z) rfl rfl _ (arr zeros) b4_62.out (size_sums HL.out) ((arr_size _).trans (zeros_length.trans (HL.out.symm.trans (arr_size _).symm))) (arr_one _) ?_))
    refine bodyPost_ret (results_cell_row rfl _ _ (w.heap.size + 1) 169 (arr z) (0, 0) _ rfl (Blk.row (b4_62.out) (arr z)) Tryz.underlying169 rfl (size_sums HL.out)) rfl ?_
    exact ⟨rfl, below_setRow (bel_63.out) (by omega) _⟩
   exact AllReady.nil
  refine rdY rfl (fun K hK => ?_) ?_
  · -- 7: alloc
   rw [if_pos (by rfl)]
   refine wp_alloc_row 169 rfl (arr zeros) zero_sums.1 ?_
   have ne70 := Lib.hid (Nat.ne_of_lt (Blk.lt B0.out))
   have ne71 := Lib.hid (Nat.ne_of_lt (Blk.lt B2.out))
   have lb72 := Lib.hid (HBD.out.size)
   obtain ⟨o_, ho_⟩ : ∃ o, o = (.cells (arr zeros) 169 : Obj) := ⟨_, rfl⟩
   replace B0 := kA B0 o_
   replace B2 := kA B2 o_
   replace HBD := bA HBD o_
   subst ho_
   have x_73 := Lib.hid (Blk.new (((w.alloc (.cells #[.int .i64 (p : Int), .slice A n c] 136)).alloc (.cells (arr zeros) 169)).drew) 169 (arr zeros))
   obtain ⟨g66, hg67⟩ : ∃ g, g = (((w.alloc (.cells #[.int .i64 (p : Int), .slice A n c] 136)).alloc (.cells (arr zeros) 169)).drew).heap.size := ⟨_, rfl⟩
   obtain ⟨w68, hw69⟩ : ∃ w', w' = (((w.alloc (.cells #[.int .i64 (p : Int), .slice A n c] 136)).alloc (.cells (arr zeros) 169)).drew).alloc (.cells (arr zeros) 169) := ⟨_, rfl⟩
   rw [← hw69] at B0 B2 HBD x_73
   rw [← hg67] at ne70 ne71 lb72 x_73
   rw [← hg67, ← hw69]
   clear hg67 hw69
   refine hK _ _ ?_; clear hK K
   try simp only [Act.put, qsA, qsZ, qsS]
   refine oneY 2 rfl fun K hK => ?_
   go_simp
   go_at_call 174
   refine (HC1.out _).mono ?_
   rintro e w74 ⟨rfl, hb75⟩
   dsimp only
   replace hb75 := Lib.hid hb75
   refine hK _ _ ?_; clear hK K
   try simp only [Act.put, qsA, qsZ, qsS]
   refine oneY 3 rfl fun K hK => ?_
   replace HBD := bH HBD hb75
   go_simp
   go_at_call 171
   refine (HC2.out _ HBD.out).mono ?_
   rintro e w76 ⟨rfl, hb77⟩
   dsimp only
   replace hb77 := Lib.hid hb77
   refine hK _ _ ?_; clear hK K
   try simp only [Act.put, qsA, qsZ, qsS]
   refine' twY 4 ?_
   refine' twY 5 ?_
   refine' twY 6 ?_
   try simp only [Act.put, qsA, qsZ, qsS]
   refine oneY 8 rfl fun K hK => ?_
   replace x_73 := kH (kH x_73 hb75) hb77
   rw [if_pos (by rfl)]
   refine wp_store_row 169 (.tmp 5) (.tmp 12) rfl _ (arr z) rfl rfl 169 (arr zeros) x_73.out (size_sums HL.out) ((arr_size _).trans (zeros_length.trans (HL.out.symm.trans (arr_size _).symm))) (arr_one _) ?_
   have bg_83 := Lib.hid (Blk.rowFar ((kH (kH B0 hb75) hb77).out) (ne70.out) (arr z))
   have b4_84 := Lib.hid (Blk.rowFar ((kH (kH B2 hb75) hb77).out) (ne71.out) (arr z))
   have bel_85 := Lib.hid (below_setRow ((bH HBD hb77).out) (lb72.out) (arr z))
   have x_86 := Lib.hid (Blk.row (x_73.out) (arr z))
   obtain ⟨w81, hw82⟩ : ∃ w', w' = (w76).setRow g66 (arr z) := ⟨_, rfl⟩
   rw [← hw82] at bg_83 b4_84 bel_85 x_86
   rw [← hw82]
   clear hw82
   refine hK _ _ ?_; clear hK K
   try simp only [Act.put, qsA, qsZ, qsS]
   refine' twY 9 ?_
   try simp only [Act.put, qsA, qsZ, qsS]
   refine wpAny_done (by kernel_rfl) ?_ _
   go_wp2_with (first | (refine wpList_load_row rfl 169 (.tmp 5) rfl _ rfl _ (arr z) (0, 0) _ x_86.out Tryz.underlying169 rfl (size_sums HL.out) ?_) | (refine wpList_store_row rfl 169 (.tmp 4) (.tmp 14) rfl _ (arr z) rfl rfl _ (arr zeros) b4_84.out (size_sums HL.out) ((arr_size _).trans (zeros_length.trans (HL.out.symm.trans (arr_size _).symm))) (arr_one _) ?_))
   refine bodyPost_ret (results_cell_row rfl _ _ (w.heap.size + 1) 169 (arr z) (0, 0) _ rfl (Blk.row (b4_84.out) (arr z)) Tryz.underlying169 rfl (size_sums HL.out)) rfl ?_
   exact ⟨rfl, below_setRow (bel_85.out) (by omega) _⟩
  exact AllReady.nil
 refine rdY rfl (fun K hK => ?_) ?_
 · -- 2: call
  go_simp
  go_at_call 174
  refine (HC1.out _).mono ?_
  rintro e w88 ⟨rfl, hb89⟩
  dsimp only
  replace hb89 := Lib.hid hb89
  refine hK _ _ ?_; clear hK K
  try simp only [Act.put, qsA, qsZ, qsS]
  refine wpAny_ready (rs := [0, 7]) (by kernel_rfl) (by simp) ?_
  refine rdY rfl (fun K hK => ?_) ?_
  · -- 0: load
   replace B0 := kH B0 hb89
   rw [if_pos (by rfl)]
   refine wp_load_row 136 (.tmp 2) rfl w.heap.size rfl 136 #[.int .i64 (p : Int), .slice A n c] (0, 0) _ B0.out Tryz.underlying136 rfl (by kernel_rfl) ?_
   refine hK _ _ ?_; clear hK K
   try simp only [Act.put, qsA, qsZ, qsS]
   refine wpAny_ready (rs := [3, 7]) (by kernel_rfl) (by simp) ?_
   refine rdY rfl (fun K hK => ?_) ?_
   · -- 3: call
    replace HBD := bH HBD hb89
    go_simp
    go_at_call 171
    refine (HC2.out _ HBD.out).mono ?_
    rintro e w90 ⟨rfl, hb91⟩
    dsimp only
    replace hb91 := Lib.hid hb91
    refine hK _ _ ?_; clear hK K
    try simp only [Act.put, qsA, qsZ, qsS]
    refine' twY 4 ?_
    refine' twY 5 ?_
    refine' twY 6 ?_
    try simp only [Act.put, qsA, qsZ, qsS]
    refine oneY 7 rfl fun K hK => ?_
    replace B0 := kH B0 hb91
    replace B2 := kH (kH B2 hb89) hb91
    replace HBD := bH HBD hb91
    rw [if_pos (by rfl)]
    refine wp_alloc_row 169 rfl (arr zeros) zero_sums.1 ?_
    have ne99 := Lib.hid (Nat.ne_of_lt (Blk.lt B0.out))
    have ne100 := Lib.hid (Nat.ne_of_lt (Blk.lt B2.out))
    have lb101 := Lib.hid (HBD.out.size)
    obtain ⟨o_, ho_⟩ : ∃ o, o = (.cells (arr zeros) 169 : Obj) := ⟨_, rfl⟩
    replace B0 := kA B0 o_
    replace B2 := kA B2 o_
    replace HBD := bA HBD o_
    subst ho_
    have x_102 := Lib.hid (Blk.new (w90) 169 (arr zeros))
    obtain ⟨g95, hg96⟩ : ∃ g, g = (w90).heap.size := ⟨_, rfl⟩
    obtain ⟨w97, hw98⟩ : ∃ w', w' = (w90).alloc (.cells (arr zeros) 169) := ⟨_, rfl⟩
    rw [← hw98] at B0 B2 HBD x_102
    rw [← hg96] at ne99 ne100 lb101 x_102
    rw [← hg96, ← hw98]
    clear hg96 hw98
    refine hK _ _ ?_; clear hK K
    try simp only [Act.put, qsA, qsZ, qsS]
    refine oneY 8 rfl fun K hK => ?_
    rw [if_pos (by rfl)]
    refine wp_store_row 169 (.tmp 5) (.tmp 12) rfl _ (arr z) rfl rfl 169 (arr zeros) x_102.out (size_sums HL.out) ((arr_size _).trans (zeros_length.trans (HL.out.symm.trans (arr_size _).symm))) (arr_one _) ?_
    have bg_105 := Lib.hid (Blk.rowFar (B0.out) (ne99.out) (arr z))
    have b4_106 := Lib.hid (Blk.rowFar (B2.out) (ne100.out) (arr z))
    have bel_107 := Lib.hid (below_setRow (HBD.out) (lb101.out) (arr z))
    have x_108 := Lib.hid (Blk.row (x_102.out) (arr z))
    obtain ⟨w103, hw104⟩ : ∃ w', w' = (w97).setRow g95 (arr z) := ⟨_, rfl⟩
    rw [← hw104] at bg_105 b4_106 bel_107 x_108
    rw [← hw104]
    clear hw104
    refine hK _ _ ?_; clear hK K
    try simp only [Act.put, qsA, qsZ, qsS]
    refine' twY 9 ?_
    try simp only [Act.put, qsA, qsZ, qsS]
    refine wpAny_done (by kernel_rfl) ?_ _
    go_wp2_with (first | (refine wpList_load_row rfl 169 (.tmp 5) rfl _ rfl _ (arr z) (0, 0) _ x_108.out Tryz.underlying169 rfl (size_sums HL.out) ?_) | (refine wpList_store_row rfl 169 (.tmp 4) (.tmp 14) rfl _ (arr z) rfl rfl _ (arr zeros) b4_106.out (size_sums HL.out) ((arr_size _).trans (zeros_length.trans (HL.out.symm.trans (arr_size _).symm))) (arr_one _) ?_))
    refine bodyPost_ret (results_cell_row rfl _ _ (w.heap.size + 1) 169 (arr z) (0, 0) _ rfl (Blk.row (b4_106.out) (arr z)) Tryz.underlying169 rfl (size_sums HL.out)) rfl ?_
    exact ⟨rfl, below_setRow (bel_107.out) (by omega) _⟩
   refine rdY rfl (fun K hK => ?_) ?_
   · -- 7: alloc
    replace B2 := kH B2 hb89
    replace HBD := bH HBD hb89
    rw [if_pos (by rfl)]
    refine wp_alloc_row 169 rfl (arr zeros) zero_sums.1 ?_
    have ne114 := Lib.hid (Nat.ne_of_lt (Blk.lt B0.out))
    have ne115 := Lib.hid (Nat.ne_of_lt (Blk.lt B2.out))
    have lb116 := Lib.hid (HBD.out.size)
    obtain ⟨o_, ho_⟩ : ∃ o, o = (.cells (arr zeros) 169 : Obj) := ⟨_, rfl⟩
    replace B0 := kA B0 o_
    replace B2 := kA B2 o_
    replace HBD := bA HBD o_
    subst ho_
    have x_117 := Lib.hid (Blk.new (w88) 169 (arr zeros))
    obtain ⟨g110, hg111⟩ : ∃ g, g = (w88).heap.size := ⟨_, rfl⟩
    obtain ⟨w112, hw113⟩ : ∃ w', w' = (w88).alloc (.cells (arr zeros) 169) := ⟨_, rfl⟩
    rw [← hw113] at B0 B2 HBD x_117
    rw [← hg111] at ne114 ne115 lb116 x_117
    rw [← hg111, ← hw113]
    clear hg111 hw113
    refine hK _ _ ?_; clear hK K
    try simp only [Act.put, qsA, qsZ, qsS]
    refine oneY 3 rfl fun K hK => ?_
    go_simp
    go_at_call 171
    refine (HC2.out _ HBD.out).mono ?_
    rintro e w118 ⟨rfl, hb119⟩
    dsimp only
    replace hb119 := Lib.hid hb119
    refine hK _ _ ?_; clear hK K
    try simp only [Act.put, qsA, qsZ, qsS]
    refine' twY 4 ?_
    refine' twY 5 ?_
    refine' twY 6 ?_
    try simp only [Act.put, qsA, qsZ, qsS]
    refine oneY 8 rfl fun K hK => ?_
    replace x_117 := kH x_117 hb119
    rw [if_pos (by rfl)]
    refine wp_store_row 169 (.tmp 5) (.tmp 12) rfl _ (arr z) rfl rfl 169 (arr zeros) x_117.out (size_sums HL.out) ((arr_size _).trans (zeros_length.trans (HL.out.symm.trans (arr_size _).symm))) (arr_one _) ?_
    have bg_125 := Lib.hid (Blk.rowFar ((kH B0 hb119).out) (ne114.out) (arr z))
    have b4_126 := Lib.hid (Blk.rowFar ((kH B2 hb119).out) (ne115.out) (arr z))
    have bel_127 := Lib.hid (below_setRow ((bH HBD hb119).out) (lb116.out) (arr z))
    have x_128 := Lib.hid (Blk.row (x_117.out) (arr z))
    obtain ⟨w123, hw124⟩ : ∃ w', w' = (w118).setRow g110 (arr z) := ⟨_, rfl⟩
    rw [← hw124] at bg_125 b4_126 bel_127 x_128
    rw [← hw124]
    clear hw124
    refine hK _ _ ?_; clear hK K
    try simp only [Act.put, qsA, qsZ, qsS]
    refine' twY 9 ?_
    try simp only [Act.put, qsA, qsZ, qsS]
    refine wpAny_done (by kernel_rfl) ?_ _
    go_wp2_with (first | (refine wpList_load_row rfl 169 (.tmp 5) rfl _ rfl _ (arr z) (0, 0) _ x_128.out Tryz.underlying169 rfl (size_sums HL.out) ?_) | (refine wpList_store_row rfl 169 (.tmp 4) (.tmp 14) rfl _ (arr z) rfl rfl _ (arr zeros) b4_126.out (size_sums HL.out) ((arr_size _).trans (zeros_length.trans (HL.out.symm.trans (arr_size _).symm))) (arr_one _) ?_))
    refine bodyPost_ret (results_cell_row rfl _ _ (w.heap.size + 1) 169 (arr z) (0, 0) _ rfl (Blk.row (b4_126.out) (arr z)) Tryz.underlying169 rfl (size_sums HL.out)) rfl ?_
    exact ⟨rfl, below_setRow (bel_127.out) (by omega) _⟩
   exact AllReady.nil
  refine rdY rfl (fun K hK => ?_) ?_
  · -- 7: alloc
   replace B0 := kH B0 hb89
   replace B2 := kH B2 hb89
   replace HBD := bH HBD hb89
   rw [if_pos (by rfl)]
   refine wp_alloc_row 169 rfl (arr zeros) zero_sums.1 ?_
   have ne134 := Lib.hid (Nat.ne_of_lt (Blk.lt B0.out))
   have ne135 := Lib.hid (Nat.ne_of_lt (Blk.lt B2.out))
   have lb136 := Lib.hid (HBD.out.size)
   obtain ⟨o_, ho_⟩ : ∃ o, o = (.cells (arr zeros) 169 : Obj) := ⟨_, rfl⟩
   replace B0 := kA B0 o_
   replace B2 := kA B2 o_
   replace HBD := bA HBD o_
   subst ho_
   have x_137 := Lib.hid (Blk.new (w88) 169 (arr zeros))
   obtain ⟨g130, hg131⟩ : ∃ g, g = (w88).heap.size := ⟨_, rfl⟩
   obtain ⟨w132, hw133⟩ : ∃ w', w' = (w88).alloc (.cells (arr zeros) 169) := ⟨_, rfl⟩
   rw [← hw133] at B0 B2 HBD x_137
   rw [← hg131] at ne134 ne135 lb136 x_137
   rw [← hg131, ← hw133]
   clear hg131 hw133
   refine hK _ _ ?_; clear hK K
   try simp only [Act.put, qsA, qsZ, qsS]
   refine oneY 0 rfl fun K hK => ?_
   rw [if_pos (by rfl)]
   refine wp_load_row 136 (.tmp 2) rfl w.heap.size rfl 136 #[.int .i64 (p : Int), .slice A n c] (0, 0) _ B0.out Tryz.underlying136 rfl (by kernel_rfl) ?_
   refine hK _ _ ?_; clear hK K
   try simp only [Act.put, qsA, qsZ, qsS]
   refine oneY 3 rfl fun K hK => ?_
   go_simp
   go_at_call 171
   refine (HC2.out _ HBD.out).mono ?_
   rintro e w138 ⟨rfl, hb139⟩
   dsimp only
   replace hb139 := Lib.hid hb139
   refine hK _ _ ?_; clear hK K
   try simp only [Act.put, qsA, qsZ, qsS]
   refine' twY 4 ?_
   refine' twY 5 ?_
   refine' twY 6 ?_
   try simp only [Act.put, qsA, qsZ, qsS]
   refine oneY 8 rfl fun K hK => ?_
   replace x_137 := kH x_137 hb139
   rw [if_pos (by rfl)]
   refine wp_store_row 169 (.tmp 5) (.tmp 12) rfl _ (arr z) rfl rfl 169 (arr zeros) x_137.out (size_sums HL.out) ((arr_size _).trans (zeros_length.trans (HL.out.symm.trans (arr_size _).symm))) (arr_one _) ?_
   have bg_145 := Lib.hid (Blk.rowFar ((kH B0 hb139).out) (ne134.out) (arr z))
   have b4_146 := Lib.hid (Blk.rowFar ((kH B2 hb139).out) (ne135.out) (arr z))
   have bel_147 := Lib.hid (below_setRow ((bH HBD hb139).out) (lb136.out) (arr z))
   have x_148 := Lib.hid (Blk.row (x_137.out) (arr z))
   obtain ⟨w143, hw144⟩ : ∃ w', w' = (w138).setRow g130 (arr z) := ⟨_, rfl⟩
   rw [← hw144] at bg_145 b4_146 bel_147 x_148
   rw [← hw144]
   clear hw144
   refine hK _ _ ?_; clear hK K
   try simp only [Act.put, qsA, qsZ, qsS]
   refine' twY 9 ?_
   try simp only [Act.put, qsA, qsZ, qsS]
   refine wpAny_done (by kernel_rfl) ?_ _
   go_wp2_with (first | (refine wpList_load_row rfl 169 (.tmp 5) rfl _ rfl _ (arr z) (0, 0) _ x_148.out Tryz.underlying169 rfl (size_sums HL.out) ?_) | (refine wpList_store_row rfl 169 (.tmp 4) (.tmp 14) rfl _ (arr z) rfl rfl _ (arr zeros) b4_146.out (size_sums HL.out) ((arr_size _).trans (zeros_length.trans (HL.out.symm.trans (arr_size _).symm))) (arr_one _) ?_))
   refine bodyPost_ret (results_cell_row rfl _ _ (w.heap.size + 1) 169 (arr z) (0, 0) _ rfl (Blk.row (b4_146.out) (arr z)) Tryz.underlying169 rfl (size_sums HL.out)) rfl ?_
   exact ⟨rfl, below_setRow (bel_147.out) (by omega) _⟩
  exact AllReady.nil
 refine rdY rfl (fun K hK => ?_) ?_
 · -- 7: alloc
  rw [if_pos (by rfl)]
  refine wp_alloc_row 169 rfl (arr zeros) zero_sums.1 ?_
  have ne154 := Lib.hid (Nat.ne_of_lt (Blk.lt B0.out))
  have ne155 := Lib.hid (Nat.ne_of_lt (Blk.lt B2.out))
  have lb156 := Lib.hid (HBD.out.size)
  obtain ⟨o_, ho_⟩ : ∃ o, o = (.cells (arr zeros) 169 : Obj) := ⟨_, rfl⟩
  replace B0 := kA B0 o_
  replace B2 := kA B2 o_
  replace HBD := bA HBD o_
  subst ho_
  have x_157 := Lib.hid (Blk.new (((w.alloc (.cells #[.int .i64 (p : Int), .slice A n c] 136)).alloc (.cells (arr zeros) 169)).drew) 169 (arr zeros))
  obtain ⟨g150, hg151⟩ : ∃ g, g = (((w.alloc (.cells #[.int .i64 (p : Int), .slice A n c] 136)).alloc (.cells (arr zeros) 169)).drew).heap.size := ⟨_, rfl⟩
  obtain ⟨w152, hw153⟩ : ∃ w', w' = (((w.alloc (.cells #[.int .i64 (p : Int), .slice A n c] 136)).alloc (.cells (arr zeros) 169)).drew).alloc (.cells (arr zeros) 169) := ⟨_, rfl⟩
  rw [← hw153] at B0 B2 HBD x_157
  rw [← hg151] at ne154 ne155 lb156 x_157
  rw [← hg151, ← hw153]
  clear hg151 hw153
  refine hK _ _ ?_; clear hK K
  try simp only [Act.put, qsA, qsZ, qsS]
  refine wpAny_ready (rs := [0, 2]) (by kernel_rfl) (by simp) ?_
  refine rdY rfl (fun K hK => ?_) ?_
  · -- 0: load
   rw [if_pos (by rfl)]
   refine wp_load_row 136 (.tmp 2) rfl w.heap.size rfl 136 #[.int .i64 (p : Int), .slice A n c] (0, 0) _ B0.out Tryz.underlying136 rfl (by kernel_rfl) ?_
   refine hK _ _ ?_; clear hK K
   try simp only [Act.put, qsA, qsZ, qsS]
   refine oneY 2 rfl fun K hK => ?_
   go_simp
   go_at_call 174
   refine (HC1.out _).mono ?_
   rintro e w158 ⟨rfl, hb159⟩
   dsimp only
   replace hb159 := Lib.hid hb159
   refine hK _ _ ?_; clear hK K
   try simp only [Act.put, qsA, qsZ, qsS]
   refine oneY 3 rfl fun K hK => ?_
   replace HBD := bH HBD hb159
   go_simp
   go_at_call 171
   refine (HC2.out _ HBD.out).mono ?_
   rintro e w160 ⟨rfl, hb161⟩
   dsimp only
   replace hb161 := Lib.hid hb161
   refine hK _ _ ?_; clear hK K
   try simp only [Act.put, qsA, qsZ, qsS]
   refine' twY 4 ?_
   refine' twY 5 ?_
   refine' twY 6 ?_
   try simp only [Act.put, qsA, qsZ, qsS]
   refine oneY 8 rfl fun K hK => ?_
   replace x_157 := kH (kH x_157 hb159) hb161
   rw [if_pos (by rfl)]
   refine wp_store_row 169 (.tmp 5) (.tmp 12) rfl _ (arr z) rfl rfl 169 (arr zeros) x_157.out (size_sums HL.out) ((arr_size _).trans (zeros_length.trans (HL.out.symm.trans (arr_size _).symm))) (arr_one _) ?_
   have bg_167 := Lib.hid (Blk.rowFar ((kH (kH B0 hb159) hb161).out) (ne154.out) (arr z))
   have b4_168 := Lib.hid (Blk.rowFar ((kH (kH B2 hb159) hb161).out) (ne155.out) (arr z))
   have bel_169 := Lib.hid (below_setRow ((bH HBD hb161).out) (lb156.out) (arr z))
   have x_170 := Lib.hid (Blk.row (x_157.out) (arr z))
   obtain ⟨w165, hw166⟩ : ∃ w', w' = (w160).setRow g150 (arr z) := ⟨_, rfl⟩
   rw [← hw166] at bg_167 b4_168 bel_169 x_170
   rw [← hw166]
   clear hw166
   refine hK _ _ ?_; clear hK K
   try simp only [Act.put, qsA, qsZ, qsS]
   refine' twY 9 ?_
   try simp only [Act.put, qsA, qsZ, qsS]
   refine wpAny_done (by kernel_rfl) ?_ _
   go_wp2_with (first | (refine wpList_load_row rfl 169 (.tmp 5) rfl _ rfl _ (arr z) (0, 0) _ x_170.out Tryz.underlying169 rfl (size_sums HL.out) ?_) | (refine wpList_store_row rfl 169 (.tmp 4) (.tmp 14) rfl _ (arr z) rfl rfl _ (arr zeros) b4_168.out (size_sums HL.out) ((arr_size _).trans (zeros_length.trans (HL.out.symm.trans (arr_size _).symm))) (arr_one _) ?_))
   refine bodyPost_ret (results_cell_row rfl _ _ (w.heap.size + 1) 169 (arr z) (0, 0) _ rfl (Blk.row (b4_168.out) (arr z)) Tryz.underlying169 rfl (size_sums HL.out)) rfl ?_
   exact ⟨rfl, below_setRow (bel_169.out) (by omega) _⟩
  refine rdY rfl (fun K hK => ?_) ?_
  · -- 2: call
   go_simp
   go_at_call 174
   refine (HC1.out _).mono ?_
   rintro e w172 ⟨rfl, hb173⟩
   dsimp only
   replace hb173 := Lib.hid hb173
   refine hK _ _ ?_; clear hK K
   try simp only [Act.put, qsA, qsZ, qsS]
   refine oneY 0 rfl fun K hK => ?_
   replace B0 := kH B0 hb173
   rw [if_pos (by rfl)]
   refine wp_load_row 136 (.tmp 2) rfl w.heap.size rfl 136 #[.int .i64 (p : Int), .slice A n c] (0, 0) _ B0.out Tryz.underlying136 rfl (by kernel_rfl) ?_
   refine hK _ _ ?_; clear hK K
   try simp only [Act.put, qsA, qsZ, qsS]
   refine oneY 3 rfl fun K hK => ?_
   replace HBD := bH HBD hb173
   go_simp
   go_at_call 171
   refine (HC2.out _ HBD.out).mono ?_
   rintro e w174 ⟨rfl, hb175⟩
   dsimp only
   replace hb175 := Lib.hid hb175
   refine hK _ _ ?_; clear hK K
   try simp only [Act.put, qsA, qsZ, qsS]
   refine' twY 4 ?_
   refine' twY 5 ?_
   refine' twY 6 ?_
   try simp only [Act.put, qsA, qsZ, qsS]
   refine oneY 8 rfl fun K hK => ?_
   replace x_157 := kH (kH x_157 hb173) hb175
   rw [if_pos (by rfl)]
   refine wp_store_row 169 (.tmp 5) (.tmp 12) rfl _ (arr z) rfl rfl 169 (arr zeros) x_157.out (size_sums HL.out) ((arr_size _).trans (zeros_length.trans (HL.out.symm.trans (arr_size _).symm))) (arr_one _) ?_
   have bg_181 := Lib.hid (Blk.rowFar ((kH B0 hb175).out) (ne154.out) (arr z))
   have b4_182 := Lib.hid (Blk.rowFar ((kH (kH B2 hb173) hb175).out) (ne155.out) (arr z))
   have bel_183 := Lib.hid (below_setRow ((bH HBD hb175).out) (lb156.out) (arr z))
   have x_184 := Lib.hid (Blk.row (x_157.out) (arr z))
   obtain ⟨w179, hw180⟩ : ∃ w', w' = (w174).setRow g150 (arr z) := ⟨_, rfl⟩
   rw [← hw180] at bg_181 b4_182 bel_183 x_184
   rw [← hw180]
   clear hw180
   refine hK _ _ ?_; clear hK K
   try simp only [Act.put, qsA, qsZ, qsS]
   refine' twY 9 ?_
   try simp only [Act.put, qsA, qsZ, qsS]
   refine wpAny_done (by kernel_rfl) ?_ _
   go_wp2_with (first | (refine wpList_load_row rfl 169 (.tmp 5) rfl _ rfl _ (arr z) (0, 0) _ x_184.out Tryz.underlying169 rfl (size_sums HL.out) ?_) | (refine wpList_store_row rfl 169 (.tmp 4) (.tmp 14) rfl _ (arr z) rfl rfl _ (arr zeros) b4_182.out (size_sums HL.out) ((arr_size _).trans (zeros_length.trans (HL.out.symm.trans (arr_size _).symm))) (arr_one _) ?_))
   refine bodyPost_ret (results_cell_row rfl _ _ (w.heap.size + 1) 169 (arr z) (0, 0) _ rfl (Blk.row (b4_182.out) (arr z)) Tryz.underlying169 rfl (size_sums HL.out)) rfl ?_
   exact ⟨rfl, below_setRow (bel_183.out) (by omega) _⟩
  exact AllReady.nil
 exact AllReady.nil
end Go.Proofs.YtaoanagmgheicaaGreat
