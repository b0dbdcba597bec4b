/- solution, start, from: sums from zeros, and from a point. -/
import Derived.Test.YthlnialipjihdaaSet
set_option linter.unusedSimpArgs false
set_option linter.unusedVariables false
namespace Go.Proofs.Ythlnialipjihdaa
open Go.RowKit

theorem settle_len {l : List Bnd} {p : Nat} {x y : List Int} (h : settle l p x = some y) : y.length = x.length := by
  obtain ⟨k, _, e, _⟩ := settle_some h
  rw [e, rounds_length]

/-- What settled hands back. -/
def setL (l : List Bnd) (p : Nat) (x : List Int) : List Int := (settle l p x).getD zeros
theorem setL_length {l : List Bnd} {p : Nat} {x : List Int} (hx : x.length = 60) : (setL l p x).length = 60 := by
  unfold setL
  cases h : settle l p x with
  | none => rfl
  | some y => exact (settle_len h).trans hx

theorem settled_f (p : Nat) (A : Option Addr) (n c : Nat) (l : List Bnd) (x : List Int) (hx : Wd 800000000000 x) (hp : p ≤ 60) (hn400 : n ≤ 402) (hok : OkB l) (w : World) (hr : RdB w A n c l) :
    Calls Try.prog 105 #[.agg #[.int .i64 (p : Int), .slice A n c], .agg (arr x)] w fun e w' => e = .returned (.tuple #[.agg (arr (setL l p x)), .bool (settle l p x).isSome]) ∧ Below w.heap.size w w' :=
  (settled_any p A n c l x hx hp hn400 hok w hr).mono fun e w' h => by
    obtain ⟨y, ok, _, rfl, hb, ⟨rfl, h1⟩ | ⟨rfl, h1, h2⟩⟩ := h
    · unfold setL; rw [h1]; exact ⟨rfl, hb⟩
    · unfold setL; rw [h1, h2]; exact ⟨rfl, hb⟩

theorem at_zeros (i : Nat) : at_ zeros i = 0 := by
  unfold at_ zeros
  rw [List.getD_eq_getElem?_getD, List.getElem?_replicate]
  split <;> rfl
theorem wd_zeros {r : Int} (h : 0 ≤ r) : Wd r zeros := ⟨rfl, fun i _ => .inr (by rw [at_zeros]; omega)⟩

set_option maxHeartbeats 1000000 in
theorem solution_any (p : Nat) (A : Option Addr) (n c : Nat) (l : List Bnd) (hp : p ≤ 60) (hn400 : n ≤ 402) (hok : OkB l) (w : World) (hr : RdB w A n c l) :
    Calls Try.prog 70 #[.agg #[.int .i64 (p : Int), .slice A n c]] w fun e w' => e = .returned (.tuple #[.agg (arr (setL l p zeros)), .bool (settle l p zeros).isSome]) ∧ Below w.heap.size w w' := by
  have hl := setL_length (l := l) (p := p) zeros_length
  have hB : Below w.heap.size w ((w.alloc (.cells #[.int .i64 (p : Int), .slice A n c] 70)).alloc (.cells (arr zeros) 79)) := ((Below.refl _ w).alloc (Nat.le_refl _) _).alloc (by simp) _
  have hr2 := hr.below hB
  have hc := settled_f p A n c l zeros (wd_zeros (by omega)) hp hn400 hok _ hr2
  have b2 := Blk.new (w.alloc (.cells #[.int .i64 (p : Int), .slice A n c] 70)) 79 (arr zeros)
  simp only [World.size_alloc] at b2
  generalize settle l p zeros = q at *
  generalize setL l p zeros = z at *
  have HC := Lib.hid hc; have B2 := Lib.hid b2; have HL := Lib.hid hl; clear hc b2 hr2 hr hl
  go_enter Try.func70, Try.ntmps70
  go_wp2_with (first | (refine wpList_alloc_row rfl 79 rfl (arr zeros) zero_sums.1 ?_; simp only [World.size_alloc]) | (refine wpList_build0 rfl 79 rfl (arr zeros) built_sums ?_))
  refine HC.out.mono ?_
  rintro e w1 ⟨rfl, hb1⟩
  have b3 := B2.out.keep hb1
  have B3 := Lib.hid b3; clear b3
  go_wp2_with (first | (refine wpList_store_row rfl 79 (.tmp 2) (.tmp 7) rfl _ (arr z) rfl rfl _ (arr zeros) B3.out (size_sums HL.out) ((arr_size _).trans (zeros_length.trans (HL.out.symm.trans (arr_size _).symm))) (arr_one _) ?_))
  refine bodyPost_ret (results_row_tmp rfl _ _ (w.heap.size + 1) 79 (arr z) (0, 0) _ rfl (B3.out.row (arr z)) Try.underlying79 rfl (size_sums HL.out)) rfl ?_
  exact ⟨rfl, below_setRow (hB.trans (hb1.mono hB.size)) (by omega) _⟩

/-- No sums yet but that of a point itself. -/
def startL (a : Nat) : List Int := (List.replicate 60 Inf).set a 0
def startK (k : Nat) : List Int := List.replicate k Inf ++ List.replicate (60 - k) 0
theorem startK_length {k : Nat} (h : k ≤ 60) : (startK k).length = 60 := by simp [startK]; omega
theorem startK_set {k : Nat} (h : k < 60) : (startK k).set k Inf = startK (k + 1) := by
  unfold startK
  obtain ⟨d, hd⟩ : ∃ d, 60 - k = d + 1 := ⟨60 - k - 1, by omega⟩
  rw [hd, show 60 - (k + 1) = d from by omega, List.set_append_right _ _ (by simp)]
  rw [show List.replicate (d + 1) (0 : Int) = 0 :: List.replicate d 0 from rfl, List.length_replicate, Nat.sub_self, List.set_cons_zero, show List.replicate (k + 1) Inf = List.replicate k Inf ++ [Inf] from List.replicate_succ', List.append_assoc]
  rfl
theorem startK_all : startK 60 = List.replicate 60 Inf := by simp [startK]
theorem startL_length (a : Nat) : (startL a).length = 60 := by simp [startL]
theorem at_startL {a : Nat} (ha : a < 60) (i : Nat) (hi : i < 60) : at_ (startL a) i = if a = i then 0 else Inf := by
  unfold startL
  rw [at_set _ _ _ _ (by simpa using ha)]
  split
  · rfl
  · unfold at_
    rw [List.getD_eq_getElem?_getD, List.getElem?_replicate]
    simp [hi]
theorem wd_startL {r : Int} (h : 0 ≤ r) {a : Nat} (ha : a < 60) : Wd r (startL a) := ⟨startL_length a, fun i hi => by
  rw [at_startL ha i hi]
  split
  · exact .inr (by omega)
  · exact .inl rfl⟩

set_option maxHeartbeats 1000000 in
theorem start_any (a : Nat) (ha : a < 60) (w : World) :
    Calls Try.prog 109 #[.int .i64 (a : Int)] w fun e w' => e = .returned (.agg (arr (startL a))) ∧ Below w.heap.size w w' := by
  have b0 := (Blk.new w 79 (arr zeros)).alloc (.cells (arr zeros) 79)
  have b1 := Blk.new (w.alloc (.cells (arr zeros) 79)) 79 (arr zeros)
  simp only [World.size_alloc] at b1
  have hB : Below w.heap.size w ((w.alloc (.cells (arr zeros) 79)).alloc (.cells (arr zeros) 79)) := ((Below.refl _ w).alloc (Nat.le_refl _) _).alloc (by simp) _
  have B0 := Lib.hid b0; have B1 := Lib.hid b1; clear b0 b1
  go_enter Try.func109, Try.ntmps109
  go_wp2_with (first | (refine wpList_alloc_row rfl 79 rfl (arr zeros) zero_sums.1 ?_; simp only [World.size_alloc]))
  go_loopw [5] (fun i wr => ∃ k : Nat, k ≤ 60 ∧ i = .int .i64 k ∧ Blk wr (w.heap.size + 1) 79 (arr (startK k)) ∧ Blk wr w.heap.size 79 (arr zeros) ∧ Below w.heap.size w wr) (fun i _ => 60 - (intOf i).toNat)
  case atStart => exact ⟨0, by omega, rfl, B1.out, B0.out, hB⟩
  case round =>
    obtain ⟨k, hk, rfl, c1, c0, hBr⟩ := hrel
    have C1 := Lib.hid c1; have C0 := Lib.hid c0; clear c1 c0
    by_cases hlt : k < 60
    · have hlt' : (k : Int) < 60 := by omega
      have u0 : wr.cell? ⟨w.heap.size + 1, k, none⟩ = some (.int .i64 (at_ (startK k) k)) := (C1.out.cell k).trans (arr_get _ k (by rw [startK_length hk]; exact hlt))
      have u1 : wr.frozen? ⟨w.heap.size + 1, k, none⟩ = false := C1.out.frozen k
      have hset := C1.out.set_ k (.int .i64 Inf)
      rw [arr_set, startK_set hlt] at hset
      have HS := Lib.hid hset; clear hset
      go_wp2
      go_roundw
      case rel => exact ⟨k + 1, by omega, by go_num, HS.out, C0.out.far (by simp) _, hBr.setCell (p := ⟨w.heap.size + 1, k, none⟩) (by simp) _⟩
      case measure => simp [intOf]; omega
    · obtain rfl : k = 60 := by omega
      have ha' : (a : Int) < 60 := by omega
      have u0 : wr.cell? ⟨w.heap.size + 1, a, none⟩ = some (.int .i64 (at_ (startK 60) a)) := (C1.out.cell a).trans (arr_get _ a (by rw [startK_length hk]; exact ha))
      have u1 : wr.frozen? ⟨w.heap.size + 1, a, none⟩ = false := C1.out.frozen a
      have hset := C1.out.set_ a (.int .i64 0)
      rw [arr_set, startK_all] at hset
      have HS : Hid (Blk (wr.setCell ⟨w.heap.size + 1, a, none⟩ (.int .i64 0)) (w.heap.size + 1) 79 (arr (startL a))) := Lib.hid hset; clear hset
      have hz := C0.out.far (p := ⟨w.heap.size + 1, a, none⟩) (by simp) (.int .i64 0)
      have HZ := Lib.hid hz; clear hz
      go_wp2_with (first | (refine wpList_load_row rfl 79 (.tmp 3) rfl _ rfl _ (arr (startL a)) (0, 0) _ HS.out Try.underlying79 rfl (size_sums (startL_length a)) ?_) | (refine wpList_store_row rfl 79 (.tmp 2) (.tmp 13) rfl _ (arr (startL a)) rfl rfl _ (arr zeros) HZ.out (size_sums (startL_length a)) ((arr_size _).trans (zeros_length.trans ((startL_length a).symm.trans (arr_size _).symm))) (arr_one _) ?_))
      refine bodyPost_ret (results_cell_row rfl _ _ w.heap.size 79 (arr (startL a)) (0, 0) _ rfl (HZ.out.row _) Try.underlying79 rfl (size_sums (startL_length a))) rfl ?_
      exact ⟨rfl, below_setRow (hBr.setCell (p := ⟨w.heap.size + 1, a, none⟩) (by simp) _) (by omega) _⟩


set_option maxRecDepth 100000 in
set_option maxHeartbeats 4000000 in
theorem from_any (p a : Nat) (A : Option Addr) (n c : Nat) (l : List Bnd) (hp : p ≤ 60) (ha : a < 60) (hn400 : n ≤ 402) (hok : OkB l) (w : World) (hr : RdB w A n c l) :
    Calls Try.prog 81 #[.agg #[.int .i64 (p : Int), .slice A n c], .int .i64 (a : Int)] w fun e w' => e = .returned (.agg (arr (setL l p (startL a)))) ∧ Below w.heap.size w w' := by
  have hl := setL_length (l := l) (p := p) (startL_length a)
  have hB : Below w.heap.size w ((w.alloc (.cells #[.int .i64 (p : Int), .slice A n c] 70)).alloc (.cells (arr zeros) 79)).drew := (((Below.refl _ w).alloc (Nat.le_refl _) _).alloc (by simp) _).drew
  have hc1 := start_any a ha
  have hc2 := fun w' hw' => settled_f p A n c l (startL a) (wd_startL (by omega) ha) hp hn400 hok w' (hr.below hw')
  have b0 := ((Blk.new w 70 #[.int .i64 (p : Int), .slice A n c]).alloc (.cells (arr zeros) 79)).drew
  have b2 := (Blk.new (w.alloc (.cells #[.int .i64 (p : Int), .slice A n c] 70)) 79 (arr zeros)).drew
  simp only [World.size_alloc] at b2
  generalize setL l p (startL a) = z at *
  have HL := Lib.hid hl; have HC1 := Lib.hid hc1; have HC2 := Lib.hid hc2; have B0 := Lib.hid b0; have B2 := Lib.hid b2; have HBD := Lib.hid hB; clear hl hc1 hc2 hr b0 b2 hB
  go_enter Try.func81, Try.ntmps81
  go_wp2_with (first | (refine wpList_alloc_row rfl 79 rfl (arr zeros) zero_sums.1 ?_; simp only [World.size_alloc]))
  refine wp_region_any (by kernel_rfl) ?_
  change wpAny _ _ _ _ _ _ _ (World.drew _)
  refine' wpAny_take (i := 1) (oi := { dst := some 9, op := Go.Op.move (Go.Operand.tmp 1), type := 3, pos := "graph.go:129", after := #[], guard := none }) (v := _) rfl (by kernel_rfl) (by kernel_rfl) (by kernel_rfl) (fun _ _ _ h => h) (Or.inl ⟨by rfl, ?hyR641⟩)  ?reR641
  case hyR641 => ((intro w); go_simp; try with_reducible rfl)
  try simp only [Act.put, List.setIfInBounds_toArray, List.set_cons_zero, List.set_cons_succ]
  refine wpAny_ready (rs := [0, 2, 7]) (by kernel_rfl) (by simp) ?_
  refine AllReady.cons (o := { dst := some 8, op := Go.Op.load 70 (Go.Operand.tmp 2), type := 70, pos := "graph.go:129", after := #[], guard := none }) rfl (fun K hK => ?_) ?_
  · -- 0: load
    rw [if_pos (by rfl)]
    refine wp_load_row 70 (.tmp 2) rfl w.heap.size rfl 70 #[.int .i64 (p : Int), .slice A n c] (0, 0) _ B0.out Try.underlying70 rfl (by kernel_rfl) ?_
    refine hK _ _ ?_; clear hK K
    try simp only [Act.put, List.setIfInBounds_toArray, List.set_cons_zero, List.set_cons_succ]
    refine wpAny_ready (rs := [2, 7]) (by kernel_rfl) (by simp) ?_
    refine AllReady.cons (o := { dst := some 10, op := Go.Op.call { callee := Go.Callee.value (Go.Operand.func 109), args := #[Go.Operand.tmp 9], argTypes := #[3] }, type := 79, pos := "graph.go:129", after := #[{ on := 1, ground := Go.Ground.data }], guard := none }) rfl (fun K hK => ?_) ?_
    · -- 2: call
      go_simp
      go_at_call 109
      refine (HC1.out _).mono ?_
      rintro e w642 ⟨rfl, hb643⟩
      dsimp only
      have bg_644 := Lib.hid (Blk.keep (B0.out) hb643)
      have b4_645 := Lib.hid (Blk.keep (B2.out) hb643)
      have bel_646 := Lib.hid (Below.trans (HBD.out) (Below.mono hb643 ((HBD.out).size)))
      refine hK _ _ ?_; clear hK K
      try simp only [Act.put, List.setIfInBounds_toArray, List.set_cons_zero, List.set_cons_succ]
      refine wpAny_ready (rs := [3, 7]) (by kernel_rfl) (by simp) ?_
      refine AllReady.cons (o := { dst := some 11, op := Go.Op.call { callee := Go.Callee.value (Go.Operand.func 105), args := #[Go.Operand.tmp 8, Go.Operand.tmp 10], argTypes := #[70, 79] }, type := 80, pos := "graph.go:129", after := #[{ on := 0, ground := Go.Ground.data }, { on := 2, ground := Go.Ground.data }, { on := 2, ground := Go.Ground.chain }], guard := none }) rfl (fun K hK => ?_) ?_
      · -- 3: call
        go_simp
        go_at_call 105
        refine (HC2.out _ bel_646.out).mono ?_
        rintro e w647 ⟨rfl, hb648⟩
        dsimp only
        have bg_649 := Lib.hid (Blk.keep (bg_644.out) hb648)
        have b4_650 := Lib.hid (Blk.keep (b4_645.out) hb648)
        have bel_651 := Lib.hid (Below.trans (bel_646.out) (Below.mono hb648 ((bel_646.out).size)))
        refine hK _ _ ?_; clear hK K
        try simp only [Act.put, List.setIfInBounds_toArray, List.set_cons_zero, List.set_cons_succ]
        refine' wpAny_take (i := 4) (oi := { dst := some 7, op := Go.Op.move (Go.Operand.tmp 11), type := 80, pos := "graph.go:129", after := #[{ on := 3, ground := Go.Ground.data }], guard := none }) (v := _) rfl (by kernel_rfl) (by kernel_rfl) (by kernel_rfl) (fun _ _ _ h => h) (Or.inl ⟨by rfl, ?hyR652⟩)  ?reR652
        case hyR652 => ((intro w); go_simp; try with_reducible rfl)
        try simp only [Act.put, List.setIfInBounds_toArray, List.set_cons_zero, List.set_cons_succ]
        refine' wpAny_take (i := 5) (oi := { dst := some 12, op := Go.Op.extract (Go.Operand.tmp 7) 0, type := 79, pos := "graph.go:129", after := #[{ on := 4, ground := Go.Ground.data }], guard := none }) (v := _) rfl (by kernel_rfl) (by kernel_rfl) (by kernel_rfl) (fun _ _ _ h => h) (Or.inl ⟨by rfl, ?hyR653⟩)  ?reR653
        case hyR653 => ((intro w); go_simp; try with_reducible rfl)
        try simp only [Act.put, List.setIfInBounds_toArray, List.set_cons_zero, List.set_cons_succ]
        refine' wpAny_take (i := 6) (oi := { dst := some 13, op := Go.Op.extract (Go.Operand.tmp 7) 1, type := 4, pos := "graph.go:129", after := #[{ on := 4, ground := Go.Ground.data }, { on := 8, ground := Go.Ground.gcOnly Go.Departure.lateStores }], guard := none }) (v := _) rfl (by kernel_rfl) (by kernel_rfl) (by kernel_rfl) (fun _ _ _ h => h) (Or.inl ⟨by rfl, ?hyR654⟩)  ?reR654
        case hyR654 => ((intro w); go_simp; try with_reducible rfl)
        try simp only [Act.put, List.setIfInBounds_toArray, List.set_cons_zero, List.set_cons_succ]
        refine wpAny_ready (rs := [7]) (by kernel_rfl) (by simp) ?_
        refine AllReady.cons (o := { dst := some 5, op := Go.Op.alloc 79, type := 0, pos := "graph.go:129", after := #[], guard := none }) rfl (fun K hK => ?_) ?_
        · -- 7: alloc
          rw [if_pos (by rfl)]
          refine wp_alloc_row 79 rfl (arr zeros) zero_sums.1 ?_
          have bg_659 := Lib.hid (Blk.alloc (bg_649.out) (.cells (arr zeros) 79))
          have b4_660 := Lib.hid (Blk.alloc (b4_650.out) (.cells (arr zeros) 79))
          have bel_661 := Lib.hid (Below.alloc (bel_651.out) ((bel_651.out).size) (.cells (arr zeros) 79))
          have ne662 := Lib.hid (Nat.ne_of_lt (Blk.lt bg_649.out))
          have ne663 := Lib.hid (Nat.ne_of_lt (Blk.lt b4_650.out))
          have lb664 := Lib.hid (bel_651.out.size)
          have x_665 := Lib.hid (Blk.new (w647) 79 (arr zeros))
          obtain ⟨g655, hg656⟩ : ∃ g, g = (w647).heap.size := ⟨_, rfl⟩
          obtain ⟨w657, hw658⟩ : ∃ w', w' = (w647).alloc (.cells (arr zeros) 79) := ⟨_, rfl⟩
          rw [← hw658] at bg_659 b4_660 bel_661 x_665
          rw [← hg656] at ne662 ne663 lb664 x_665
          rw [← hg656, ← hw658]
          clear hg656 hw658
          refine hK _ _ ?_; clear hK K
          try simp only [Act.put, List.setIfInBounds_toArray, List.set_cons_zero, List.set_cons_succ]
          refine wpAny_ready (rs := [8]) (by kernel_rfl) (by simp) ?_
          refine AllReady.cons (o := { dst := none, op := Go.Op.store 79 (Go.Operand.tmp 5) (Go.Operand.tmp 12), type := 0, pos := "graph.go:129", after := #[{ on := 7, ground := Go.Ground.data }, { on := 5, ground := Go.Ground.data }, { on := 3, ground := Go.Ground.chain }, { on := 0, ground := Go.Ground.phase }, { on := 1, ground := Go.Ground.phase }, { on := 2, ground := Go.Ground.phase }, { on := 3, ground := Go.Ground.phase }, { on := 4, ground := Go.Ground.phase }, { on := 5, ground := Go.Ground.phase }, { on := 6, ground := Go.Ground.textOnly Go.Departure.lateStores }, { on := 7, ground := Go.Ground.phase }], guard := none }) rfl (fun K hK => ?_) ?_
          · -- 8: store
            rw [if_pos (by rfl)]
            refine wp_store_row 79 (.tmp 5) (.tmp 12) rfl _ (arr z) rfl rfl 79 (arr zeros) x_665.out (size_sums HL.out) ((arr_size _).trans (zeros_length.trans (HL.out.symm.trans (arr_size _).symm))) (arr_one _) ?_
            have bg_668 := Lib.hid (Blk.rowFar (bg_659.out) (ne662.out) (arr z))
            have b4_669 := Lib.hid (Blk.rowFar (b4_660.out) (ne663.out) (arr z))
            have bel_670 := Lib.hid (below_setRow (bel_661.out) (lb664.out) (arr z))
            have x_671 := Lib.hid (Blk.row (x_665.out) (arr z))
            obtain ⟨w666, hw667⟩ : ∃ w', w' = (w657).setRow g655 (arr z) := ⟨_, rfl⟩
            rw [← hw667] at bg_668 b4_669 bel_670 x_671
            rw [← hw667]
            clear hw667
            refine hK _ _ ?_; clear hK K
            try simp only [Act.put, List.setIfInBounds_toArray, List.set_cons_zero, List.set_cons_succ]
            refine' wpAny_take (i := 9) (oi := { dst := some 6, op := Go.Op.assign (Go.Operand.tmp 13), type := 4, pos := "graph.go:129", after := #[{ on := 6, ground := Go.Ground.data }, { on := 8, ground := Go.Ground.chain }, { on := 0, ground := Go.Ground.phase }, { on := 1, ground := Go.Ground.phase }, { on := 2, ground := Go.Ground.phase }, { on := 3, ground := Go.Ground.phase }, { on := 4, ground := Go.Ground.phase }, { on := 5, ground := Go.Ground.phase }, { on := 6, ground := Go.Ground.phase }, { on := 7, ground := Go.Ground.phase }, { on := 8, ground := Go.Ground.phase }], guard := none }) (v := _) rfl (by kernel_rfl) (by kernel_rfl) (by kernel_rfl) (fun _ _ _ h => h) (Or.inl ⟨by rfl, ?hyR672⟩)  ?reR672
            case hyR672 => ((intro w); go_simp; try with_reducible rfl)
            try simp only [Act.put, List.setIfInBounds_toArray, List.set_cons_zero, List.set_cons_succ]
            refine wpAny_done (by kernel_rfl) ?_ _
            go_wp2_with (first | (refine wpList_load_row rfl 79 (.tmp 5) rfl _ rfl _ (arr z) (0, 0) _ x_671.out Try.underlying79 rfl (size_sums HL.out) ?_) | (refine wpList_store_row rfl 79 (.tmp 4) (.tmp 14) rfl _ (arr z) rfl rfl _ (arr zeros) b4_669.out (size_sums HL.out) ((arr_size _).trans (zeros_length.trans (HL.out.symm.trans (arr_size _).symm))) (arr_one _) ?_))
            refine bodyPost_ret (results_cell_row rfl _ _ (w.heap.size + 1) 79 (arr z) (0, 0) _ rfl (Blk.row (b4_669.out) (arr z)) Try.underlying79 rfl (size_sums HL.out)) rfl ?_
            exact ⟨rfl, below_setRow (bel_670.out) (by omega) _⟩
          exact AllReady.nil
        exact AllReady.nil
      refine AllReady.cons (o := { dst := some 5, op := Go.Op.alloc 79, type := 0, pos := "graph.go:129", after := #[], guard := none }) rfl (fun K hK => ?_) ?_
      · -- 7: alloc
        rw [if_pos (by rfl)]
        refine wp_alloc_row 79 rfl (arr zeros) zero_sums.1 ?_
        have bg_677 := Lib.hid (Blk.alloc (bg_644.out) (.cells (arr zeros) 79))
        have b4_678 := Lib.hid (Blk.alloc (b4_645.out) (.cells (arr zeros) 79))
        have bel_679 := Lib.hid (Below.alloc (bel_646.out) ((bel_646.out).size) (.cells (arr zeros) 79))
        have ne680 := Lib.hid (Nat.ne_of_lt (Blk.lt bg_644.out))
        have ne681 := Lib.hid (Nat.ne_of_lt (Blk.lt b4_645.out))
        have lb682 := Lib.hid (bel_646.out.size)
        have x_683 := Lib.hid (Blk.new (w642) 79 (arr zeros))
        obtain ⟨g673, hg674⟩ : ∃ g, g = (w642).heap.size := ⟨_, rfl⟩
        obtain ⟨w675, hw676⟩ : ∃ w', w' = (w642).alloc (.cells (arr zeros) 79) := ⟨_, rfl⟩
        rw [← hw676] at bg_677 b4_678 bel_679 x_683
        rw [← hg674] at ne680 ne681 lb682 x_683
        rw [← hg674, ← hw676]
        clear hg674 hw676
        refine hK _ _ ?_; clear hK K
        try simp only [Act.put, List.setIfInBounds_toArray, List.set_cons_zero, List.set_cons_succ]
        refine wpAny_ready (rs := [3]) (by kernel_rfl) (by simp) ?_
        refine AllReady.cons (o := { dst := some 11, op := Go.Op.call { callee := Go.Callee.value (Go.Operand.func 105), args := #[Go.Operand.tmp 8, Go.Operand.tmp 10], argTypes := #[70, 79] }, type := 80, pos := "graph.go:129", after := #[{ on := 0, ground := Go.Ground.data }, { on := 2, ground := Go.Ground.data }, { on := 2, ground := Go.Ground.chain }], guard := none }) rfl (fun K hK => ?_) ?_
        · -- 3: call
          go_simp
          go_at_call 105
          refine (HC2.out _ bel_679.out).mono ?_
          rintro e w684 ⟨rfl, hb685⟩
          dsimp only
          have bg_686 := Lib.hid (Blk.keep (bg_677.out) hb685)
          have b4_687 := Lib.hid (Blk.keep (b4_678.out) hb685)
          have bel_688 := Lib.hid (Below.trans (bel_679.out) (Below.mono hb685 ((bel_679.out).size)))
          have x_689 := Lib.hid (Blk.keep (x_683.out) hb685)
          refine hK _ _ ?_; clear hK K
          try simp only [Act.put, List.setIfInBounds_toArray, List.set_cons_zero, List.set_cons_succ]
          refine' wpAny_take (i := 4) (oi := { dst := some 7, op := Go.Op.move (Go.Operand.tmp 11), type := 80, pos := "graph.go:129", after := #[{ on := 3, ground := Go.Ground.data }], guard := none }) (v := _) rfl (by kernel_rfl) (by kernel_rfl) (by kernel_rfl) (fun _ _ _ h => h) (Or.inl ⟨by rfl, ?hyR690⟩)  ?reR690
          case hyR690 => ((intro w); go_simp; try with_reducible rfl)
          try simp only [Act.put, List.setIfInBounds_toArray, List.set_cons_zero, List.set_cons_succ]
          refine' wpAny_take (i := 5) (oi := { dst := some 12, op := Go.Op.extract (Go.Operand.tmp 7) 0, type := 79, pos := "graph.go:129", after := #[{ on := 4, ground := Go.Ground.data }], guard := none }) (v := _) rfl (by kernel_rfl) (by kernel_rfl) (by kernel_rfl) (fun _ _ _ h => h) (Or.inl ⟨by rfl, ?hyR691⟩)  ?reR691
          case hyR691 => ((intro w); go_simp; try with_reducible rfl)
          try simp only [Act.put, List.setIfInBounds_toArray, List.set_cons_zero, List.set_cons_succ]
          refine' wpAny_take (i := 6) (oi := { dst := some 13, op := Go.Op.extract (Go.Operand.tmp 7) 1, type := 4, pos := "graph.go:129", after := #[{ on := 4, ground := Go.Ground.data }, { on := 8, ground := Go.Ground.gcOnly Go.Departure.lateStores }], guard := none }) (v := _) rfl (by kernel_rfl) (by kernel_rfl) (by kernel_rfl) (fun _ _ _ h => h) (Or.inl ⟨by rfl, ?hyR692⟩)  ?reR692
          case hyR692 => ((intro w); go_simp; try with_reducible rfl)
          try simp only [Act.put, List.setIfInBounds_toArray, List.set_cons_zero, List.set_cons_succ]
          refine wpAny_ready (rs := [8]) (by kernel_rfl) (by simp) ?_
          refine AllReady.cons (o := { dst := none, op := Go.Op.store 79 (Go.Operand.tmp 5) (Go.Operand.tmp 12), type := 0, pos := "graph.go:129", after := #[{ on := 7, ground := Go.Ground.data }, { on := 5, ground := Go.Ground.data }, { on := 3, ground := Go.Ground.chain }, { on := 0, ground := Go.Ground.phase }, { on := 1, ground := Go.Ground.phase }, { on := 2, ground := Go.Ground.phase }, { on := 3, ground := Go.Ground.phase }, { on := 4, ground := Go.Ground.phase }, { on := 5, ground := Go.Ground.phase }, { on := 6, ground := Go.Ground.textOnly Go.Departure.lateStores }, { on := 7, ground := Go.Ground.phase }], guard := none }) rfl (fun K hK => ?_) ?_
          · -- 8: store
            rw [if_pos (by rfl)]
            refine wp_store_row 79 (.tmp 5) (.tmp 12) rfl _ (arr z) rfl rfl 79 (arr zeros) x_689.out (size_sums HL.out) ((arr_size _).trans (zeros_length.trans (HL.out.symm.trans (arr_size _).symm))) (arr_one _) ?_
            have bg_695 := Lib.hid (Blk.rowFar (bg_686.out) (ne680.out) (arr z))
            have b4_696 := Lib.hid (Blk.rowFar (b4_687.out) (ne681.out) (arr z))
            have bel_697 := Lib.hid (below_setRow (bel_688.out) (lb682.out) (arr z))
            have x_698 := Lib.hid (Blk.row (x_689.out) (arr z))
            obtain ⟨w693, hw694⟩ : ∃ w', w' = (w684).setRow g673 (arr z) := ⟨_, rfl⟩
            rw [← hw694] at bg_695 b4_696 bel_697 x_698
            rw [← hw694]
            clear hw694
            refine hK _ _ ?_; clear hK K
            try simp only [Act.put, List.setIfInBounds_toArray, List.set_cons_zero, List.set_cons_succ]
            refine' wpAny_take (i := 9) (oi := { dst := some 6, op := Go.Op.assign (Go.Operand.tmp 13), type := 4, pos := "graph.go:129", after := #[{ on := 6, ground := Go.Ground.data }, { on := 8, ground := Go.Ground.chain }, { on := 0, ground := Go.Ground.phase }, { on := 1, ground := Go.Ground.phase }, { on := 2, ground := Go.Ground.phase }, { on := 3, ground := Go.Ground.phase }, { on := 4, ground := Go.Ground.phase }, { on := 5, ground := Go.Ground.phase }, { on := 6, ground := Go.Ground.phase }, { on := 7, ground := Go.Ground.phase }, { on := 8, ground := Go.Ground.phase }], guard := none }) (v := _) rfl (by kernel_rfl) (by kernel_rfl) (by kernel_rfl) (fun _ _ _ h => h) (Or.inl ⟨by rfl, ?hyR699⟩)  ?reR699
            case hyR699 => ((intro w); go_simp; try with_reducible rfl)
            try simp only [Act.put, List.setIfInBounds_toArray, List.set_cons_zero, List.set_cons_succ]
            refine wpAny_done (by kernel_rfl) ?_ _
            go_wp2_with (first | (refine wpList_load_row rfl 79 (.tmp 5) rfl _ rfl _ (arr z) (0, 0) _ x_698.out Try.underlying79 rfl (size_sums HL.out) ?_) | (refine wpList_store_row rfl 79 (.tmp 4) (.tmp 14) rfl _ (arr z) rfl rfl _ (arr zeros) b4_696.out (size_sums HL.out) ((arr_size _).trans (zeros_length.trans (HL.out.symm.trans (arr_size _).symm))) (arr_one _) ?_))
            refine bodyPost_ret (results_cell_row rfl _ _ (w.heap.size + 1) 79 (arr z) (0, 0) _ rfl (Blk.row (b4_696.out) (arr z)) Try.underlying79 rfl (size_sums HL.out)) rfl ?_
            exact ⟨rfl, below_setRow (bel_697.out) (by omega) _⟩
          exact AllReady.nil
        exact AllReady.nil
      exact AllReady.nil
    refine AllReady.cons (o := { dst := some 5, op := Go.Op.alloc 79, type := 0, pos := "graph.go:129", after := #[], guard := none }) rfl (fun K hK => ?_) ?_
    · -- 7: alloc
      rw [if_pos (by rfl)]
      refine wp_alloc_row 79 rfl (arr zeros) zero_sums.1 ?_
      have bg_704 := Lib.hid (Blk.alloc (B0.out) (.cells (arr zeros) 79))
      have b4_705 := Lib.hid (Blk.alloc (B2.out) (.cells (arr zeros) 79))
      have bel_706 := Lib.hid (Below.alloc (HBD.out) ((HBD.out).size) (.cells (arr zeros) 79))
      have ne707 := Lib.hid (Nat.ne_of_lt (Blk.lt B0.out))
      have ne708 := Lib.hid (Nat.ne_of_lt (Blk.lt B2.out))
      have lb709 := Lib.hid (HBD.out.size)
      have x_710 := Lib.hid (Blk.new (((w.alloc (.cells #[.int .i64 (p : Int), .slice A n c] 70)).alloc (.cells (arr zeros) 79)).drew) 79 (arr zeros))
      obtain ⟨g700, hg701⟩ : ∃ g, g = (((w.alloc (.cells #[.int .i64 (p : Int), .slice A n c] 70)).alloc (.cells (arr zeros) 79)).drew).heap.size := ⟨_, rfl⟩
      obtain ⟨w702, hw703⟩ : ∃ w', w' = (((w.alloc (.cells #[.int .i64 (p : Int), .slice A n c] 70)).alloc (.cells (arr zeros) 79)).drew).alloc (.cells (arr zeros) 79) := ⟨_, rfl⟩
      rw [← hw703] at bg_704 b4_705 bel_706 x_710
      rw [← hg701] at ne707 ne708 lb709 x_710
      rw [← hg701, ← hw703]
      clear hg701 hw703
      refine hK _ _ ?_; clear hK K
      try simp only [Act.put, List.setIfInBounds_toArray, List.set_cons_zero, List.set_cons_succ]
      refine wpAny_ready (rs := [2]) (by kernel_rfl) (by simp) ?_
      refine AllReady.cons (o := { dst := some 10, op := Go.Op.call { callee := Go.Callee.value (Go.Operand.func 109), args := #[Go.Operand.tmp 9], argTypes := #[3] }, type := 79, pos := "graph.go:129", after := #[{ on := 1, ground := Go.Ground.data }], guard := none }) rfl (fun K hK => ?_) ?_
      · -- 2: call
        go_simp
        go_at_call 109
        refine (HC1.out _).mono ?_
        rintro e w711 ⟨rfl, hb712⟩
        dsimp only
        have bg_713 := Lib.hid (Blk.keep (bg_704.out) hb712)
        have b4_714 := Lib.hid (Blk.keep (b4_705.out) hb712)
        have bel_715 := Lib.hid (Below.trans (bel_706.out) (Below.mono hb712 ((bel_706.out).size)))
        have x_716 := Lib.hid (Blk.keep (x_710.out) hb712)
        refine hK _ _ ?_; clear hK K
        try simp only [Act.put, List.setIfInBounds_toArray, List.set_cons_zero, List.set_cons_succ]
        refine wpAny_ready (rs := [3]) (by kernel_rfl) (by simp) ?_
        refine AllReady.cons (o := { dst := some 11, op := Go.Op.call { callee := Go.Callee.value (Go.Operand.func 105), args := #[Go.Operand.tmp 8, Go.Operand.tmp 10], argTypes := #[70, 79] }, type := 80, pos := "graph.go:129", after := #[{ on := 0, ground := Go.Ground.data }, { on := 2, ground := Go.Ground.data }, { on := 2, ground := Go.Ground.chain }], guard := none }) rfl (fun K hK => ?_) ?_
        · -- 3: call
          go_simp
          go_at_call 105
          refine (HC2.out _ bel_715.out).mono ?_
          rintro e w717 ⟨rfl, hb718⟩
          dsimp only
          have bg_719 := Lib.hid (Blk.keep (bg_713.out) hb718)
          have b4_720 := Lib.hid (Blk.keep (b4_714.out) hb718)
          have bel_721 := Lib.hid (Below.trans (bel_715.out) (Below.mono hb718 ((bel_715.out).size)))
          have x_722 := Lib.hid (Blk.keep (x_716.out) hb718)
          refine hK _ _ ?_; clear hK K
          try simp only [Act.put, List.setIfInBounds_toArray, List.set_cons_zero, List.set_cons_succ]
          refine' wpAny_take (i := 4) (oi := { dst := some 7, op := Go.Op.move (Go.Operand.tmp 11), type := 80, pos := "graph.go:129", after := #[{ on := 3, ground := Go.Ground.data }], guard := none }) (v := _) rfl (by kernel_rfl) (by kernel_rfl) (by kernel_rfl) (fun _ _ _ h => h) (Or.inl ⟨by rfl, ?hyR723⟩)  ?reR723
          case hyR723 => ((intro w); go_simp; try with_reducible rfl)
          try simp only [Act.put, List.setIfInBounds_toArray, List.set_cons_zero, List.set_cons_succ]
          refine' wpAny_take (i := 5) (oi := { dst := some 12, op := Go.Op.extract (Go.Operand.tmp 7) 0, type := 79, pos := "graph.go:129", after := #[{ on := 4, ground := Go.Ground.data }], guard := none }) (v := _) rfl (by kernel_rfl) (by kernel_rfl) (by kernel_rfl) (fun _ _ _ h => h) (Or.inl ⟨by rfl, ?hyR724⟩)  ?reR724
          case hyR724 => ((intro w); go_simp; try with_reducible rfl)
          try simp only [Act.put, List.setIfInBounds_toArray, List.set_cons_zero, List.set_cons_succ]
          refine' wpAny_take (i := 6) (oi := { dst := some 13, op := Go.Op.extract (Go.Operand.tmp 7) 1, type := 4, pos := "graph.go:129", after := #[{ on := 4, ground := Go.Ground.data }, { on := 8, ground := Go.Ground.gcOnly Go.Departure.lateStores }], guard := none }) (v := _) rfl (by kernel_rfl) (by kernel_rfl) (by kernel_rfl) (fun _ _ _ h => h) (Or.inl ⟨by rfl, ?hyR725⟩)  ?reR725
          case hyR725 => ((intro w); go_simp; try with_reducible rfl)
          try simp only [Act.put, List.setIfInBounds_toArray, List.set_cons_zero, List.set_cons_succ]
          refine wpAny_ready (rs := [8]) (by kernel_rfl) (by simp) ?_
          refine AllReady.cons (o := { dst := none, op := Go.Op.store 79 (Go.Operand.tmp 5) (Go.Operand.tmp 12), type := 0, pos := "graph.go:129", after := #[{ on := 7, ground := Go.Ground.data }, { on := 5, ground := Go.Ground.data }, { on := 3, ground := Go.Ground.chain }, { on := 0, ground := Go.Ground.phase }, { on := 1, ground := Go.Ground.phase }, { on := 2, ground := Go.Ground.phase }, { on := 3, ground := Go.Ground.phase }, { on := 4, ground := Go.Ground.phase }, { on := 5, ground := Go.Ground.phase }, { on := 6, ground := Go.Ground.textOnly Go.Departure.lateStores }, { on := 7, ground := Go.Ground.phase }], guard := none }) rfl (fun K hK => ?_) ?_
          · -- 8: store
            rw [if_pos (by rfl)]
            refine wp_store_row 79 (.tmp 5) (.tmp 12) rfl _ (arr z) rfl rfl 79 (arr zeros) x_722.out (size_sums HL.out) ((arr_size _).trans (zeros_length.trans (HL.out.symm.trans (arr_size _).symm))) (arr_one _) ?_
            have bg_728 := Lib.hid (Blk.rowFar (bg_719.out) (ne707.out) (arr z))
            have b4_729 := Lib.hid (Blk.rowFar (b4_720.out) (ne708.out) (arr z))
            have bel_730 := Lib.hid (below_setRow (bel_721.out) (lb709.out) (arr z))
            have x_731 := Lib.hid (Blk.row (x_722.out) (arr z))
            obtain ⟨w726, hw727⟩ : ∃ w', w' = (w717).setRow g700 (arr z) := ⟨_, rfl⟩
            rw [← hw727] at bg_728 b4_729 bel_730 x_731
            rw [← hw727]
            clear hw727
            refine hK _ _ ?_; clear hK K
            try simp only [Act.put, List.setIfInBounds_toArray, List.set_cons_zero, List.set_cons_succ]
            refine' wpAny_take (i := 9) (oi := { dst := some 6, op := Go.Op.assign (Go.Operand.tmp 13), type := 4, pos := "graph.go:129", after := #[{ on := 6, ground := Go.Ground.data }, { on := 8, ground := Go.Ground.chain }, { on := 0, ground := Go.Ground.phase }, { on := 1, ground := Go.Ground.phase }, { on := 2, ground := Go.Ground.phase }, { on := 3, ground := Go.Ground.phase }, { on := 4, ground := Go.Ground.phase }, { on := 5, ground := Go.Ground.phase }, { on := 6, ground := Go.Ground.phase }, { on := 7, ground := Go.Ground.phase }, { on := 8, ground := Go.Ground.phase }], guard := none }) (v := _) rfl (by kernel_rfl) (by kernel_rfl) (by kernel_rfl) (fun _ _ _ h => h) (Or.inl ⟨by rfl, ?hyR732⟩)  ?reR732
            case hyR732 => ((intro w); go_simp; try with_reducible rfl)
            try simp only [Act.put, List.setIfInBounds_toArray, List.set_cons_zero, List.set_cons_succ]
            refine wpAny_done (by kernel_rfl) ?_ _
            go_wp2_with (first | (refine wpList_load_row rfl 79 (.tmp 5) rfl _ rfl _ (arr z) (0, 0) _ x_731.out Try.underlying79 rfl (size_sums HL.out) ?_) | (refine wpList_store_row rfl 79 (.tmp 4) (.tmp 14) rfl _ (arr z) rfl rfl _ (arr zeros) b4_729.out (size_sums HL.out) ((arr_size _).trans (zeros_length.trans (HL.out.symm.trans (arr_size _).symm))) (arr_one _) ?_))
            refine bodyPost_ret (results_cell_row rfl _ _ (w.heap.size + 1) 79 (arr z) (0, 0) _ rfl (Blk.row (b4_729.out) (arr z)) Try.underlying79 rfl (size_sums HL.out)) rfl ?_
            exact ⟨rfl, below_setRow (bel_730.out) (by omega) _⟩
          exact AllReady.nil
        exact AllReady.nil
      exact AllReady.nil
    exact AllReady.nil
  refine AllReady.cons (o := { dst := some 10, op := Go.Op.call { callee := Go.Callee.value (Go.Operand.func 109), args := #[Go.Operand.tmp 9], argTypes := #[3] }, type := 79, pos := "graph.go:129", after := #[{ on := 1, ground := Go.Ground.data }], guard := none }) rfl (fun K hK => ?_) ?_
  · -- 2: call
    go_simp
    go_at_call 109
    refine (HC1.out _).mono ?_
    rintro e w733 ⟨rfl, hb734⟩
    dsimp only
    have bg_735 := Lib.hid (Blk.keep (B0.out) hb734)
    have b4_736 := Lib.hid (Blk.keep (B2.out) hb734)
    have bel_737 := Lib.hid (Below.trans (HBD.out) (Below.mono hb734 ((HBD.out).size)))
    refine hK _ _ ?_; clear hK K
    try simp only [Act.put, List.setIfInBounds_toArray, List.set_cons_zero, List.set_cons_succ]
    refine wpAny_ready (rs := [0, 7]) (by kernel_rfl) (by simp) ?_
    refine AllReady.cons (o := { dst := some 8, op := Go.Op.load 70 (Go.Operand.tmp 2), type := 70, pos := "graph.go:129", after := #[], guard := none }) rfl (fun K hK => ?_) ?_
    · -- 0: load
      rw [if_pos (by rfl)]
      refine wp_load_row 70 (.tmp 2) rfl w.heap.size rfl 70 #[.int .i64 (p : Int), .slice A n c] (0, 0) _ bg_735.out Try.underlying70 rfl (by kernel_rfl) ?_
      refine hK _ _ ?_; clear hK K
      try simp only [Act.put, List.setIfInBounds_toArray, List.set_cons_zero, List.set_cons_succ]
      refine wpAny_ready (rs := [3, 7]) (by kernel_rfl) (by simp) ?_
      refine AllReady.cons (o := { dst := some 11, op := Go.Op.call { callee := Go.Callee.value (Go.Operand.func 105), args := #[Go.Operand.tmp 8, Go.Operand.tmp 10], argTypes := #[70, 79] }, type := 80, pos := "graph.go:129", after := #[{ on := 0, ground := Go.Ground.data }, { on := 2, ground := Go.Ground.data }, { on := 2, ground := Go.Ground.chain }], guard := none }) rfl (fun K hK => ?_) ?_
      · -- 3: call
        go_simp
        go_at_call 105
        refine (HC2.out _ bel_737.out).mono ?_
        rintro e w738 ⟨rfl, hb739⟩
        dsimp only
        have bg_740 := Lib.hid (Blk.keep (bg_735.out) hb739)
        have b4_741 := Lib.hid (Blk.keep (b4_736.out) hb739)
        have bel_742 := Lib.hid (Below.trans (bel_737.out) (Below.mono hb739 ((bel_737.out).size)))
        refine hK _ _ ?_; clear hK K
        try simp only [Act.put, List.setIfInBounds_toArray, List.set_cons_zero, List.set_cons_succ]
        refine' wpAny_take (i := 4) (oi := { dst := some 7, op := Go.Op.move (Go.Operand.tmp 11), type := 80, pos := "graph.go:129", after := #[{ on := 3, ground := Go.Ground.data }], guard := none }) (v := _) rfl (by kernel_rfl) (by kernel_rfl) (by kernel_rfl) (fun _ _ _ h => h) (Or.inl ⟨by rfl, ?hyR743⟩)  ?reR743
        case hyR743 => ((intro w); go_simp; try with_reducible rfl)
        try simp only [Act.put, List.setIfInBounds_toArray, List.set_cons_zero, List.set_cons_succ]
        refine' wpAny_take (i := 5) (oi := { dst := some 12, op := Go.Op.extract (Go.Operand.tmp 7) 0, type := 79, pos := "graph.go:129", after := #[{ on := 4, ground := Go.Ground.data }], guard := none }) (v := _) rfl (by kernel_rfl) (by kernel_rfl) (by kernel_rfl) (fun _ _ _ h => h) (Or.inl ⟨by rfl, ?hyR744⟩)  ?reR744
        case hyR744 => ((intro w); go_simp; try with_reducible rfl)
        try simp only [Act.put, List.setIfInBounds_toArray, List.set_cons_zero, List.set_cons_succ]
        refine' wpAny_take (i := 6) (oi := { dst := some 13, op := Go.Op.extract (Go.Operand.tmp 7) 1, type := 4, pos := "graph.go:129", after := #[{ on := 4, ground := Go.Ground.data }, { on := 8, ground := Go.Ground.gcOnly Go.Departure.lateStores }], guard := none }) (v := _) rfl (by kernel_rfl) (by kernel_rfl) (by kernel_rfl) (fun _ _ _ h => h) (Or.inl ⟨by rfl, ?hyR745⟩)  ?reR745
        case hyR745 => ((intro w); go_simp; try with_reducible rfl)
        try simp only [Act.put, List.setIfInBounds_toArray, List.set_cons_zero, List.set_cons_succ]
        refine wpAny_ready (rs := [7]) (by kernel_rfl) (by simp) ?_
        refine AllReady.cons (o := { dst := some 5, op := Go.Op.alloc 79, type := 0, pos := "graph.go:129", after := #[], guard := none }) rfl (fun K hK => ?_) ?_
        · -- 7: alloc
          rw [if_pos (by rfl)]
          refine wp_alloc_row 79 rfl (arr zeros) zero_sums.1 ?_
          have bg_750 := Lib.hid (Blk.alloc (bg_740.out) (.cells (arr zeros) 79))
          have b4_751 := Lib.hid (Blk.alloc (b4_741.out) (.cells (arr zeros) 79))
          have bel_752 := Lib.hid (Below.alloc (bel_742.out) ((bel_742.out).size) (.cells (arr zeros) 79))
          have ne753 := Lib.hid (Nat.ne_of_lt (Blk.lt bg_740.out))
          have ne754 := Lib.hid (Nat.ne_of_lt (Blk.lt b4_741.out))
          have lb755 := Lib.hid (bel_742.out.size)
          have x_756 := Lib.hid (Blk.new (w738) 79 (arr zeros))
          obtain ⟨g746, hg747⟩ : ∃ g, g = (w738).heap.size := ⟨_, rfl⟩
          obtain ⟨w748, hw749⟩ : ∃ w', w' = (w738).alloc (.cells (arr zeros) 79) := ⟨_, rfl⟩
          rw [← hw749] at bg_750 b4_751 bel_752 x_756
          rw [← hg747] at ne753 ne754 lb755 x_756
          rw [← hg747, ← hw749]
          clear hg747 hw749
          refine hK _ _ ?_; clear hK K
          try simp only [Act.put, List.setIfInBounds_toArray, List.set_cons_zero, List.set_cons_succ]
          refine wpAny_ready (rs := [8]) (by kernel_rfl) (by simp) ?_
          refine AllReady.cons (o := { dst := none, op := Go.Op.store 79 (Go.Operand.tmp 5) (Go.Operand.tmp 12), type := 0, pos := "graph.go:129", after := #[{ on := 7, ground := Go.Ground.data }, { on := 5, ground := Go.Ground.data }, { on := 3, ground := Go.Ground.chain }, { on := 0, ground := Go.Ground.phase }, { on := 1, ground := Go.Ground.phase }, { on := 2, ground := Go.Ground.phase }, { on := 3, ground := Go.Ground.phase }, { on := 4, ground := Go.Ground.phase }, { on := 5, ground := Go.Ground.phase }, { on := 6, ground := Go.Ground.textOnly Go.Departure.lateStores }, { on := 7, ground := Go.Ground.phase }], guard := none }) rfl (fun K hK => ?_) ?_
          · -- 8: store
            rw [if_pos (by rfl)]
            refine wp_store_row 79 (.tmp 5) (.tmp 12) rfl _ (arr z) rfl rfl 79 (arr zeros) x_756.out (size_sums HL.out) ((arr_size _).trans (zeros_length.trans (HL.out.symm.trans (arr_size _).symm))) (arr_one _) ?_
            have bg_759 := Lib.hid (Blk.rowFar (bg_750.out) (ne753.out) (arr z))
            have b4_760 := Lib.hid (Blk.rowFar (b4_751.out) (ne754.out) (arr z))
            have bel_761 := Lib.hid (below_setRow (bel_752.out) (lb755.out) (arr z))
            have x_762 := Lib.hid (Blk.row (x_756.out) (arr z))
            obtain ⟨w757, hw758⟩ : ∃ w', w' = (w748).setRow g746 (arr z) := ⟨_, rfl⟩
            rw [← hw758] at bg_759 b4_760 bel_761 x_762
            rw [← hw758]
            clear hw758
            refine hK _ _ ?_; clear hK K
            try simp only [Act.put, List.setIfInBounds_toArray, List.set_cons_zero, List.set_cons_succ]
            refine' wpAny_take (i := 9) (oi := { dst := some 6, op := Go.Op.assign (Go.Operand.tmp 13), type := 4, pos := "graph.go:129", after := #[{ on := 6, ground := Go.Ground.data }, { on := 8, ground := Go.Ground.chain }, { on := 0, ground := Go.Ground.phase }, { on := 1, ground := Go.Ground.phase }, { on := 2, ground := Go.Ground.phase }, { on := 3, ground := Go.Ground.phase }, { on := 4, ground := Go.Ground.phase }, { on := 5, ground := Go.Ground.phase }, { on := 6, ground := Go.Ground.phase }, { on := 7, ground := Go.Ground.phase }, { on := 8, ground := Go.Ground.phase }], guard := none }) (v := _) rfl (by kernel_rfl) (by kernel_rfl) (by kernel_rfl) (fun _ _ _ h => h) (Or.inl ⟨by rfl, ?hyR763⟩)  ?reR763
            case hyR763 => ((intro w); go_simp; try with_reducible rfl)
            try simp only [Act.put, List.setIfInBounds_toArray, List.set_cons_zero, List.set_cons_succ]
            refine wpAny_done (by kernel_rfl) ?_ _
            go_wp2_with (first | (refine wpList_load_row rfl 79 (.tmp 5) rfl _ rfl _ (arr z) (0, 0) _ x_762.out Try.underlying79 rfl (size_sums HL.out) ?_) | (refine wpList_store_row rfl 79 (.tmp 4) (.tmp 14) rfl _ (arr z) rfl rfl _ (arr zeros) b4_760.out (size_sums HL.out) ((arr_size _).trans (zeros_length.trans (HL.out.symm.trans (arr_size _).symm))) (arr_one _) ?_))
            refine bodyPost_ret (results_cell_row rfl _ _ (w.heap.size + 1) 79 (arr z) (0, 0) _ rfl (Blk.row (b4_760.out) (arr z)) Try.underlying79 rfl (size_sums HL.out)) rfl ?_
            exact ⟨rfl, below_setRow (bel_761.out) (by omega) _⟩
          exact AllReady.nil
        exact AllReady.nil
      refine AllReady.cons (o := { dst := some 5, op := Go.Op.alloc 79, type := 0, pos := "graph.go:129", after := #[], guard := none }) rfl (fun K hK => ?_) ?_
      · -- 7: alloc
        rw [if_pos (by rfl)]
        refine wp_alloc_row 79 rfl (arr zeros) zero_sums.1 ?_
        have bg_768 := Lib.hid (Blk.alloc (bg_735.out) (.cells (arr zeros) 79))
        have b4_769 := Lib.hid (Blk.alloc (b4_736.out) (.cells (arr zeros) 79))
        have bel_770 := Lib.hid (Below.alloc (bel_737.out) ((bel_737.out).size) (.cells (arr zeros) 79))
        have ne771 := Lib.hid (Nat.ne_of_lt (Blk.lt bg_735.out))
        have ne772 := Lib.hid (Nat.ne_of_lt (Blk.lt b4_736.out))
        have lb773 := Lib.hid (bel_737.out.size)
        have x_774 := Lib.hid (Blk.new (w733) 79 (arr zeros))
        obtain ⟨g764, hg765⟩ : ∃ g, g = (w733).heap.size := ⟨_, rfl⟩
        obtain ⟨w766, hw767⟩ : ∃ w', w' = (w733).alloc (.cells (arr zeros) 79) := ⟨_, rfl⟩
        rw [← hw767] at bg_768 b4_769 bel_770 x_774
        rw [← hg765] at ne771 ne772 lb773 x_774
        rw [← hg765, ← hw767]
        clear hg765 hw767
        refine hK _ _ ?_; clear hK K
        try simp only [Act.put, List.setIfInBounds_toArray, List.set_cons_zero, List.set_cons_succ]
        refine wpAny_ready (rs := [3]) (by kernel_rfl) (by simp) ?_
        refine AllReady.cons (o := { dst := some 11, op := Go.Op.call { callee := Go.Callee.value (Go.Operand.func 105), args := #[Go.Operand.tmp 8, Go.Operand.tmp 10], argTypes := #[70, 79] }, type := 80, pos := "graph.go:129", after := #[{ on := 0, ground := Go.Ground.data }, { on := 2, ground := Go.Ground.data }, { on := 2, ground := Go.Ground.chain }], guard := none }) rfl (fun K hK => ?_) ?_
        · -- 3: call
          go_simp
          go_at_call 105
          refine (HC2.out _ bel_770.out).mono ?_
          rintro e w775 ⟨rfl, hb776⟩
          dsimp only
          have bg_777 := Lib.hid (Blk.keep (bg_768.out) hb776)
          have b4_778 := Lib.hid (Blk.keep (b4_769.out) hb776)
          have bel_779 := Lib.hid (Below.trans (bel_770.out) (Below.mono hb776 ((bel_770.out).size)))
          have x_780 := Lib.hid (Blk.keep (x_774.out) hb776)
          refine hK _ _ ?_; clear hK K
          try simp only [Act.put, List.setIfInBounds_toArray, List.set_cons_zero, List.set_cons_succ]
          refine' wpAny_take (i := 4) (oi := { dst := some 7, op := Go.Op.move (Go.Operand.tmp 11), type := 80, pos := "graph.go:129", after := #[{ on := 3, ground := Go.Ground.data }], guard := none }) (v := _) rfl (by kernel_rfl) (by kernel_rfl) (by kernel_rfl) (fun _ _ _ h => h) (Or.inl ⟨by rfl, ?hyR781⟩)  ?reR781
          case hyR781 => ((intro w); go_simp; try with_reducible rfl)
          try simp only [Act.put, List.setIfInBounds_toArray, List.set_cons_zero, List.set_cons_succ]
          refine' wpAny_take (i := 5) (oi := { dst := some 12, op := Go.Op.extract (Go.Operand.tmp 7) 0, type := 79, pos := "graph.go:129", after := #[{ on := 4, ground := Go.Ground.data }], guard := none }) (v := _) rfl (by kernel_rfl) (by kernel_rfl) (by kernel_rfl) (fun _ _ _ h => h) (Or.inl ⟨by rfl, ?hyR782⟩)  ?reR782
          case hyR782 => ((intro w); go_simp; try with_reducible rfl)
          try simp only [Act.put, List.setIfInBounds_toArray, List.set_cons_zero, List.set_cons_succ]
          refine' wpAny_take (i := 6) (oi := { dst := some 13, op := Go.Op.extract (Go.Operand.tmp 7) 1, type := 4, pos := "graph.go:129", after := #[{ on := 4, ground := Go.Ground.data }, { on := 8, ground := Go.Ground.gcOnly Go.Departure.lateStores }], guard := none }) (v := _) rfl (by kernel_rfl) (by kernel_rfl) (by kernel_rfl) (fun _ _ _ h => h) (Or.inl ⟨by rfl, ?hyR783⟩)  ?reR783
          case hyR783 => ((intro w); go_simp; try with_reducible rfl)
          try simp only [Act.put, List.setIfInBounds_toArray, List.set_cons_zero, List.set_cons_succ]
          refine wpAny_ready (rs := [8]) (by kernel_rfl) (by simp) ?_
          refine AllReady.cons (o := { dst := none, op := Go.Op.store 79 (Go.Operand.tmp 5) (Go.Operand.tmp 12), type := 0, pos := "graph.go:129", after := #[{ on := 7, ground := Go.Ground.data }, { on := 5, ground := Go.Ground.data }, { on := 3, ground := Go.Ground.chain }, { on := 0, ground := Go.Ground.phase }, { on := 1, ground := Go.Ground.phase }, { on := 2, ground := Go.Ground.phase }, { on := 3, ground := Go.Ground.phase }, { on := 4, ground := Go.Ground.phase }, { on := 5, ground := Go.Ground.phase }, { on := 6, ground := Go.Ground.textOnly Go.Departure.lateStores }, { on := 7, ground := Go.Ground.phase }], guard := none }) rfl (fun K hK => ?_) ?_
          · -- 8: store
            rw [if_pos (by rfl)]
            refine wp_store_row 79 (.tmp 5) (.tmp 12) rfl _ (arr z) rfl rfl 79 (arr zeros) x_780.out (size_sums HL.out) ((arr_size _).trans (zeros_length.trans (HL.out.symm.trans (arr_size _).symm))) (arr_one _) ?_
            have bg_786 := Lib.hid (Blk.rowFar (bg_777.out) (ne771.out) (arr z))
            have b4_787 := Lib.hid (Blk.rowFar (b4_778.out) (ne772.out) (arr z))
            have bel_788 := Lib.hid (below_setRow (bel_779.out) (lb773.out) (arr z))
            have x_789 := Lib.hid (Blk.row (x_780.out) (arr z))
            obtain ⟨w784, hw785⟩ : ∃ w', w' = (w775).setRow g764 (arr z) := ⟨_, rfl⟩
            rw [← hw785] at bg_786 b4_787 bel_788 x_789
            rw [← hw785]
            clear hw785
            refine hK _ _ ?_; clear hK K
            try simp only [Act.put, List.setIfInBounds_toArray, List.set_cons_zero, List.set_cons_succ]
            refine' wpAny_take (i := 9) (oi := { dst := some 6, op := Go.Op.assign (Go.Operand.tmp 13), type := 4, pos := "graph.go:129", after := #[{ on := 6, ground := Go.Ground.data }, { on := 8, ground := Go.Ground.chain }, { on := 0, ground := Go.Ground.phase }, { on := 1, ground := Go.Ground.phase }, { on := 2, ground := Go.Ground.phase }, { on := 3, ground := Go.Ground.phase }, { on := 4, ground := Go.Ground.phase }, { on := 5, ground := Go.Ground.phase }, { on := 6, ground := Go.Ground.phase }, { on := 7, ground := Go.Ground.phase }, { on := 8, ground := Go.Ground.phase }], guard := none }) (v := _) rfl (by kernel_rfl) (by kernel_rfl) (by kernel_rfl) (fun _ _ _ h => h) (Or.inl ⟨by rfl, ?hyR790⟩)  ?reR790
            case hyR790 => ((intro w); go_simp; try with_reducible rfl)
            try simp only [Act.put, List.setIfInBounds_toArray, List.set_cons_zero, List.set_cons_succ]
            refine wpAny_done (by kernel_rfl) ?_ _
            go_wp2_with (first | (refine wpList_load_row rfl 79 (.tmp 5) rfl _ rfl _ (arr z) (0, 0) _ x_789.out Try.underlying79 rfl (size_sums HL.out) ?_) | (refine wpList_store_row rfl 79 (.tmp 4) (.tmp 14) rfl _ (arr z) rfl rfl _ (arr zeros) b4_787.out (size_sums HL.out) ((arr_size _).trans (zeros_length.trans (HL.out.symm.trans (arr_size _).symm))) (arr_one _) ?_))
            refine bodyPost_ret (results_cell_row rfl _ _ (w.heap.size + 1) 79 (arr z) (0, 0) _ rfl (Blk.row (b4_787.out) (arr z)) Try.underlying79 rfl (size_sums HL.out)) rfl ?_
            exact ⟨rfl, below_setRow (bel_788.out) (by omega) _⟩
          exact AllReady.nil
        exact AllReady.nil
      exact AllReady.nil
    refine AllReady.cons (o := { dst := some 5, op := Go.Op.alloc 79, type := 0, pos := "graph.go:129", after := #[], guard := none }) rfl (fun K hK => ?_) ?_
    · -- 7: alloc
      rw [if_pos (by rfl)]
      refine wp_alloc_row 79 rfl (arr zeros) zero_sums.1 ?_
      have bg_795 := Lib.hid (Blk.alloc (bg_735.out) (.cells (arr zeros) 79))
      have b4_796 := Lib.hid (Blk.alloc (b4_736.out) (.cells (arr zeros) 79))
      have bel_797 := Lib.hid (Below.alloc (bel_737.out) ((bel_737.out).size) (.cells (arr zeros) 79))
      have ne798 := Lib.hid (Nat.ne_of_lt (Blk.lt bg_735.out))
      have ne799 := Lib.hid (Nat.ne_of_lt (Blk.lt b4_736.out))
      have lb800 := Lib.hid (bel_737.out.size)
      have x_801 := Lib.hid (Blk.new (w733) 79 (arr zeros))
      obtain ⟨g791, hg792⟩ : ∃ g, g = (w733).heap.size := ⟨_, rfl⟩
      obtain ⟨w793, hw794⟩ : ∃ w', w' = (w733).alloc (.cells (arr zeros) 79) := ⟨_, rfl⟩
      rw [← hw794] at bg_795 b4_796 bel_797 x_801
      rw [← hg792] at ne798 ne799 lb800 x_801
      rw [← hg792, ← hw794]
      clear hg792 hw794
      refine hK _ _ ?_; clear hK K
      try simp only [Act.put, List.setIfInBounds_toArray, List.set_cons_zero, List.set_cons_succ]
      refine wpAny_ready (rs := [0]) (by kernel_rfl) (by simp) ?_
      refine AllReady.cons (o := { dst := some 8, op := Go.Op.load 70 (Go.Operand.tmp 2), type := 70, pos := "graph.go:129", after := #[], guard := none }) rfl (fun K hK => ?_) ?_
      · -- 0: load
        rw [if_pos (by rfl)]
        refine wp_load_row 70 (.tmp 2) rfl w.heap.size rfl 70 #[.int .i64 (p : Int), .slice A n c] (0, 0) _ bg_795.out Try.underlying70 rfl (by kernel_rfl) ?_
        refine hK _ _ ?_; clear hK K
        try simp only [Act.put, List.setIfInBounds_toArray, List.set_cons_zero, List.set_cons_succ]
        refine wpAny_ready (rs := [3]) (by kernel_rfl) (by simp) ?_
        refine AllReady.cons (o := { dst := some 11, op := Go.Op.call { callee := Go.Callee.value (Go.Operand.func 105), args := #[Go.Operand.tmp 8, Go.Operand.tmp 10], argTypes := #[70, 79] }, type := 80, pos := "graph.go:129", after := #[{ on := 0, ground := Go.Ground.data }, { on := 2, ground := Go.Ground.data }, { on := 2, ground := Go.Ground.chain }], guard := none }) rfl (fun K hK => ?_) ?_
        · -- 3: call
          go_simp
          go_at_call 105
          refine (HC2.out _ bel_797.out).mono ?_
          rintro e w802 ⟨rfl, hb803⟩
          dsimp only
          have bg_804 := Lib.hid (Blk.keep (bg_795.out) hb803)
          have b4_805 := Lib.hid (Blk.keep (b4_796.out) hb803)
          have bel_806 := Lib.hid (Below.trans (bel_797.out) (Below.mono hb803 ((bel_797.out).size)))
          have x_807 := Lib.hid (Blk.keep (x_801.out) hb803)
          refine hK _ _ ?_; clear hK K
          try simp only [Act.put, List.setIfInBounds_toArray, List.set_cons_zero, List.set_cons_succ]
          refine' wpAny_take (i := 4) (oi := { dst := some 7, op := Go.Op.move (Go.Operand.tmp 11), type := 80, pos := "graph.go:129", after := #[{ on := 3, ground := Go.Ground.data }], guard := none }) (v := _) rfl (by kernel_rfl) (by kernel_rfl) (by kernel_rfl) (fun _ _ _ h => h) (Or.inl ⟨by rfl, ?hyR808⟩)  ?reR808
          case hyR808 => ((intro w); go_simp; try with_reducible rfl)
          try simp only [Act.put, List.setIfInBounds_toArray, List.set_cons_zero, List.set_cons_succ]
          refine' wpAny_take (i := 5) (oi := { dst := some 12, op := Go.Op.extract (Go.Operand.tmp 7) 0, type := 79, pos := "graph.go:129", after := #[{ on := 4, ground := Go.Ground.data }], guard := none }) (v := _) rfl (by kernel_rfl) (by kernel_rfl) (by kernel_rfl) (fun _ _ _ h => h) (Or.inl ⟨by rfl, ?hyR809⟩)  ?reR809
          case hyR809 => ((intro w); go_simp; try with_reducible rfl)
          try simp only [Act.put, List.setIfInBounds_toArray, List.set_cons_zero, List.set_cons_succ]
          refine' wpAny_take (i := 6) (oi := { dst := some 13, op := Go.Op.extract (Go.Operand.tmp 7) 1, type := 4, pos := "graph.go:129", after := #[{ on := 4, ground := Go.Ground.data }, { on := 8, ground := Go.Ground.gcOnly Go.Departure.lateStores }], guard := none }) (v := _) rfl (by kernel_rfl) (by kernel_rfl) (by kernel_rfl) (fun _ _ _ h => h) (Or.inl ⟨by rfl, ?hyR810⟩)  ?reR810
          case hyR810 => ((intro w); go_simp; try with_reducible rfl)
          try simp only [Act.put, List.setIfInBounds_toArray, List.set_cons_zero, List.set_cons_succ]
          refine wpAny_ready (rs := [8]) (by kernel_rfl) (by simp) ?_
          refine AllReady.cons (o := { dst := none, op := Go.Op.store 79 (Go.Operand.tmp 5) (Go.Operand.tmp 12), type := 0, pos := "graph.go:129", after := #[{ on := 7, ground := Go.Ground.data }, { on := 5, ground := Go.Ground.data }, { on := 3, ground := Go.Ground.chain }, { on := 0, ground := Go.Ground.phase }, { on := 1, ground := Go.Ground.phase }, { on := 2, ground := Go.Ground.phase }, { on := 3, ground := Go.Ground.phase }, { on := 4, ground := Go.Ground.phase }, { on := 5, ground := Go.Ground.phase }, { on := 6, ground := Go.Ground.textOnly Go.Departure.lateStores }, { on := 7, ground := Go.Ground.phase }], guard := none }) rfl (fun K hK => ?_) ?_
          · -- 8: store
            rw [if_pos (by rfl)]
            refine wp_store_row 79 (.tmp 5) (.tmp 12) rfl _ (arr z) rfl rfl 79 (arr zeros) x_807.out (size_sums HL.out) ((arr_size _).trans (zeros_length.trans (HL.out.symm.trans (arr_size _).symm))) (arr_one _) ?_
            have bg_813 := Lib.hid (Blk.rowFar (bg_804.out) (ne798.out) (arr z))
            have b4_814 := Lib.hid (Blk.rowFar (b4_805.out) (ne799.out) (arr z))
            have bel_815 := Lib.hid (below_setRow (bel_806.out) (lb800.out) (arr z))
            have x_816 := Lib.hid (Blk.row (x_807.out) (arr z))
            obtain ⟨w811, hw812⟩ : ∃ w', w' = (w802).setRow g791 (arr z) := ⟨_, rfl⟩
            rw [← hw812] at bg_813 b4_814 bel_815 x_816
            rw [← hw812]
            clear hw812
            refine hK _ _ ?_; clear hK K
            try simp only [Act.put, List.setIfInBounds_toArray, List.set_cons_zero, List.set_cons_succ]
            refine' wpAny_take (i := 9) (oi := { dst := some 6, op := Go.Op.assign (Go.Operand.tmp 13), type := 4, pos := "graph.go:129", after := #[{ on := 6, ground := Go.Ground.data }, { on := 8, ground := Go.Ground.chain }, { on := 0, ground := Go.Ground.phase }, { on := 1, ground := Go.Ground.phase }, { on := 2, ground := Go.Ground.phase }, { on := 3, ground := Go.Ground.phase }, { on := 4, ground := Go.Ground.phase }, { on := 5, ground := Go.Ground.phase }, { on := 6, ground := Go.Ground.phase }, { on := 7, ground := Go.Ground.phase }, { on := 8, ground := Go.Ground.phase }], guard := none }) (v := _) rfl (by kernel_rfl) (by kernel_rfl) (by kernel_rfl) (fun _ _ _ h => h) (Or.inl ⟨by rfl, ?hyR817⟩)  ?reR817
            case hyR817 => ((intro w); go_simp; try with_reducible rfl)
            try simp only [Act.put, List.setIfInBounds_toArray, List.set_cons_zero, List.set_cons_succ]
            refine wpAny_done (by kernel_rfl) ?_ _
            go_wp2_with (first | (refine wpList_load_row rfl 79 (.tmp 5) rfl _ rfl _ (arr z) (0, 0) _ x_816.out Try.underlying79 rfl (size_sums HL.out) ?_) | (refine wpList_store_row rfl 79 (.tmp 4) (.tmp 14) rfl _ (arr z) rfl rfl _ (arr zeros) b4_814.out (size_sums HL.out) ((arr_size _).trans (zeros_length.trans (HL.out.symm.trans (arr_size _).symm))) (arr_one _) ?_))
            refine bodyPost_ret (results_cell_row rfl _ _ (w.heap.size + 1) 79 (arr z) (0, 0) _ rfl (Blk.row (b4_814.out) (arr z)) Try.underlying79 rfl (size_sums HL.out)) rfl ?_
            exact ⟨rfl, below_setRow (bel_815.out) (by omega) _⟩
          exact AllReady.nil
        exact AllReady.nil
      exact AllReady.nil
    exact AllReady.nil
  refine AllReady.cons (o := { dst := some 5, op := Go.Op.alloc 79, type := 0, pos := "graph.go:129", after := #[], guard := none }) rfl (fun K hK => ?_) ?_
  · -- 7: alloc
    rw [if_pos (by rfl)]
    refine wp_alloc_row 79 rfl (arr zeros) zero_sums.1 ?_
    have bg_822 := Lib.hid (Blk.alloc (B0.out) (.cells (arr zeros) 79))
    have b4_823 := Lib.hid (Blk.alloc (B2.out) (.cells (arr zeros) 79))
    have bel_824 := Lib.hid (Below.alloc (HBD.out) ((HBD.out).size) (.cells (arr zeros) 79))
    have ne825 := Lib.hid (Nat.ne_of_lt (Blk.lt B0.out))
    have ne826 := Lib.hid (Nat.ne_of_lt (Blk.lt B2.out))
    have lb827 := Lib.hid (HBD.out.size)
    have x_828 := Lib.hid (Blk.new (((w.alloc (.cells #[.int .i64 (p : Int), .slice A n c] 70)).alloc (.cells (arr zeros) 79)).drew) 79 (arr zeros))
    obtain ⟨g818, hg819⟩ : ∃ g, g = (((w.alloc (.cells #[.int .i64 (p : Int), .slice A n c] 70)).alloc (.cells (arr zeros) 79)).drew).heap.size := ⟨_, rfl⟩
    obtain ⟨w820, hw821⟩ : ∃ w', w' = (((w.alloc (.cells #[.int .i64 (p : Int), .slice A n c] 70)).alloc (.cells (arr zeros) 79)).drew).alloc (.cells (arr zeros) 79) := ⟨_, rfl⟩
    rw [← hw821] at bg_822 b4_823 bel_824 x_828
    rw [← hg819] at ne825 ne826 lb827 x_828
    rw [← hg819, ← hw821]
    clear hg819 hw821
    refine hK _ _ ?_; clear hK K
    try simp only [Act.put, List.setIfInBounds_toArray, List.set_cons_zero, List.set_cons_succ]
    refine wpAny_ready (rs := [0, 2]) (by kernel_rfl) (by simp) ?_
    refine AllReady.cons (o := { dst := some 8, op := Go.Op.load 70 (Go.Operand.tmp 2), type := 70, pos := "graph.go:129", after := #[], guard := none }) rfl (fun K hK => ?_) ?_
    · -- 0: load
      rw [if_pos (by rfl)]
      refine wp_load_row 70 (.tmp 2) rfl w.heap.size rfl 70 #[.int .i64 (p : Int), .slice A n c] (0, 0) _ bg_822.out Try.underlying70 rfl (by kernel_rfl) ?_
      refine hK _ _ ?_; clear hK K
      try simp only [Act.put, List.setIfInBounds_toArray, List.set_cons_zero, List.set_cons_succ]
      refine wpAny_ready (rs := [2]) (by kernel_rfl) (by simp) ?_
      refine AllReady.cons (o := { dst := some 10, op := Go.Op.call { callee := Go.Callee.value (Go.Operand.func 109), args := #[Go.Operand.tmp 9], argTypes := #[3] }, type := 79, pos := "graph.go:129", after := #[{ on := 1, ground := Go.Ground.data }], guard := none }) rfl (fun K hK => ?_) ?_
      · -- 2: call
        go_simp
        go_at_call 109
        refine (HC1.out _).mono ?_
        rintro e w829 ⟨rfl, hb830⟩
        dsimp only
        have bg_831 := Lib.hid (Blk.keep (bg_822.out) hb830)
        have b4_832 := Lib.hid (Blk.keep (b4_823.out) hb830)
        have bel_833 := Lib.hid (Below.trans (bel_824.out) (Below.mono hb830 ((bel_824.out).size)))
        have x_834 := Lib.hid (Blk.keep (x_828.out) hb830)
        refine hK _ _ ?_; clear hK K
        try simp only [Act.put, List.setIfInBounds_toArray, List.set_cons_zero, List.set_cons_succ]
        refine wpAny_ready (rs := [3]) (by kernel_rfl) (by simp) ?_
        refine AllReady.cons (o := { dst := some 11, op := Go.Op.call { callee := Go.Callee.value (Go.Operand.func 105), args := #[Go.Operand.tmp 8, Go.Operand.tmp 10], argTypes := #[70, 79] }, type := 80, pos := "graph.go:129", after := #[{ on := 0, ground := Go.Ground.data }, { on := 2, ground := Go.Ground.data }, { on := 2, ground := Go.Ground.chain }], guard := none }) rfl (fun K hK => ?_) ?_
        · -- 3: call
          go_simp
          go_at_call 105
          refine (HC2.out _ bel_833.out).mono ?_
          rintro e w835 ⟨rfl, hb836⟩
          dsimp only
          have bg_837 := Lib.hid (Blk.keep (bg_831.out) hb836)
          have b4_838 := Lib.hid (Blk.keep (b4_832.out) hb836)
          have bel_839 := Lib.hid (Below.trans (bel_833.out) (Below.mono hb836 ((bel_833.out).size)))
          have x_840 := Lib.hid (Blk.keep (x_834.out) hb836)
          refine hK _ _ ?_; clear hK K
          try simp only [Act.put, List.setIfInBounds_toArray, List.set_cons_zero, List.set_cons_succ]
          refine' wpAny_take (i := 4) (oi := { dst := some 7, op := Go.Op.move (Go.Operand.tmp 11), type := 80, pos := "graph.go:129", after := #[{ on := 3, ground := Go.Ground.data }], guard := none }) (v := _) rfl (by kernel_rfl) (by kernel_rfl) (by kernel_rfl) (fun _ _ _ h => h) (Or.inl ⟨by rfl, ?hyR841⟩)  ?reR841
          case hyR841 => ((intro w); go_simp; try with_reducible rfl)
          try simp only [Act.put, List.setIfInBounds_toArray, List.set_cons_zero, List.set_cons_succ]
          refine' wpAny_take (i := 5) (oi := { dst := some 12, op := Go.Op.extract (Go.Operand.tmp 7) 0, type := 79, pos := "graph.go:129", after := #[{ on := 4, ground := Go.Ground.data }], guard := none }) (v := _) rfl (by kernel_rfl) (by kernel_rfl) (by kernel_rfl) (fun _ _ _ h => h) (Or.inl ⟨by rfl, ?hyR842⟩)  ?reR842
          case hyR842 => ((intro w); go_simp; try with_reducible rfl)
          try simp only [Act.put, List.setIfInBounds_toArray, List.set_cons_zero, List.set_cons_succ]
          refine' wpAny_take (i := 6) (oi := { dst := some 13, op := Go.Op.extract (Go.Operand.tmp 7) 1, type := 4, pos := "graph.go:129", after := #[{ on := 4, ground := Go.Ground.data }, { on := 8, ground := Go.Ground.gcOnly Go.Departure.lateStores }], guard := none }) (v := _) rfl (by kernel_rfl) (by kernel_rfl) (by kernel_rfl) (fun _ _ _ h => h) (Or.inl ⟨by rfl, ?hyR843⟩)  ?reR843
          case hyR843 => ((intro w); go_simp; try with_reducible rfl)
          try simp only [Act.put, List.setIfInBounds_toArray, List.set_cons_zero, List.set_cons_succ]
          refine wpAny_ready (rs := [8]) (by kernel_rfl) (by simp) ?_
          refine AllReady.cons (o := { dst := none, op := Go.Op.store 79 (Go.Operand.tmp 5) (Go.Operand.tmp 12), type := 0, pos := "graph.go:129", after := #[{ on := 7, ground := Go.Ground.data }, { on := 5, ground := Go.Ground.data }, { on := 3, ground := Go.Ground.chain }, { on := 0, ground := Go.Ground.phase }, { on := 1, ground := Go.Ground.phase }, { on := 2, ground := Go.Ground.phase }, { on := 3, ground := Go.Ground.phase }, { on := 4, ground := Go.Ground.phase }, { on := 5, ground := Go.Ground.phase }, { on := 6, ground := Go.Ground.textOnly Go.Departure.lateStores }, { on := 7, ground := Go.Ground.phase }], guard := none }) rfl (fun K hK => ?_) ?_
          · -- 8: store
            rw [if_pos (by rfl)]
            refine wp_store_row 79 (.tmp 5) (.tmp 12) rfl _ (arr z) rfl rfl 79 (arr zeros) x_840.out (size_sums HL.out) ((arr_size _).trans (zeros_length.trans (HL.out.symm.trans (arr_size _).symm))) (arr_one _) ?_
            have bg_846 := Lib.hid (Blk.rowFar (bg_837.out) (ne825.out) (arr z))
            have b4_847 := Lib.hid (Blk.rowFar (b4_838.out) (ne826.out) (arr z))
            have bel_848 := Lib.hid (below_setRow (bel_839.out) (lb827.out) (arr z))
            have x_849 := Lib.hid (Blk.row (x_840.out) (arr z))
            obtain ⟨w844, hw845⟩ : ∃ w', w' = (w835).setRow g818 (arr z) := ⟨_, rfl⟩
            rw [← hw845] at bg_846 b4_847 bel_848 x_849
            rw [← hw845]
            clear hw845
            refine hK _ _ ?_; clear hK K
            try simp only [Act.put, List.setIfInBounds_toArray, List.set_cons_zero, List.set_cons_succ]
            refine' wpAny_take (i := 9) (oi := { dst := some 6, op := Go.Op.assign (Go.Operand.tmp 13), type := 4, pos := "graph.go:129", after := #[{ on := 6, ground := Go.Ground.data }, { on := 8, ground := Go.Ground.chain }, { on := 0, ground := Go.Ground.phase }, { on := 1, ground := Go.Ground.phase }, { on := 2, ground := Go.Ground.phase }, { on := 3, ground := Go.Ground.phase }, { on := 4, ground := Go.Ground.phase }, { on := 5, ground := Go.Ground.phase }, { on := 6, ground := Go.Ground.phase }, { on := 7, ground := Go.Ground.phase }, { on := 8, ground := Go.Ground.phase }], guard := none }) (v := _) rfl (by kernel_rfl) (by kernel_rfl) (by kernel_rfl) (fun _ _ _ h => h) (Or.inl ⟨by rfl, ?hyR850⟩)  ?reR850
            case hyR850 => ((intro w); go_simp; try with_reducible rfl)
            try simp only [Act.put, List.setIfInBounds_toArray, List.set_cons_zero, List.set_cons_succ]
            refine wpAny_done (by kernel_rfl) ?_ _
            go_wp2_with (first | (refine wpList_load_row rfl 79 (.tmp 5) rfl _ rfl _ (arr z) (0, 0) _ x_849.out Try.underlying79 rfl (size_sums HL.out) ?_) | (refine wpList_store_row rfl 79 (.tmp 4) (.tmp 14) rfl _ (arr z) rfl rfl _ (arr zeros) b4_847.out (size_sums HL.out) ((arr_size _).trans (zeros_length.trans (HL.out.symm.trans (arr_size _).symm))) (arr_one _) ?_))
            refine bodyPost_ret (results_cell_row rfl _ _ (w.heap.size + 1) 79 (arr z) (0, 0) _ rfl (Blk.row (b4_847.out) (arr z)) Try.underlying79 rfl (size_sums HL.out)) rfl ?_
            exact ⟨rfl, below_setRow (bel_848.out) (by omega) _⟩
          exact AllReady.nil
        exact AllReady.nil
      exact AllReady.nil
    refine AllReady.cons (o := { dst := some 10, op := Go.Op.call { callee := Go.Callee.value (Go.Operand.func 109), args := #[Go.Operand.tmp 9], argTypes := #[3] }, type := 79, pos := "graph.go:129", after := #[{ on := 1, ground := Go.Ground.data }], guard := none }) rfl (fun K hK => ?_) ?_
    · -- 2: call
      go_simp
      go_at_call 109
      refine (HC1.out _).mono ?_
      rintro e w851 ⟨rfl, hb852⟩
      dsimp only
      have bg_853 := Lib.hid (Blk.keep (bg_822.out) hb852)
      have b4_854 := Lib.hid (Blk.keep (b4_823.out) hb852)
      have bel_855 := Lib.hid (Below.trans (bel_824.out) (Below.mono hb852 ((bel_824.out).size)))
      have x_856 := Lib.hid (Blk.keep (x_828.out) hb852)
      refine hK _ _ ?_; clear hK K
      try simp only [Act.put, List.setIfInBounds_toArray, List.set_cons_zero, List.set_cons_succ]
      refine wpAny_ready (rs := [0]) (by kernel_rfl) (by simp) ?_
      refine AllReady.cons (o := { dst := some 8, op := Go.Op.load 70 (Go.Operand.tmp 2), type := 70, pos := "graph.go:129", after := #[], guard := none }) rfl (fun K hK => ?_) ?_
      · -- 0: load
        rw [if_pos (by rfl)]
        refine wp_load_row 70 (.tmp 2) rfl w.heap.size rfl 70 #[.int .i64 (p : Int), .slice A n c] (0, 0) _ bg_853.out Try.underlying70 rfl (by kernel_rfl) ?_
        refine hK _ _ ?_; clear hK K
        try simp only [Act.put, List.setIfInBounds_toArray, List.set_cons_zero, List.set_cons_succ]
        refine wpAny_ready (rs := [3]) (by kernel_rfl) (by simp) ?_
        refine AllReady.cons (o := { dst := some 11, op := Go.Op.call { callee := Go.Callee.value (Go.Operand.func 105), args := #[Go.Operand.tmp 8, Go.Operand.tmp 10], argTypes := #[70, 79] }, type := 80, pos := "graph.go:129", after := #[{ on := 0, ground := Go.Ground.data }, { on := 2, ground := Go.Ground.data }, { on := 2, ground := Go.Ground.chain }], guard := none }) rfl (fun K hK => ?_) ?_
        · -- 3: call
          go_simp
          go_at_call 105
          refine (HC2.out _ bel_855.out).mono ?_
          rintro e w857 ⟨rfl, hb858⟩
          dsimp only
          have bg_859 := Lib.hid (Blk.keep (bg_853.out) hb858)
          have b4_860 := Lib.hid (Blk.keep (b4_854.out) hb858)
          have bel_861 := Lib.hid (Below.trans (bel_855.out) (Below.mono hb858 ((bel_855.out).size)))
          have x_862 := Lib.hid (Blk.keep (x_856.out) hb858)
          refine hK _ _ ?_; clear hK K
          try simp only [Act.put, List.setIfInBounds_toArray, List.set_cons_zero, List.set_cons_succ]
          refine' wpAny_take (i := 4) (oi := { dst := some 7, op := Go.Op.move (Go.Operand.tmp 11), type := 80, pos := "graph.go:129", after := #[{ on := 3, ground := Go.Ground.data }], guard := none }) (v := _) rfl (by kernel_rfl) (by kernel_rfl) (by kernel_rfl) (fun _ _ _ h => h) (Or.inl ⟨by rfl, ?hyR863⟩)  ?reR863
          case hyR863 => ((intro w); go_simp; try with_reducible rfl)
          try simp only [Act.put, List.setIfInBounds_toArray, List.set_cons_zero, List.set_cons_succ]
          refine' wpAny_take (i := 5) (oi := { dst := some 12, op := Go.Op.extract (Go.Operand.tmp 7) 0, type := 79, pos := "graph.go:129", after := #[{ on := 4, ground := Go.Ground.data }], guard := none }) (v := _) rfl (by kernel_rfl) (by kernel_rfl) (by kernel_rfl) (fun _ _ _ h => h) (Or.inl ⟨by rfl, ?hyR864⟩)  ?reR864
          case hyR864 => ((intro w); go_simp; try with_reducible rfl)
          try simp only [Act.put, List.setIfInBounds_toArray, List.set_cons_zero, List.set_cons_succ]
          refine' wpAny_take (i := 6) (oi := { dst := some 13, op := Go.Op.extract (Go.Operand.tmp 7) 1, type := 4, pos := "graph.go:129", after := #[{ on := 4, ground := Go.Ground.data }, { on := 8, ground := Go.Ground.gcOnly Go.Departure.lateStores }], guard := none }) (v := _) rfl (by kernel_rfl) (by kernel_rfl) (by kernel_rfl) (fun _ _ _ h => h) (Or.inl ⟨by rfl, ?hyR865⟩)  ?reR865
          case hyR865 => ((intro w); go_simp; try with_reducible rfl)
          try simp only [Act.put, List.setIfInBounds_toArray, List.set_cons_zero, List.set_cons_succ]
          refine wpAny_ready (rs := [8]) (by kernel_rfl) (by simp) ?_
          refine AllReady.cons (o := { dst := none, op := Go.Op.store 79 (Go.Operand.tmp 5) (Go.Operand.tmp 12), type := 0, pos := "graph.go:129", after := #[{ on := 7, ground := Go.Ground.data }, { on := 5, ground := Go.Ground.data }, { on := 3, ground := Go.Ground.chain }, { on := 0, ground := Go.Ground.phase }, { on := 1, ground := Go.Ground.phase }, { on := 2, ground := Go.Ground.phase }, { on := 3, ground := Go.Ground.phase }, { on := 4, ground := Go.Ground.phase }, { on := 5, ground := Go.Ground.phase }, { on := 6, ground := Go.Ground.textOnly Go.Departure.lateStores }, { on := 7, ground := Go.Ground.phase }], guard := none }) rfl (fun K hK => ?_) ?_
          · -- 8: store
            rw [if_pos (by rfl)]
            refine wp_store_row 79 (.tmp 5) (.tmp 12) rfl _ (arr z) rfl rfl 79 (arr zeros) x_862.out (size_sums HL.out) ((arr_size _).trans (zeros_length.trans (HL.out.symm.trans (arr_size _).symm))) (arr_one _) ?_
            have bg_868 := Lib.hid (Blk.rowFar (bg_859.out) (ne825.out) (arr z))
            have b4_869 := Lib.hid (Blk.rowFar (b4_860.out) (ne826.out) (arr z))
            have bel_870 := Lib.hid (below_setRow (bel_861.out) (lb827.out) (arr z))
            have x_871 := Lib.hid (Blk.row (x_862.out) (arr z))
            obtain ⟨w866, hw867⟩ : ∃ w', w' = (w857).setRow g818 (arr z) := ⟨_, rfl⟩
            rw [← hw867] at bg_868 b4_869 bel_870 x_871
            rw [← hw867]
            clear hw867
            refine hK _ _ ?_; clear hK K
            try simp only [Act.put, List.setIfInBounds_toArray, List.set_cons_zero, List.set_cons_succ]
            refine' wpAny_take (i := 9) (oi := { dst := some 6, op := Go.Op.assign (Go.Operand.tmp 13), type := 4, pos := "graph.go:129", after := #[{ on := 6, ground := Go.Ground.data }, { on := 8, ground := Go.Ground.chain }, { on := 0, ground := Go.Ground.phase }, { on := 1, ground := Go.Ground.phase }, { on := 2, ground := Go.Ground.phase }, { on := 3, ground := Go.Ground.phase }, { on := 4, ground := Go.Ground.phase }, { on := 5, ground := Go.Ground.phase }, { on := 6, ground := Go.Ground.phase }, { on := 7, ground := Go.Ground.phase }, { on := 8, ground := Go.Ground.phase }], guard := none }) (v := _) rfl (by kernel_rfl) (by kernel_rfl) (by kernel_rfl) (fun _ _ _ h => h) (Or.inl ⟨by rfl, ?hyR872⟩)  ?reR872
            case hyR872 => ((intro w); go_simp; try with_reducible rfl)
            try simp only [Act.put, List.setIfInBounds_toArray, List.set_cons_zero, List.set_cons_succ]
            refine wpAny_done (by kernel_rfl) ?_ _
            go_wp2_with (first | (refine wpList_load_row rfl 79 (.tmp 5) rfl _ rfl _ (arr z) (0, 0) _ x_871.out Try.underlying79 rfl (size_sums HL.out) ?_) | (refine wpList_store_row rfl 79 (.tmp 4) (.tmp 14) rfl _ (arr z) rfl rfl _ (arr zeros) b4_869.out (size_sums HL.out) ((arr_size _).trans (zeros_length.trans (HL.out.symm.trans (arr_size _).symm))) (arr_one _) ?_))
            refine bodyPost_ret (results_cell_row rfl _ _ (w.heap.size + 1) 79 (arr z) (0, 0) _ rfl (Blk.row (b4_869.out) (arr z)) Try.underlying79 rfl (size_sums HL.out)) rfl ?_
            exact ⟨rfl, below_setRow (bel_870.out) (by omega) _⟩
          exact AllReady.nil
        exact AllReady.nil
      exact AllReady.nil
    exact AllReady.nil
  exact AllReady.nil
end Go.Proofs.Ythlnialipjihdaa
