/- solution, start, from: sums from zeros, and from a point. -/
import Derived.Test.YthlnialipjihdaaSet
set_option linter.unusedSimpArgs false
set_option linter.unusedVariables false
namespace Go.Proofs.Ythlnialipjihdaa
open Go.RowKit

theorem settle_len {l : List Bnd} {p : Nat} {x y : List Int} (h : settle l p x = some y) : y.length = x.length := by
  obtain ⟨k, _, e, _⟩ := settle_some h
  rw [e, rounds_length]

/-- What settled hands back. -/
def setL (l : List Bnd) (p : Nat) (x : List Int) : List Int := (settle l p x).getD zeros
theorem setL_length {l : List Bnd} {p : Nat} {x : List Int} (hx : x.length = 60) : (setL l p x).length = 60 := by
  unfold setL
  cases h : settle l p x with
  | none => rfl
  | some y => exact (settle_len h).trans hx

theorem settled_f (p : Nat) (A : Option Addr) (n c : Nat) (l : List Bnd) (x : List Int) (hx : Wd 800000000000 x) (hp : p ≤ 60) (hn400 : n ≤ 402) (hok : OkB l) (w : World) (hr : RdB w A n c l) :
    Calls Try.prog 105 #[.agg #[.int .i64 (p : Int), .slice A n c], .agg (arr x)] w fun e w' => e = .returned (.tuple #[.agg (arr (setL l p x)), .bool (settle l p x).isSome]) ∧ Below w.heap.size w w' :=
  (settled_any p A n c l x hx hp hn400 hok w hr).mono fun e w' h => by
    obtain ⟨y, ok, _, rfl, hb, ⟨rfl, h1⟩ | ⟨rfl, h1, h2⟩⟩ := h
    · unfold setL; rw [h1]; exact ⟨rfl, hb⟩
    · unfold setL; rw [h1, h2]; exact ⟨rfl, hb⟩

theorem at_zeros (i : Nat) : at_ zeros i = 0 := by
  unfold at_ zeros
  rw [List.getD_eq_getElem?_getD, List.getElem?_replicate]
  split <;> rfl
theorem wd_zeros {r : Int} (h : 0 ≤ r) : Wd r zeros := ⟨rfl, fun i _ => .inr (by rw [at_zeros]; omega)⟩

set_option maxHeartbeats 1000000 in
theorem solution_any (p : Nat) (A : Option Addr) (n c : Nat) (l : List Bnd) (hp : p ≤ 60) (hn400 : n ≤ 402) (hok : OkB l) (w : World) (hr : RdB w A n c l) :
    Calls Try.prog 70 #[.agg #[.int .i64 (p : Int), .slice A n c]] w fun e w' => e = .returned (.tuple #[.agg (arr (setL l p zeros)), .bool (settle l p zeros).isSome]) ∧ Below w.heap.size w w' := by
  have hl := setL_length (l := l) (p := p) zeros_length
  have hB : Below w.heap.size w ((w.alloc (.cells #[.int .i64 (p : Int), .slice A n c] 70)).alloc (.cells (arr zeros) 79)) := ((Below.refl _ w).alloc (Nat.le_refl _) _).alloc (by simp) _
  have hr2 := hr.below hB
  have hc := settled_f p A n c l zeros (wd_zeros (by omega)) hp hn400 hok _ hr2
  have b2 := Blk.new (w.alloc (.cells #[.int .i64 (p : Int), .slice A n c] 70)) 79 (arr zeros)
  simp only [World.size_alloc] at b2
  generalize settle l p zeros = q at *
  generalize setL l p zeros = z at *
  have HC := Lib.hid hc; have B2 := Lib.hid b2; have HL := Lib.hid hl; clear hc b2 hr2 hr hl
  go_enter Try.func70, Try.ntmps70
  go_wp2_with (first | (refine wpList_alloc_row rfl 79 rfl (arr zeros) zero_sums.1 ?_; simp only [World.size_alloc]) | (refine wpList_build0 rfl 79 rfl (arr zeros) built_sums ?_))
  refine HC.out.mono ?_
  rintro e w1 ⟨rfl, hb1⟩
  have b3 := B2.out.keep hb1
  have B3 := Lib.hid b3; clear b3
  go_wp2_with (first | (refine wpList_store_row rfl 79 (.tmp 2) (.tmp 7) rfl _ (arr z) rfl rfl _ (arr zeros) B3.out (size_sums HL.out) ((arr_size _).trans (zeros_length.trans (HL.out.symm.trans (arr_size _).symm))) (arr_one _) ?_))
  refine bodyPost_ret (results_row_tmp rfl _ _ (w.heap.size + 1) 79 (arr z) (0, 0) _ rfl (B3.out.row (arr z)) Try.underlying79 rfl (size_sums HL.out)) rfl ?_
  exact ⟨rfl, below_setRow (hB.trans (hb1.mono hB.size)) (by omega) _⟩

/-- No sums yet but that of a point itself. -/
def startL (a : Nat) : List Int := (List.replicate 60 Inf).set a 0
def startK (k : Nat) : List Int := List.replicate k Inf ++ List.replicate (60 - k) 0
theorem startK_length {k : Nat} (h : k ≤ 60) : (startK k).length = 60 := by simp [startK]; omega
theorem startK_set {k : Nat} (h : k < 60) : (startK k).set k Inf = startK (k + 1) := by
  unfold startK
  obtain ⟨d, hd⟩ : ∃ d, 60 - k = d + 1 := ⟨60 - k - 1, by omega⟩
  rw [hd, show 60 - (k + 1) = d from by omega, List.set_append_right _ _ (by simp)]
  rw [show List.replicate (d + 1) (0 : Int) = 0 :: List.replicate d 0 from rfl, List.length_replicate, Nat.sub_self, List.set_cons_zero, show List.replicate (k + 1) Inf = List.replicate k Inf ++ [Inf] from List.replicate_succ', List.append_assoc]
  rfl
theorem startK_all : startK 60 = List.replicate 60 Inf := by simp [startK]
theorem startL_length (a : Nat) : (startL a).length = 60 := by simp [startL]
theorem at_startL {a : Nat} (ha : a < 60) (i : Nat) (hi : i < 60) : at_ (startL a) i = if a = i then 0 else Inf := by
  unfold startL
  rw [at_set _ _ _ _ (by simpa using ha)]
  split
  · rfl
  · unfold at_
    rw [List.getD_eq_getElem?_getD, List.getElem?_replicate]
    simp [hi]
theorem wd_startL {r : Int} (h : 0 ≤ r) {a : Nat} (ha : a < 60) : Wd r (startL a) := ⟨startL_length a, fun i hi => by
  rw [at_startL ha i hi]
  split
  · exact .inr (by omega)
  · exact .inl rfl⟩

set_option maxHeartbeats 1000000 in
theorem start_any (a : Nat) (ha : a < 60) (w : World) :
    Calls Try.prog 109 #[.int .i64 (a : Int)] w fun e w' => e = .returned (.agg (arr (startL a))) ∧ Below w.heap.size w w' := by
  have b0 := (Blk.new w 79 (arr zeros)).alloc (.cells (arr zeros) 79)
  have b1 := Blk.new (w.alloc (.cells (arr zeros) 79)) 79 (arr zeros)
  simp only [World.size_alloc] at b1
  have hB : Below w.heap.size w ((w.alloc (.cells (arr zeros) 79)).alloc (.cells (arr zeros) 79)) := ((Below.refl _ w).alloc (Nat.le_refl _) _).alloc (by simp) _
  have B0 := Lib.hid b0; have B1 := Lib.hid b1; clear b0 b1
  go_enter Try.func109, Try.ntmps109
  go_wp2_with (first | (refine wpList_alloc_row rfl 79 rfl (arr zeros) zero_sums.1 ?_; simp only [World.size_alloc]))
  go_loopw [5] (fun i wr => ∃ k : Nat, k ≤ 60 ∧ i = .int .i64 k ∧ Blk wr (w.heap.size + 1) 79 (arr (startK k)) ∧ Blk wr w.heap.size 79 (arr zeros) ∧ Below w.heap.size w wr) (fun i _ => 60 - (intOf i).toNat)
  case atStart => exact ⟨0, by omega, rfl, B1.out, B0.out, hB⟩
  case round =>
    obtain ⟨k, hk, rfl, c1, c0, hBr⟩ := hrel
    have C1 := Lib.hid c1; have C0 := Lib.hid c0; clear c1 c0
    by_cases hlt : k < 60
    · have hlt' : (k : Int) < 60 := by omega
      have u0 : wr.cell? ⟨w.heap.size + 1, k, none⟩ = some (.int .i64 (at_ (startK k) k)) := (C1.out.cell k).trans (arr_get _ k (by rw [startK_length hk]; exact hlt))
      have u1 : wr.frozen? ⟨w.heap.size + 1, k, none⟩ = false := C1.out.frozen k
      have hset := C1.out.set_ k (.int .i64 Inf)
      rw [arr_set, startK_set hlt] at hset
      have HS := Lib.hid hset; clear hset
      go_wp2
      go_roundw
      case rel => exact ⟨k + 1, by omega, by go_num, HS.out, C0.out.far (by simp) _, hBr.setCell (p := ⟨w.heap.size + 1, k, none⟩) (by simp) _⟩
      case measure => simp [intOf]; omega
    · obtain rfl : k = 60 := by omega
      have ha' : (a : Int) < 60 := by omega
      have u0 : wr.cell? ⟨w.heap.size + 1, a, none⟩ = some (.int .i64 (at_ (startK 60) a)) := (C1.out.cell a).trans (arr_get _ a (by rw [startK_length hk]; exact ha))
      have u1 : wr.frozen? ⟨w.heap.size + 1, a, none⟩ = false := C1.out.frozen a
      have hset := C1.out.set_ a (.int .i64 0)
      rw [arr_set, startK_all] at hset
      have HS : Hid (Blk (wr.setCell ⟨w.heap.size + 1, a, none⟩ (.int .i64 0)) (w.heap.size + 1) 79 (arr (startL a))) := Lib.hid hset; clear hset
      have hz := C0.out.far (p := ⟨w.heap.size + 1, a, none⟩) (by simp) (.int .i64 0)
      have HZ := Lib.hid hz; clear hz
      go_wp2_with (first | (refine wpList_load_row rfl 79 (.tmp 3) rfl _ rfl _ (arr (startL a)) (0, 0) _ HS.out Try.underlying79 rfl (size_sums (startL_length a)) ?_) | (refine wpList_store_row rfl 79 (.tmp 2) (.tmp 13) rfl _ (arr (startL a)) rfl rfl _ (arr zeros) HZ.out (size_sums (startL_length a)) ((arr_size _).trans (zeros_length.trans ((startL_length a).symm.trans (arr_size _).symm))) (arr_one _) ?_))
      refine bodyPost_ret (results_cell_row rfl _ _ w.heap.size 79 (arr (startL a)) (0, 0) _ rfl (HZ.out.row _) Try.underlying79 rfl (size_sums (startL_length a))) rfl ?_
      exact ⟨rfl, below_setRow (hBr.setCell (p := ⟨w.heap.size + 1, a, none⟩) (by simp) _) (by omega) _⟩


set_option maxRecDepth 100000 in
set_option maxHeartbeats 4000000 in
theorem from_any (p a : Nat) (A : Option Addr) (n c : Nat) (l : List Bnd) (hp : p ≤ 60) (ha : a < 60) (hn400 : n ≤ 402) (hok : OkB l) (w : World) (hr : RdB w A n c l) :
    Calls Try.prog 81 #[.agg #[.int .i64 (p : Int), .slice A n c], .int .i64 (a : Int)] w fun e w' => e = .returned (.agg (arr (setL l p (startL a)))) ∧ Below w.heap.size w w' := by
  have hl := setL_length (l := l) (p := p) (startL_length a)
  have hB : Below w.heap.size w ((w.alloc (.cells #[.int .i64 (p : Int), .slice A n c] 70)).alloc (.cells (arr zeros) 79)).drew := (((Below.refl _ w).alloc (Nat.le_refl _) _).alloc (by simp) _).drew
  have hc1 := start_any a ha
  have hc2 := fun w' hw' => settled_f p A n c l (startL a) (wd_startL (by omega) ha) hp hn400 hok w' (hr.below hw')
  have b0 := ((Blk.new w 70 #[.int .i64 (p : Int), .slice A n c]).alloc (.cells (arr zeros) 79)).drew
  have b2 := (Blk.new (w.alloc (.cells #[.int .i64 (p : Int), .slice A n c] 70)) 79 (arr zeros)).drew
  simp only [World.size_alloc] at b2
  generalize setL l p (startL a) = z at *
  have HL := Lib.hid hl; have HC1 := Lib.hid hc1; have HC2 := Lib.hid hc2; have B0 := Lib.hid b0; have B2 := Lib.hid b2; have HBD := Lib.hid hB; clear hl hc1 hc2 hr b0 b2 hB
  go_enter Try.func81, Try.ntmps81
  go_wp2_with (first | (refine wpList_alloc_row rfl 79 rfl (arr zeros) zero_sums.1 ?_; simp only [World.size_alloc]))
  refine wp_region_any (by kernel_rfl) ?_
  change wpAny _ _ _ _ _ _ _ (World.drew _)
  refine' wpAny_take (i := 1) (oi := { dst := some 9, op := Go.Op.move (Go.Operand.tmp 1), type := 3, pos := "graph.go:129", after := #[], guard := none }) (v := _) rfl (by kernel_rfl) (by kernel_rfl) (by kernel_rfl) (fun _ _ _ h => h) (Or.inl ⟨by rfl, ?hyR677⟩)  ?reR677
  case hyR677 => ((intro w); go_simp; try with_reducible rfl)
  try simp only [Act.put, List.setIfInBounds_toArray, List.set_cons_zero, List.set_cons_succ]
  refine wpAny_ready (rs := [0, 2, 7]) (by kernel_rfl) (by simp) ?_
  refine AllReady.cons (o := { dst := some 8, op := Go.Op.load 70 (Go.Operand.tmp 2), type := 70, pos := "graph.go:129", after := #[], guard := none }) rfl (fun K hK => ?_) ?_
  · -- 0: load
    rw [if_pos (by rfl)]
    refine wp_load_row 70 (.tmp 2) rfl w.heap.size rfl 70 #[.int .i64 (p : Int), .slice A n c] (0, 0) _ B0.out Try.underlying70 rfl (by kernel_rfl) ?_
    refine hK _ _ ?_; clear hK K
    try simp only [Act.put, List.setIfInBounds_toArray, List.set_cons_zero, List.set_cons_succ]
    refine wpAny_ready (rs := [2, 7]) (by kernel_rfl) (by simp) ?_
    refine AllReady.cons (o := { dst := some 10, op := Go.Op.call { callee := Go.Callee.value (Go.Operand.func 109), args := #[Go.Operand.tmp 9], argTypes := #[3] }, type := 79, pos := "graph.go:129", after := #[{ on := 1, ground := Go.Ground.data }], guard := none }) rfl (fun K hK => ?_) ?_
    · -- 2: call
      go_simp
      go_at_call 109
      refine (HC1.out _).mono ?_
      rintro e w678 ⟨rfl, hb679⟩
      dsimp only
      have bg_680 := Lib.hid (Blk.keep (B0.out) hb679)
      have b4_681 := Lib.hid (Blk.keep (B2.out) hb679)
      have bel_682 := Lib.hid (Below.trans (HBD.out) (Below.mono hb679 ((HBD.out).size)))
      refine hK _ _ ?_; clear hK K
      try simp only [Act.put, List.setIfInBounds_toArray, List.set_cons_zero, List.set_cons_succ]
      refine wpAny_ready (rs := [3, 7]) (by kernel_rfl) (by simp) ?_
      refine AllReady.cons (o := { dst := some 11, op := Go.Op.call { callee := Go.Callee.value (Go.Operand.func 105), args := #[Go.Operand.tmp 8, Go.Operand.tmp 10], argTypes := #[70, 79] }, type := 80, pos := "graph.go:129", after := #[{ on := 0, ground := Go.Ground.data }, { on := 2, ground := Go.Ground.data }, { on := 2, ground := Go.Ground.chain }], guard := none }) rfl (fun K hK => ?_) ?_
      · -- 3: call
        go_simp
        go_at_call 105
        refine (HC2.out _ bel_682.out).mono ?_
        rintro e w683 ⟨rfl, hb684⟩
        dsimp only
        have bg_685 := Lib.hid (Blk.keep (bg_680.out) hb684)
        have b4_686 := Lib.hid (Blk.keep (b4_681.out) hb684)
        have bel_687 := Lib.hid (Below.trans (bel_682.out) (Below.mono hb684 ((bel_682.out).size)))
        refine hK _ _ ?_; clear hK K
        try simp only [Act.put, List.setIfInBounds_toArray, List.set_cons_zero, List.set_cons_succ]
        refine' wpAny_take (i := 4) (oi := { dst := some 7, op := Go.Op.move (Go.Operand.tmp 11), type := 80, pos := "graph.go:129", after := #[{ on := 3, ground := Go.Ground.data }], guard := none }) (v := _) rfl (by kernel_rfl) (by kernel_rfl) (by kernel_rfl) (fun _ _ _ h => h) (Or.inl ⟨by rfl, ?hyR688⟩)  ?reR688
        case hyR688 => ((intro w); go_simp; try with_reducible rfl)
        try simp only [Act.put, List.setIfInBounds_toArray, List.set_cons_zero, List.set_cons_succ]
        refine' wpAny_take (i := 5) (oi := { dst := some 12, op := Go.Op.extract (Go.Operand.tmp 7) 0, type := 79, pos := "graph.go:129", after := #[{ on := 4, ground := Go.Ground.data }], guard := none }) (v := _) rfl (by kernel_rfl) (by kernel_rfl) (by kernel_rfl) (fun _ _ _ h => h) (Or.inl ⟨by rfl, ?hyR689⟩)  ?reR689
        case hyR689 => ((intro w); go_simp; try with_reducible rfl)
        try simp only [Act.put, List.setIfInBounds_toArray, List.set_cons_zero, List.set_cons_succ]
        refine' wpAny_take (i := 6) (oi := { dst := some 13, op := Go.Op.extract (Go.Operand.tmp 7) 1, type := 4, pos := "graph.go:129", after := #[{ on := 4, ground := Go.Ground.data }, { on := 8, ground := Go.Ground.gcOnly Go.Departure.lateStores }], guard := none }) (v := _) rfl (by kernel_rfl) (by kernel_rfl) (by kernel_rfl) (fun _ _ _ h => h) (Or.inl ⟨by rfl, ?hyR690⟩)  ?reR690
        case hyR690 => ((intro w); go_simp; try with_reducible rfl)
        try simp only [Act.put, List.setIfInBounds_toArray, List.set_cons_zero, List.set_cons_succ]
        refine wpAny_ready (rs := [7]) (by kernel_rfl) (by simp) ?_
        refine AllReady.cons (o := { dst := some 5, op := Go.Op.alloc 79, type := 0, pos := "graph.go:129", after := #[], guard := none }) rfl (fun K hK => ?_) ?_
        · -- 7: alloc
          rw [if_pos (by rfl)]
          refine wp_alloc_row 79 rfl (arr zeros) zero_sums.1 ?_
          have bg_695 := Lib.hid (Blk.alloc (bg_685.out) (.cells (arr zeros) 79))
          have b4_696 := Lib.hid (Blk.alloc (b4_686.out) (.cells (arr zeros) 79))
          have bel_697 := Lib.hid (Below.alloc (bel_687.out) ((bel_687.out).size) (.cells (arr zeros) 79))
          have ne698 := Lib.hid (Nat.ne_of_lt (Blk.lt bg_685.out))
          have ne699 := Lib.hid (Nat.ne_of_lt (Blk.lt b4_686.out))
          have lb700 := Lib.hid (bel_687.out.size)
          have x_701 := Lib.hid (Blk.new (w683) 79 (arr zeros))
          obtain ⟨g691, hg692⟩ : ∃ g, g = (w683).heap.size := ⟨_, rfl⟩
          obtain ⟨w693, hw694⟩ : ∃ w', w' = (w683).alloc (.cells (arr zeros) 79) := ⟨_, rfl⟩
          rw [← hw694] at bg_695 b4_696 bel_697 x_701
          rw [← hg692] at ne698 ne699 lb700 x_701
          rw [← hg692, ← hw694]
          clear hg692 hw694
          refine hK _ _ ?_; clear hK K
          try simp only [Act.put, List.setIfInBounds_toArray, List.set_cons_zero, List.set_cons_succ]
          refine wpAny_ready (rs := [8]) (by kernel_rfl) (by simp) ?_
          refine AllReady.cons (o := { dst := none, op := Go.Op.store 79 (Go.Operand.tmp 5) (Go.Operand.tmp 12), type := 0, pos := "graph.go:129", after := #[{ on := 7, ground := Go.Ground.data }, { on := 5, ground := Go.Ground.data }, { on := 3, ground := Go.Ground.chain }, { on := 0, ground := Go.Ground.phase }, { on := 1, ground := Go.Ground.phase }, { on := 2, ground := Go.Ground.phase }, { on := 3, ground := Go.Ground.phase }, { on := 4, ground := Go.Ground.phase }, { on := 5, ground := Go.Ground.phase }, { on := 6, ground := Go.Ground.textOnly Go.Departure.lateStores }, { on := 7, ground := Go.Ground.phase }], guard := none }) rfl (fun K hK => ?_) ?_
          · -- 8: store
            rw [if_pos (by rfl)]
            refine wp_store_row 79 (.tmp 5) (.tmp 12) rfl _ (arr z) rfl rfl 79 (arr zeros) x_701.out (size_sums HL.out) ((arr_size _).trans (zeros_length.trans (HL.out.symm.trans (arr_size _).symm))) (arr_one _) ?_
            have bg_704 := Lib.hid (Blk.rowFar (bg_695.out) (ne698.out) (arr z))
            have b4_705 := Lib.hid (Blk.rowFar (b4_696.out) (ne699.out) (arr z))
            have bel_706 := Lib.hid (below_setRow (bel_697.out) (lb700.out) (arr z))
            have x_707 := Lib.hid (Blk.row (x_701.out) (arr z))
            obtain ⟨w702, hw703⟩ : ∃ w', w' = (w693).setRow g691 (arr z) := ⟨_, rfl⟩
            rw [← hw703] at bg_704 b4_705 bel_706 x_707
            rw [← hw703]
            clear hw703
            refine hK _ _ ?_; clear hK K
            try simp only [Act.put, List.setIfInBounds_toArray, List.set_cons_zero, List.set_cons_succ]
            refine' wpAny_take (i := 9) (oi := { dst := some 6, op := Go.Op.assign (Go.Operand.tmp 13), type := 4, pos := "graph.go:129", after := #[{ on := 6, ground := Go.Ground.data }, { on := 8, ground := Go.Ground.chain }, { on := 0, ground := Go.Ground.phase }, { on := 1, ground := Go.Ground.phase }, { on := 2, ground := Go.Ground.phase }, { on := 3, ground := Go.Ground.phase }, { on := 4, ground := Go.Ground.phase }, { on := 5, ground := Go.Ground.phase }, { on := 6, ground := Go.Ground.phase }, { on := 7, ground := Go.Ground.phase }, { on := 8, ground := Go.Ground.phase }], guard := none }) (v := _) rfl (by kernel_rfl) (by kernel_rfl) (by kernel_rfl) (fun _ _ _ h => h) (Or.inl ⟨by rfl, ?hyR708⟩)  ?reR708
            case hyR708 => ((intro w); go_simp; try with_reducible rfl)
            try simp only [Act.put, List.setIfInBounds_toArray, List.set_cons_zero, List.set_cons_succ]
            refine wpAny_done (by kernel_rfl) ?_ _
            go_wp2_with (first | (refine wpList_load_row rfl 79 (.tmp 5) rfl _ rfl _ (arr z) (0, 0) _ x_707.out Try.underlying79 rfl (size_sums HL.out) ?_) | (refine wpList_store_row rfl 79 (.tmp 4) (.tmp 14) rfl _ (arr z) rfl rfl _ (arr zeros) b4_705.out (size_sums HL.out) ((arr_size _).trans (zeros_length.trans (HL.out.symm.trans (arr_size _).symm))) (arr_one _) ?_))
            refine bodyPost_ret (results_cell_row rfl _ _ (w.heap.size + 1) 79 (arr z) (0, 0) _ rfl (Blk.row (b4_705.out) (arr z)) Try.underlying79 rfl (size_sums HL.out)) rfl ?_
            exact ⟨rfl, below_setRow (bel_706.out) (by omega) _⟩
          exact AllReady.nil
        exact AllReady.nil
      refine AllReady.cons (o := { dst := some 5, op := Go.Op.alloc 79, type := 0, pos := "graph.go:129", after := #[], guard := none }) rfl (fun K hK => ?_) ?_
      · -- 7: alloc
        rw [if_pos (by rfl)]
        refine wp_alloc_row 79 rfl (arr zeros) zero_sums.1 ?_
        have bg_713 := Lib.hid (Blk.alloc (bg_680.out) (.cells (arr zeros) 79))
        have b4_714 := Lib.hid (Blk.alloc (b4_681.out) (.cells (arr zeros) 79))
        have bel_715 := Lib.hid (Below.alloc (bel_682.out) ((bel_682.out).size) (.cells (arr zeros) 79))
        have ne716 := Lib.hid (Nat.ne_of_lt (Blk.lt bg_680.out))
        have ne717 := Lib.hid (Nat.ne_of_lt (Blk.lt b4_681.out))
        have lb718 := Lib.hid (bel_682.out.size)
        have x_719 := Lib.hid (Blk.new (w678) 79 (arr zeros))
        obtain ⟨g709, hg710⟩ : ∃ g, g = (w678).heap.size := ⟨_, rfl⟩
        obtain ⟨w711, hw712⟩ : ∃ w', w' = (w678).alloc (.cells (arr zeros) 79) := ⟨_, rfl⟩
        rw [← hw712] at bg_713 b4_714 bel_715 x_719
        rw [← hg710] at ne716 ne717 lb718 x_719
        rw [← hg710, ← hw712]
        clear hg710 hw712
        refine hK _ _ ?_; clear hK K
        try simp only [Act.put, List.setIfInBounds_toArray, List.set_cons_zero, List.set_cons_succ]
        refine wpAny_ready (rs := [3]) (by kernel_rfl) (by simp) ?_
        refine AllReady.cons (o := { dst := some 11, op := Go.Op.call { callee := Go.Callee.value (Go.Operand.func 105), args := #[Go.Operand.tmp 8, Go.Operand.tmp 10], argTypes := #[70, 79] }, type := 80, pos := "graph.go:129", after := #[{ on := 0, ground := Go.Ground.data }, { on := 2, ground := Go.Ground.data }, { on := 2, ground := Go.Ground.chain }], guard := none }) rfl (fun K hK => ?_) ?_
        · -- 3: call
          go_simp
          go_at_call 105
          refine (HC2.out _ bel_715.out).mono ?_
          rintro e w720 ⟨rfl, hb721⟩
          dsimp only
          have bg_722 := Lib.hid (Blk.keep (bg_713.out) hb721)
          have b4_723 := Lib.hid (Blk.keep (b4_714.out) hb721)
          have bel_724 := Lib.hid (Below.trans (bel_715.out) (Below.mono hb721 ((bel_715.out).size)))
          have x_725 := Lib.hid (Blk.keep (x_719.out) hb721)
          refine hK _ _ ?_; clear hK K
          try simp only [Act.put, List.setIfInBounds_toArray, List.set_cons_zero, List.set_cons_succ]
          refine' wpAny_take (i := 4) (oi := { dst := some 7, op := Go.Op.move (Go.Operand.tmp 11), type := 80, pos := "graph.go:129", after := #[{ on := 3, ground := Go.Ground.data }], guard := none }) (v := _) rfl (by kernel_rfl) (by kernel_rfl) (by kernel_rfl) (fun _ _ _ h => h) (Or.inl ⟨by rfl, ?hyR726⟩)  ?reR726
          case hyR726 => ((intro w); go_simp; try with_reducible rfl)
          try simp only [Act.put, List.setIfInBounds_toArray, List.set_cons_zero, List.set_cons_succ]
          refine' wpAny_take (i := 5) (oi := { dst := some 12, op := Go.Op.extract (Go.Operand.tmp 7) 0, type := 79, pos := "graph.go:129", after := #[{ on := 4, ground := Go.Ground.data }], guard := none }) (v := _) rfl (by kernel_rfl) (by kernel_rfl) (by kernel_rfl) (fun _ _ _ h => h) (Or.inl ⟨by rfl, ?hyR727⟩)  ?reR727
          case hyR727 => ((intro w); go_simp; try with_reducible rfl)
          try simp only [Act.put, List.setIfInBounds_toArray, List.set_cons_zero, List.set_cons_succ]
          refine' wpAny_take (i := 6) (oi := { dst := some 13, op := Go.Op.extract (Go.Operand.tmp 7) 1, type := 4, pos := "graph.go:129", after := #[{ on := 4, ground := Go.Ground.data }, { on := 8, ground := Go.Ground.gcOnly Go.Departure.lateStores }], guard := none }) (v := _) rfl (by kernel_rfl) (by kernel_rfl) (by kernel_rfl) (fun _ _ _ h => h) (Or.inl ⟨by rfl, ?hyR728⟩)  ?reR728
          case hyR728 => ((intro w); go_simp; try with_reducible rfl)
          try simp only [Act.put, List.setIfInBounds_toArray, List.set_cons_zero, List.set_cons_succ]
          refine wpAny_ready (rs := [8]) (by kernel_rfl) (by simp) ?_
          refine AllReady.cons (o := { dst := none, op := Go.Op.store 79 (Go.Operand.tmp 5) (Go.Operand.tmp 12), type := 0, pos := "graph.go:129", after := #[{ on := 7, ground := Go.Ground.data }, { on := 5, ground := Go.Ground.data }, { on := 3, ground := Go.Ground.chain }, { on := 0, ground := Go.Ground.phase }, { on := 1, ground := Go.Ground.phase }, { on := 2, ground := Go.Ground.phase }, { on := 3, ground := Go.Ground.phase }, { on := 4, ground := Go.Ground.phase }, { on := 5, ground := Go.Ground.phase }, { on := 6, ground := Go.Ground.textOnly Go.Departure.lateStores }, { on := 7, ground := Go.Ground.phase }], guard := none }) rfl (fun K hK => ?_) ?_
          · -- 8: store
            rw [if_pos (by rfl)]
            refine wp_store_row 79 (.tmp 5) (.tmp 12) rfl _ (arr z) rfl rfl 79 (arr zeros) x_725.out (size_sums HL.out) ((arr_size _).trans (zeros_length.trans (HL.out.symm.trans (arr_size _).symm))) (arr_one _) ?_
            have bg_731 := Lib.hid (Blk.rowFar (bg_722.out) (ne716.out) (arr z))
            have b4_732 := Lib.hid (Blk.rowFar (b4_723.out) (ne717.out) (arr z))
            have bel_733 := Lib.hid (below_setRow (bel_724.out) (lb718.out) (arr z))
            have x_734 := Lib.hid (Blk.row (x_725.out) (arr z))
            obtain ⟨w729, hw730⟩ : ∃ w', w' = (w720).setRow g709 (arr z) := ⟨_, rfl⟩
            rw [← hw730] at bg_731 b4_732 bel_733 x_734
            rw [← hw730]
            clear hw730
            refine hK _ _ ?_; clear hK K
            try simp only [Act.put, List.setIfInBounds_toArray, List.set_cons_zero, List.set_cons_succ]
            refine' wpAny_take (i := 9) (oi := { dst := some 6, op := Go.Op.assign (Go.Operand.tmp 13), type := 4, pos := "graph.go:129", after := #[{ on := 6, ground := Go.Ground.data }, { on := 8, ground := Go.Ground.chain }, { on := 0, ground := Go.Ground.phase }, { on := 1, ground := Go.Ground.phase }, { on := 2, ground := Go.Ground.phase }, { on := 3, ground := Go.Ground.phase }, { on := 4, ground := Go.Ground.phase }, { on := 5, ground := Go.Ground.phase }, { on := 6, ground := Go.Ground.phase }, { on := 7, ground := Go.Ground.phase }, { on := 8, ground := Go.Ground.phase }], guard := none }) (v := _) rfl (by kernel_rfl) (by kernel_rfl) (by kernel_rfl) (fun _ _ _ h => h) (Or.inl ⟨by rfl, ?hyR735⟩)  ?reR735
            case hyR735 => ((intro w); go_simp; try with_reducible rfl)
            try simp only [Act.put, List.setIfInBounds_toArray, List.set_cons_zero, List.set_cons_succ]
            refine wpAny_done (by kernel_rfl) ?_ _
            go_wp2_with (first | (refine wpList_load_row rfl 79 (.tmp 5) rfl _ rfl _ (arr z) (0, 0) _ x_734.out Try.underlying79 rfl (size_sums HL.out) ?_) | (refine wpList_store_row rfl 79 (.tmp 4) (.tmp 14) rfl _ (arr z) rfl rfl _ (arr zeros) b4_732.out (size_sums HL.out) ((arr_size _).trans (zeros_length.trans (HL.out.symm.trans (arr_size _).symm))) (arr_one _) ?_))
            refine bodyPost_ret (results_cell_row rfl _ _ (w.heap.size + 1) 79 (arr z) (0, 0) _ rfl (Blk.row (b4_732.out) (arr z)) Try.underlying79 rfl (size_sums HL.out)) rfl ?_
            exact ⟨rfl, below_setRow (bel_733.out) (by omega) _⟩
          exact AllReady.nil
        exact AllReady.nil
      exact AllReady.nil
    refine AllReady.cons (o := { dst := some 5, op := Go.Op.alloc 79, type := 0, pos := "graph.go:129", after := #[], guard := none }) rfl (fun K hK => ?_) ?_
    · -- 7: alloc
      rw [if_pos (by rfl)]
      refine wp_alloc_row 79 rfl (arr zeros) zero_sums.1 ?_
      have bg_740 := Lib.hid (Blk.alloc (B0.out) (.cells (arr zeros) 79))
      have b4_741 := Lib.hid (Blk.alloc (B2.out) (.cells (arr zeros) 79))
      have bel_742 := Lib.hid (Below.alloc (HBD.out) ((HBD.out).size) (.cells (arr zeros) 79))
      have ne743 := Lib.hid (Nat.ne_of_lt (Blk.lt B0.out))
      have ne744 := Lib.hid (Nat.ne_of_lt (Blk.lt B2.out))
      have lb745 := Lib.hid (HBD.out.size)
      have x_746 := Lib.hid (Blk.new (((w.alloc (.cells #[.int .i64 (p : Int), .slice A n c] 70)).alloc (.cells (arr zeros) 79)).drew) 79 (arr zeros))
      obtain ⟨g736, hg737⟩ : ∃ g, g = (((w.alloc (.cells #[.int .i64 (p : Int), .slice A n c] 70)).alloc (.cells (arr zeros) 79)).drew).heap.size := ⟨_, rfl⟩
      obtain ⟨w738, hw739⟩ : ∃ w', w' = (((w.alloc (.cells #[.int .i64 (p : Int), .slice A n c] 70)).alloc (.cells (arr zeros) 79)).drew).alloc (.cells (arr zeros) 79) := ⟨_, rfl⟩
      rw [← hw739] at bg_740 b4_741 bel_742 x_746
      rw [← hg737] at ne743 ne744 lb745 x_746
      rw [← hg737, ← hw739]
      clear hg737 hw739
      refine hK _ _ ?_; clear hK K
      try simp only [Act.put, List.setIfInBounds_toArray, List.set_cons_zero, List.set_cons_succ]
      refine wpAny_ready (rs := [2]) (by kernel_rfl) (by simp) ?_
      refine AllReady.cons (o := { dst := some 10, op := Go.Op.call { callee := Go.Callee.value (Go.Operand.func 109), args := #[Go.Operand.tmp 9], argTypes := #[3] }, type := 79, pos := "graph.go:129", after := #[{ on := 1, ground := Go.Ground.data }], guard := none }) rfl (fun K hK => ?_) ?_
      · -- 2: call
        go_simp
        go_at_call 109
        refine (HC1.out _).mono ?_
        rintro e w747 ⟨rfl, hb748⟩
        dsimp only
        have bg_749 := Lib.hid (Blk.keep (bg_740.out) hb748)
        have b4_750 := Lib.hid (Blk.keep (b4_741.out) hb748)
        have bel_751 := Lib.hid (Below.trans (bel_742.out) (Below.mono hb748 ((bel_742.out).size)))
        have x_752 := Lib.hid (Blk.keep (x_746.out) hb748)
        refine hK _ _ ?_; clear hK K
        try simp only [Act.put, List.setIfInBounds_toArray, List.set_cons_zero, List.set_cons_succ]
        refine wpAny_ready (rs := [3]) (by kernel_rfl) (by simp) ?_
        refine AllReady.cons (o := { dst := some 11, op := Go.Op.call { callee := Go.Callee.value (Go.Operand.func 105), args := #[Go.Operand.tmp 8, Go.Operand.tmp 10], argTypes := #[70, 79] }, type := 80, pos := "graph.go:129", after := #[{ on := 0, ground := Go.Ground.data }, { on := 2, ground := Go.Ground.data }, { on := 2, ground := Go.Ground.chain }], guard := none }) rfl (fun K hK => ?_) ?_
        · -- 3: call
          go_simp
          go_at_call 105
          refine (HC2.out _ bel_751.out).mono ?_
          rintro e w753 ⟨rfl, hb754⟩
          dsimp only
          have bg_755 := Lib.hid (Blk.keep (bg_749.out) hb754)
          have b4_756 := Lib.hid (Blk.keep (b4_750.out) hb754)
          have bel_757 := Lib.hid (Below.trans (bel_751.out) (Below.mono hb754 ((bel_751.out).size)))
          have x_758 := Lib.hid (Blk.keep (x_752.out) hb754)
          refine hK _ _ ?_; clear hK K
          try simp only [Act.put, List.setIfInBounds_toArray, List.set_cons_zero, List.set_cons_succ]
          refine' wpAny_take (i := 4) (oi := { dst := some 7, op := Go.Op.move (Go.Operand.tmp 11), type := 80, pos := "graph.go:129", after := #[{ on := 3, ground := Go.Ground.data }], guard := none }) (v := _) rfl (by kernel_rfl) (by kernel_rfl) (by kernel_rfl) (fun _ _ _ h => h) (Or.inl ⟨by rfl, ?hyR759⟩)  ?reR759
          case hyR759 => ((intro w); go_simp; try with_reducible rfl)
          try simp only [Act.put, List.setIfInBounds_toArray, List.set_cons_zero, List.set_cons_succ]
          refine' wpAny_take (i := 5) (oi := { dst := some 12, op := Go.Op.extract (Go.Operand.tmp 7) 0, type := 79, pos := "graph.go:129", after := #[{ on := 4, ground := Go.Ground.data }], guard := none }) (v := _) rfl (by kernel_rfl) (by kernel_rfl) (by kernel_rfl) (fun _ _ _ h => h) (Or.inl ⟨by rfl, ?hyR760⟩)  ?reR760
          case hyR760 => ((intro w); go_simp; try with_reducible rfl)
          try simp only [Act.put, List.setIfInBounds_toArray, List.set_cons_zero, List.set_cons_succ]
          refine' wpAny_take (i := 6) (oi := { dst := some 13, op := Go.Op.extract (Go.Operand.tmp 7) 1, type := 4, pos := "graph.go:129", after := #[{ on := 4, ground := Go.Ground.data }, { on := 8, ground := Go.Ground.gcOnly Go.Departure.lateStores }], guard := none }) (v := _) rfl (by kernel_rfl) (by kernel_rfl) (by kernel_rfl) (fun _ _ _ h => h) (Or.inl ⟨by rfl, ?hyR761⟩)  ?reR761
          case hyR761 => ((intro w); go_simp; try with_reducible rfl)
          try simp only [Act.put, List.setIfInBounds_toArray, List.set_cons_zero, List.set_cons_succ]
          refine wpAny_ready (rs := [8]) (by kernel_rfl) (by simp) ?_
          refine AllReady.cons (o := { dst := none, op := Go.Op.store 79 (Go.Operand.tmp 5) (Go.Operand.tmp 12), type := 0, pos := "graph.go:129", after := #[{ on := 7, ground := Go.Ground.data }, { on := 5, ground := Go.Ground.data }, { on := 3, ground := Go.Ground.chain }, { on := 0, ground := Go.Ground.phase }, { on := 1, ground := Go.Ground.phase }, { on := 2, ground := Go.Ground.phase }, { on := 3, ground := Go.Ground.phase }, { on := 4, ground := Go.Ground.phase }, { on := 5, ground := Go.Ground.phase }, { on := 6, ground := Go.Ground.textOnly Go.Departure.lateStores }, { on := 7, ground := Go.Ground.phase }], guard := none }) rfl (fun K hK => ?_) ?_
          · -- 8: store
            rw [if_pos (by rfl)]
            refine wp_store_row 79 (.tmp 5) (.tmp 12) rfl _ (arr z) rfl rfl 79 (arr zeros) x_758.out (size_sums HL.out) ((arr_size _).trans (zeros_length.trans (HL.out.symm.trans (arr_size _).symm))) (arr_one _) ?_
            have bg_764 := Lib.hid (Blk.rowFar (bg_755.out) (ne743.out) (arr z))
            have b4_765 := Lib.hid (Blk.rowFar (b4_756.out) (ne744.out) (arr z))
            have bel_766 := Lib.hid (below_setRow (bel_757.out) (lb745.out) (arr z))
            have x_767 := Lib.hid (Blk.row (x_758.out) (arr z))
            obtain ⟨w762, hw763⟩ : ∃ w', w' = (w753).setRow g736 (arr z) := ⟨_, rfl⟩
            rw [← hw763] at bg_764 b4_765 bel_766 x_767
            rw [← hw763]
            clear hw763
            refine hK _ _ ?_; clear hK K
            try simp only [Act.put, List.setIfInBounds_toArray, List.set_cons_zero, List.set_cons_succ]
            refine' wpAny_take (i := 9) (oi := { dst := some 6, op := Go.Op.assign (Go.Operand.tmp 13), type := 4, pos := "graph.go:129", after := #[{ on := 6, ground := Go.Ground.data }, { on := 8, ground := Go.Ground.chain }, { on := 0, ground := Go.Ground.phase }, { on := 1, ground := Go.Ground.phase }, { on := 2, ground := Go.Ground.phase }, { on := 3, ground := Go.Ground.phase }, { on := 4, ground := Go.Ground.phase }, { on := 5, ground := Go.Ground.phase }, { on := 6, ground := Go.Ground.phase }, { on := 7, ground := Go.Ground.phase }, { on := 8, ground := Go.Ground.phase }], guard := none }) (v := _) rfl (by kernel_rfl) (by kernel_rfl) (by kernel_rfl) (fun _ _ _ h => h) (Or.inl ⟨by rfl, ?hyR768⟩)  ?reR768
            case hyR768 => ((intro w); go_simp; try with_reducible rfl)
            try simp only [Act.put, List.setIfInBounds_toArray, List.set_cons_zero, List.set_cons_succ]
            refine wpAny_done (by kernel_rfl) ?_ _
            go_wp2_with (first | (refine wpList_load_row rfl 79 (.tmp 5) rfl _ rfl _ (arr z) (0, 0) _ x_767.out Try.underlying79 rfl (size_sums HL.out) ?_) | (refine wpList_store_row rfl 79 (.tmp 4) (.tmp 14) rfl _ (arr z) rfl rfl _ (arr zeros) b4_765.out (size_sums HL.out) ((arr_size _).trans (zeros_length.trans (HL.out.symm.trans (arr_size _).symm))) (arr_one _) ?_))
            refine bodyPost_ret (results_cell_row rfl _ _ (w.heap.size + 1) 79 (arr z) (0, 0) _ rfl (Blk.row (b4_765.out) (arr z)) Try.underlying79 rfl (size_sums HL.out)) rfl ?_
            exact ⟨rfl, below_setRow (bel_766.out) (by omega) _⟩
          exact AllReady.nil
        exact AllReady.nil
      exact AllReady.nil
    exact AllReady.nil
  refine AllReady.cons (o := { dst := some 10, op := Go.Op.call { callee := Go.Callee.value (Go.Operand.func 109), args := #[Go.Operand.tmp 9], argTypes := #[3] }, type := 79, pos := "graph.go:129", after := #[{ on := 1, ground := Go.Ground.data }], guard := none }) rfl (fun K hK => ?_) ?_
  · -- 2: call
    go_simp
    go_at_call 109
    refine (HC1.out _).mono ?_
    rintro e w769 ⟨rfl, hb770⟩
    dsimp only
    have bg_771 := Lib.hid (Blk.keep (B0.out) hb770)
    have b4_772 := Lib.hid (Blk.keep (B2.out) hb770)
    have bel_773 := Lib.hid (Below.trans (HBD.out) (Below.mono hb770 ((HBD.out).size)))
    refine hK _ _ ?_; clear hK K
    try simp only [Act.put, List.setIfInBounds_toArray, List.set_cons_zero, List.set_cons_succ]
    refine wpAny_ready (rs := [0, 7]) (by kernel_rfl) (by simp) ?_
    refine AllReady.cons (o := { dst := some 8, op := Go.Op.load 70 (Go.Operand.tmp 2), type := 70, pos := "graph.go:129", after := #[], guard := none }) rfl (fun K hK => ?_) ?_
    · -- 0: load
      rw [if_pos (by rfl)]
      refine wp_load_row 70 (.tmp 2) rfl w.heap.size rfl 70 #[.int .i64 (p : Int), .slice A n c] (0, 0) _ bg_771.out Try.underlying70 rfl (by kernel_rfl) ?_
      refine hK _ _ ?_; clear hK K
      try simp only [Act.put, List.setIfInBounds_toArray, List.set_cons_zero, List.set_cons_succ]
      refine wpAny_ready (rs := [3, 7]) (by kernel_rfl) (by simp) ?_
      refine AllReady.cons (o := { dst := some 11, op := Go.Op.call { callee := Go.Callee.value (Go.Operand.func 105), args := #[Go.Operand.tmp 8, Go.Operand.tmp 10], argTypes := #[70, 79] }, type := 80, pos := "graph.go:129", after := #[{ on := 0, ground := Go.Ground.data }, { on := 2, ground := Go.Ground.data }, { on := 2, ground := Go.Ground.chain }], guard := none }) rfl (fun K hK => ?_) ?_
      · -- 3: call
        go_simp
        go_at_call 105
        refine (HC2.out _ bel_773.out).mono ?_
        rintro e w774 ⟨rfl, hb775⟩
        dsimp only
        have bg_776 := Lib.hid (Blk.keep (bg_771.out) hb775)
        have b4_777 := Lib.hid (Blk.keep (b4_772.out) hb775)
        have bel_778 := Lib.hid (Below.trans (bel_773.out) (Below.mono hb775 ((bel_773.out).size)))
        refine hK _ _ ?_; clear hK K
        try simp only [Act.put, List.setIfInBounds_toArray, List.set_cons_zero, List.set_cons_succ]
        refine' wpAny_take (i := 4) (oi := { dst := some 7, op := Go.Op.move (Go.Operand.tmp 11), type := 80, pos := "graph.go:129", after := #[{ on := 3, ground := Go.Ground.data }], guard := none }) (v := _) rfl (by kernel_rfl) (by kernel_rfl) (by kernel_rfl) (fun _ _ _ h => h) (Or.inl ⟨by rfl, ?hyR779⟩)  ?reR779
        case hyR779 => ((intro w); go_simp; try with_reducible rfl)
        try simp only [Act.put, List.setIfInBounds_toArray, List.set_cons_zero, List.set_cons_succ]
        refine' wpAny_take (i := 5) (oi := { dst := some 12, op := Go.Op.extract (Go.Operand.tmp 7) 0, type := 79, pos := "graph.go:129", after := #[{ on := 4, ground := Go.Ground.data }], guard := none }) (v := _) rfl (by kernel_rfl) (by kernel_rfl) (by kernel_rfl) (fun _ _ _ h => h) (Or.inl ⟨by rfl, ?hyR780⟩)  ?reR780
        case hyR780 => ((intro w); go_simp; try with_reducible rfl)
        try simp only [Act.put, List.setIfInBounds_toArray, List.set_cons_zero, List.set_cons_succ]
        refine' wpAny_take (i := 6) (oi := { dst := some 13, op := Go.Op.extract (Go.Operand.tmp 7) 1, type := 4, pos := "graph.go:129", after := #[{ on := 4, ground := Go.Ground.data }, { on := 8, ground := Go.Ground.gcOnly Go.Departure.lateStores }], guard := none }) (v := _) rfl (by kernel_rfl) (by kernel_rfl) (by kernel_rfl) (fun _ _ _ h => h) (Or.inl ⟨by rfl, ?hyR781⟩)  ?reR781
        case hyR781 => ((intro w); go_simp; try with_reducible rfl)
        try simp only [Act.put, List.setIfInBounds_toArray, List.set_cons_zero, List.set_cons_succ]
        refine wpAny_ready (rs := [7]) (by kernel_rfl) (by simp) ?_
        refine AllReady.cons (o := { dst := some 5, op := Go.Op.alloc 79, type := 0, pos := "graph.go:129", after := #[], guard := none }) rfl (fun K hK => ?_) ?_
        · -- 7: alloc
          rw [if_pos (by rfl)]
          refine wp_alloc_row 79 rfl (arr zeros) zero_sums.1 ?_
          have bg_786 := Lib.hid (Blk.alloc (bg_776.out) (.cells (arr zeros) 79))
          have b4_787 := Lib.hid (Blk.alloc (b4_777.out) (.cells (arr zeros) 79))
          have bel_788 := Lib.hid (Below.alloc (bel_778.out) ((bel_778.out).size) (.cells (arr zeros) 79))
          have ne789 := Lib.hid (Nat.ne_of_lt (Blk.lt bg_776.out))
          have ne790 := Lib.hid (Nat.ne_of_lt (Blk.lt b4_777.out))
          have lb791 := Lib.hid (bel_778.out.size)
          have x_792 := Lib.hid (Blk.new (w774) 79 (arr zeros))
          obtain ⟨g782, hg783⟩ : ∃ g, g = (w774).heap.size := ⟨_, rfl⟩
          obtain ⟨w784, hw785⟩ : ∃ w', w' = (w774).alloc (.cells (arr zeros) 79) := ⟨_, rfl⟩
          rw [← hw785] at bg_786 b4_787 bel_788 x_792
          rw [← hg783] at ne789 ne790 lb791 x_792
          rw [← hg783, ← hw785]
          clear hg783 hw785
          refine hK _ _ ?_; clear hK K
          try simp only [Act.put, List.setIfInBounds_toArray, List.set_cons_zero, List.set_cons_succ]
          refine wpAny_ready (rs := [8]) (by kernel_rfl) (by simp) ?_
          refine AllReady.cons (o := { dst := none, op := Go.Op.store 79 (Go.Operand.tmp 5) (Go.Operand.tmp 12), type := 0, pos := "graph.go:129", after := #[{ on := 7, ground := Go.Ground.data }, { on := 5, ground := Go.Ground.data }, { on := 3, ground := Go.Ground.chain }, { on := 0, ground := Go.Ground.phase }, { on := 1, ground := Go.Ground.phase }, { on := 2, ground := Go.Ground.phase }, { on := 3, ground := Go.Ground.phase }, { on := 4, ground := Go.Ground.phase }, { on := 5, ground := Go.Ground.phase }, { on := 6, ground := Go.Ground.textOnly Go.Departure.lateStores }, { on := 7, ground := Go.Ground.phase }], guard := none }) rfl (fun K hK => ?_) ?_
          · -- 8: store
            rw [if_pos (by rfl)]
            refine wp_store_row 79 (.tmp 5) (.tmp 12) rfl _ (arr z) rfl rfl 79 (arr zeros) x_792.out (size_sums HL.out) ((arr_size _).trans (zeros_length.trans (HL.out.symm.trans (arr_size _).symm))) (arr_one _) ?_
            have bg_795 := Lib.hid (Blk.rowFar (bg_786.out) (ne789.out) (arr z))
            have b4_796 := Lib.hid (Blk.rowFar (b4_787.out) (ne790.out) (arr z))
            have bel_797 := Lib.hid (below_setRow (bel_788.out) (lb791.out) (arr z))
            have x_798 := Lib.hid (Blk.row (x_792.out) (arr z))
            obtain ⟨w793, hw794⟩ : ∃ w', w' = (w784).setRow g782 (arr z) := ⟨_, rfl⟩
            rw [← hw794] at bg_795 b4_796 bel_797 x_798
            rw [← hw794]
            clear hw794
            refine hK _ _ ?_; clear hK K
            try simp only [Act.put, List.setIfInBounds_toArray, List.set_cons_zero, List.set_cons_succ]
            refine' wpAny_take (i := 9) (oi := { dst := some 6, op := Go.Op.assign (Go.Operand.tmp 13), type := 4, pos := "graph.go:129", after := #[{ on := 6, ground := Go.Ground.data }, { on := 8, ground := Go.Ground.chain }, { on := 0, ground := Go.Ground.phase }, { on := 1, ground := Go.Ground.phase }, { on := 2, ground := Go.Ground.phase }, { on := 3, ground := Go.Ground.phase }, { on := 4, ground := Go.Ground.phase }, { on := 5, ground := Go.Ground.phase }, { on := 6, ground := Go.Ground.phase }, { on := 7, ground := Go.Ground.phase }, { on := 8, ground := Go.Ground.phase }], guard := none }) (v := _) rfl (by kernel_rfl) (by kernel_rfl) (by kernel_rfl) (fun _ _ _ h => h) (Or.inl ⟨by rfl, ?hyR799⟩)  ?reR799
            case hyR799 => ((intro w); go_simp; try with_reducible rfl)
            try simp only [Act.put, List.setIfInBounds_toArray, List.set_cons_zero, List.set_cons_succ]
            refine wpAny_done (by kernel_rfl) ?_ _
            go_wp2_with (first | (refine wpList_load_row rfl 79 (.tmp 5) rfl _ rfl _ (arr z) (0, 0) _ x_798.out Try.underlying79 rfl (size_sums HL.out) ?_) | (refine wpList_store_row rfl 79 (.tmp 4) (.tmp 14) rfl _ (arr z) rfl rfl _ (arr zeros) b4_796.out (size_sums HL.out) ((arr_size _).trans (zeros_length.trans (HL.out.symm.trans (arr_size _).symm))) (arr_one _) ?_))
            refine bodyPost_ret (results_cell_row rfl _ _ (w.heap.size + 1) 79 (arr z) (0, 0) _ rfl (Blk.row (b4_796.out) (arr z)) Try.underlying79 rfl (size_sums HL.out)) rfl ?_
            exact ⟨rfl, below_setRow (bel_797.out) (by omega) _⟩
          exact AllReady.nil
        exact AllReady.nil
      refine AllReady.cons (o := { dst := some 5, op := Go.Op.alloc 79, type := 0, pos := "graph.go:129", after := #[], guard := none }) rfl (fun K hK => ?_) ?_
      · -- 7: alloc
        rw [if_pos (by rfl)]
        refine wp_alloc_row 79 rfl (arr zeros) zero_sums.1 ?_
        have bg_804 := Lib.hid (Blk.alloc (bg_771.out) (.cells (arr zeros) 79))
        have b4_805 := Lib.hid (Blk.alloc (b4_772.out) (.cells (arr zeros) 79))
        have bel_806 := Lib.hid (Below.alloc (bel_773.out) ((bel_773.out).size) (.cells (arr zeros) 79))
        have ne807 := Lib.hid (Nat.ne_of_lt (Blk.lt bg_771.out))
        have ne808 := Lib.hid (Nat.ne_of_lt (Blk.lt b4_772.out))
        have lb809 := Lib.hid (bel_773.out.size)
        have x_810 := Lib.hid (Blk.new (w769) 79 (arr zeros))
        obtain ⟨g800, hg801⟩ : ∃ g, g = (w769).heap.size := ⟨_, rfl⟩
        obtain ⟨w802, hw803⟩ : ∃ w', w' = (w769).alloc (.cells (arr zeros) 79) := ⟨_, rfl⟩
        rw [← hw803] at bg_804 b4_805 bel_806 x_810
        rw [← hg801] at ne807 ne808 lb809 x_810
        rw [← hg801, ← hw803]
        clear hg801 hw803
        refine hK _ _ ?_; clear hK K
        try simp only [Act.put, List.setIfInBounds_toArray, List.set_cons_zero, List.set_cons_succ]
        refine wpAny_ready (rs := [3]) (by kernel_rfl) (by simp) ?_
        refine AllReady.cons (o := { dst := some 11, op := Go.Op.call { callee := Go.Callee.value (Go.Operand.func 105), args := #[Go.Operand.tmp 8, Go.Operand.tmp 10], argTypes := #[70, 79] }, type := 80, pos := "graph.go:129", after := #[{ on := 0, ground := Go.Ground.data }, { on := 2, ground := Go.Ground.data }, { on := 2, ground := Go.Ground.chain }], guard := none }) rfl (fun K hK => ?_) ?_
        · -- 3: call
          go_simp
          go_at_call 105
          refine (HC2.out _ bel_806.out).mono ?_
          rintro e w811 ⟨rfl, hb812⟩
          dsimp only
          have bg_813 := Lib.hid (Blk.keep (bg_804.out) hb812)
          have b4_814 := Lib.hid (Blk.keep (b4_805.out) hb812)
          have bel_815 := Lib.hid (Below.trans (bel_806.out) (Below.mono hb812 ((bel_806.out).size)))
          have x_816 := Lib.hid (Blk.keep (x_810.out) hb812)
          refine hK _ _ ?_; clear hK K
          try simp only [Act.put, List.setIfInBounds_toArray, List.set_cons_zero, List.set_cons_succ]
          refine' wpAny_take (i := 4) (oi := { dst := some 7, op := Go.Op.move (Go.Operand.tmp 11), type := 80, pos := "graph.go:129", after := #[{ on := 3, ground := Go.Ground.data }], guard := none }) (v := _) rfl (by kernel_rfl) (by kernel_rfl) (by kernel_rfl) (fun _ _ _ h => h) (Or.inl ⟨by rfl, ?hyR817⟩)  ?reR817
          case hyR817 => ((intro w); go_simp; try with_reducible rfl)
          try simp only [Act.put, List.setIfInBounds_toArray, List.set_cons_zero, List.set_cons_succ]
          refine' wpAny_take (i := 5) (oi := { dst := some 12, op := Go.Op.extract (Go.Operand.tmp 7) 0, type := 79, pos := "graph.go:129", after := #[{ on := 4, ground := Go.Ground.data }], guard := none }) (v := _) rfl (by kernel_rfl) (by kernel_rfl) (by kernel_rfl) (fun _ _ _ h => h) (Or.inl ⟨by rfl, ?hyR818⟩)  ?reR818
          case hyR818 => ((intro w); go_simp; try with_reducible rfl)
          try simp only [Act.put, List.setIfInBounds_toArray, List.set_cons_zero, List.set_cons_succ]
          refine' wpAny_take (i := 6) (oi := { dst := some 13, op := Go.Op.extract (Go.Operand.tmp 7) 1, type := 4, pos := "graph.go:129", after := #[{ on := 4, ground := Go.Ground.data }, { on := 8, ground := Go.Ground.gcOnly Go.Departure.lateStores }], guard := none }) (v := _) rfl (by kernel_rfl) (by kernel_rfl) (by kernel_rfl) (fun _ _ _ h => h) (Or.inl ⟨by rfl, ?hyR819⟩)  ?reR819
          case hyR819 => ((intro w); go_simp; try with_reducible rfl)
          try simp only [Act.put, List.setIfInBounds_toArray, List.set_cons_zero, List.set_cons_succ]
          refine wpAny_ready (rs := [8]) (by kernel_rfl) (by simp) ?_
          refine AllReady.cons (o := { dst := none, op := Go.Op.store 79 (Go.Operand.tmp 5) (Go.Operand.tmp 12), type := 0, pos := "graph.go:129", after := #[{ on := 7, ground := Go.Ground.data }, { on := 5, ground := Go.Ground.data }, { on := 3, ground := Go.Ground.chain }, { on := 0, ground := Go.Ground.phase }, { on := 1, ground := Go.Ground.phase }, { on := 2, ground := Go.Ground.phase }, { on := 3, ground := Go.Ground.phase }, { on := 4, ground := Go.Ground.phase }, { on := 5, ground := Go.Ground.phase }, { on := 6, ground := Go.Ground.textOnly Go.Departure.lateStores }, { on := 7, ground := Go.Ground.phase }], guard := none }) rfl (fun K hK => ?_) ?_
          · -- 8: store
            rw [if_pos (by rfl)]
            refine wp_store_row 79 (.tmp 5) (.tmp 12) rfl _ (arr z) rfl rfl 79 (arr zeros) x_816.out (size_sums HL.out) ((arr_size _).trans (zeros_length.trans (HL.out.symm.trans (arr_size _).symm))) (arr_one _) ?_
            have bg_822 := Lib.hid (Blk.rowFar (bg_813.out) (ne807.out) (arr z))
            have b4_823 := Lib.hid (Blk.rowFar (b4_814.out) (ne808.out) (arr z))
            have bel_824 := Lib.hid (below_setRow (bel_815.out) (lb809.out) (arr z))
            have x_825 := Lib.hid (Blk.row (x_816.out) (arr z))
            obtain ⟨w820, hw821⟩ : ∃ w', w' = (w811).setRow g800 (arr z) := ⟨_, rfl⟩
            rw [← hw821] at bg_822 b4_823 bel_824 x_825
            rw [← hw821]
            clear hw821
            refine hK _ _ ?_; clear hK K
            try simp only [Act.put, List.setIfInBounds_toArray, List.set_cons_zero, List.set_cons_succ]
            refine' wpAny_take (i := 9) (oi := { dst := some 6, op := Go.Op.assign (Go.Operand.tmp 13), type := 4, pos := "graph.go:129", after := #[{ on := 6, ground := Go.Ground.data }, { on := 8, ground := Go.Ground.chain }, { on := 0, ground := Go.Ground.phase }, { on := 1, ground := Go.Ground.phase }, { on := 2, ground := Go.Ground.phase }, { on := 3, ground := Go.Ground.phase }, { on := 4, ground := Go.Ground.phase }, { on := 5, ground := Go.Ground.phase }, { on := 6, ground := Go.Ground.phase }, { on := 7, ground := Go.Ground.phase }, { on := 8, ground := Go.Ground.phase }], guard := none }) (v := _) rfl (by kernel_rfl) (by kernel_rfl) (by kernel_rfl) (fun _ _ _ h => h) (Or.inl ⟨by rfl, ?hyR826⟩)  ?reR826
            case hyR826 => ((intro w); go_simp; try with_reducible rfl)
            try simp only [Act.put, List.setIfInBounds_toArray, List.set_cons_zero, List.set_cons_succ]
            refine wpAny_done (by kernel_rfl) ?_ _
            go_wp2_with (first | (refine wpList_load_row rfl 79 (.tmp 5) rfl _ rfl _ (arr z) (0, 0) _ x_825.out Try.underlying79 rfl (size_sums HL.out) ?_) | (refine wpList_store_row rfl 79 (.tmp 4) (.tmp 14) rfl _ (arr z) rfl rfl _ (arr zeros) b4_823.out (size_sums HL.out) ((arr_size _).trans (zeros_length.trans (HL.out.symm.trans (arr_size _).symm))) (arr_one _) ?_))
            refine bodyPost_ret (results_cell_row rfl _ _ (w.heap.size + 1) 79 (arr z) (0, 0) _ rfl (Blk.row (b4_823.out) (arr z)) Try.underlying79 rfl (size_sums HL.out)) rfl ?_
            exact ⟨rfl, below_setRow (bel_824.out) (by omega) _⟩
          exact AllReady.nil
        exact AllReady.nil
      exact AllReady.nil
    refine AllReady.cons (o := { dst := some 5, op := Go.Op.alloc 79, type := 0, pos := "graph.go:129", after := #[], guard := none }) rfl (fun K hK => ?_) ?_
    · -- 7: alloc
      rw [if_pos (by rfl)]
      refine wp_alloc_row 79 rfl (arr zeros) zero_sums.1 ?_
      have bg_831 := Lib.hid (Blk.alloc (bg_771.out) (.cells (arr zeros) 79))
      have b4_832 := Lib.hid (Blk.alloc (b4_772.out) (.cells (arr zeros) 79))
      have bel_833 := Lib.hid (Below.alloc (bel_773.out) ((bel_773.out).size) (.cells (arr zeros) 79))
      have ne834 := Lib.hid (Nat.ne_of_lt (Blk.lt bg_771.out))
      have ne835 := Lib.hid (Nat.ne_of_lt (Blk.lt b4_772.out))
      have lb836 := Lib.hid (bel_773.out.size)
      have x_837 := Lib.hid (Blk.new (w769) 79 (arr zeros))
      obtain ⟨g827, hg828⟩ : ∃ g, g = (w769).heap.size := ⟨_, rfl⟩
      obtain ⟨w829, hw830⟩ : ∃ w', w' = (w769).alloc (.cells (arr zeros) 79) := ⟨_, rfl⟩
      rw [← hw830] at bg_831 b4_832 bel_833 x_837
      rw [← hg828] at ne834 ne835 lb836 x_837
      rw [← hg828, ← hw830]
      clear hg828 hw830
      refine hK _ _ ?_; clear hK K
      try simp only [Act.put, List.setIfInBounds_toArray, List.set_cons_zero, List.set_cons_succ]
      refine wpAny_ready (rs := [0]) (by kernel_rfl) (by simp) ?_
      refine AllReady.cons (o := { dst := some 8, op := Go.Op.load 70 (Go.Operand.tmp 2), type := 70, pos := "graph.go:129", after := #[], guard := none }) rfl (fun K hK => ?_) ?_
      · -- 0: load
        rw [if_pos (by rfl)]
        refine wp_load_row 70 (.tmp 2) rfl w.heap.size rfl 70 #[.int .i64 (p : Int), .slice A n c] (0, 0) _ bg_831.out Try.underlying70 rfl (by kernel_rfl) ?_
        refine hK _ _ ?_; clear hK K
        try simp only [Act.put, List.setIfInBounds_toArray, List.set_cons_zero, List.set_cons_succ]
        refine wpAny_ready (rs := [3]) (by kernel_rfl) (by simp) ?_
        refine AllReady.cons (o := { dst := some 11, op := Go.Op.call { callee := Go.Callee.value (Go.Operand.func 105), args := #[Go.Operand.tmp 8, Go.Operand.tmp 10], argTypes := #[70, 79] }, type := 80, pos := "graph.go:129", after := #[{ on := 0, ground := Go.Ground.data }, { on := 2, ground := Go.Ground.data }, { on := 2, ground := Go.Ground.chain }], guard := none }) rfl (fun K hK => ?_) ?_
        · -- 3: call
          go_simp
          go_at_call 105
          refine (HC2.out _ bel_833.out).mono ?_
          rintro e w838 ⟨rfl, hb839⟩
          dsimp only
          have bg_840 := Lib.hid (Blk.keep (bg_831.out) hb839)
          have b4_841 := Lib.hid (Blk.keep (b4_832.out) hb839)
          have bel_842 := Lib.hid (Below.trans (bel_833.out) (Below.mono hb839 ((bel_833.out).size)))
          have x_843 := Lib.hid (Blk.keep (x_837.out) hb839)
          refine hK _ _ ?_; clear hK K
          try simp only [Act.put, List.setIfInBounds_toArray, List.set_cons_zero, List.set_cons_succ]
          refine' wpAny_take (i := 4) (oi := { dst := some 7, op := Go.Op.move (Go.Operand.tmp 11), type := 80, pos := "graph.go:129", after := #[{ on := 3, ground := Go.Ground.data }], guard := none }) (v := _) rfl (by kernel_rfl) (by kernel_rfl) (by kernel_rfl) (fun _ _ _ h => h) (Or.inl ⟨by rfl, ?hyR844⟩)  ?reR844
          case hyR844 => ((intro w); go_simp; try with_reducible rfl)
          try simp only [Act.put, List.setIfInBounds_toArray, List.set_cons_zero, List.set_cons_succ]
          refine' wpAny_take (i := 5) (oi := { dst := some 12, op := Go.Op.extract (Go.Operand.tmp 7) 0, type := 79, pos := "graph.go:129", after := #[{ on := 4, ground := Go.Ground.data }], guard := none }) (v := _) rfl (by kernel_rfl) (by kernel_rfl) (by kernel_rfl) (fun _ _ _ h => h) (Or.inl ⟨by rfl, ?hyR845⟩)  ?reR845
          case hyR845 => ((intro w); go_simp; try with_reducible rfl)
          try simp only [Act.put, List.setIfInBounds_toArray, List.set_cons_zero, List.set_cons_succ]
          refine' wpAny_take (i := 6) (oi := { dst := some 13, op := Go.Op.extract (Go.Operand.tmp 7) 1, type := 4, pos := "graph.go:129", after := #[{ on := 4, ground := Go.Ground.data }, { on := 8, ground := Go.Ground.gcOnly Go.Departure.lateStores }], guard := none }) (v := _) rfl (by kernel_rfl) (by kernel_rfl) (by kernel_rfl) (fun _ _ _ h => h) (Or.inl ⟨by rfl, ?hyR846⟩)  ?reR846
          case hyR846 => ((intro w); go_simp; try with_reducible rfl)
          try simp only [Act.put, List.setIfInBounds_toArray, List.set_cons_zero, List.set_cons_succ]
          refine wpAny_ready (rs := [8]) (by kernel_rfl) (by simp) ?_
          refine AllReady.cons (o := { dst := none, op := Go.Op.store 79 (Go.Operand.tmp 5) (Go.Operand.tmp 12), type := 0, pos := "graph.go:129", after := #[{ on := 7, ground := Go.Ground.data }, { on := 5, ground := Go.Ground.data }, { on := 3, ground := Go.Ground.chain }, { on := 0, ground := Go.Ground.phase }, { on := 1, ground := Go.Ground.phase }, { on := 2, ground := Go.Ground.phase }, { on := 3, ground := Go.Ground.phase }, { on := 4, ground := Go.Ground.phase }, { on := 5, ground := Go.Ground.phase }, { on := 6, ground := Go.Ground.textOnly Go.Departure.lateStores }, { on := 7, ground := Go.Ground.phase }], guard := none }) rfl (fun K hK => ?_) ?_
          · -- 8: store
            rw [if_pos (by rfl)]
            refine wp_store_row 79 (.tmp 5) (.tmp 12) rfl _ (arr z) rfl rfl 79 (arr zeros) x_843.out (size_sums HL.out) ((arr_size _).trans (zeros_length.trans (HL.out.symm.trans (arr_size _).symm))) (arr_one _) ?_
            have bg_849 := Lib.hid (Blk.rowFar (bg_840.out) (ne834.out) (arr z))
            have b4_850 := Lib.hid (Blk.rowFar (b4_841.out) (ne835.out) (arr z))
            have bel_851 := Lib.hid (below_setRow (bel_842.out) (lb836.out) (arr z))
            have x_852 := Lib.hid (Blk.row (x_843.out) (arr z))
            obtain ⟨w847, hw848⟩ : ∃ w', w' = (w838).setRow g827 (arr z) := ⟨_, rfl⟩
            rw [← hw848] at bg_849 b4_850 bel_851 x_852
            rw [← hw848]
            clear hw848
            refine hK _ _ ?_; clear hK K
            try simp only [Act.put, List.setIfInBounds_toArray, List.set_cons_zero, List.set_cons_succ]
            refine' wpAny_take (i := 9) (oi := { dst := some 6, op := Go.Op.assign (Go.Operand.tmp 13), type := 4, pos := "graph.go:129", after := #[{ on := 6, ground := Go.Ground.data }, { on := 8, ground := Go.Ground.chain }, { on := 0, ground := Go.Ground.phase }, { on := 1, ground := Go.Ground.phase }, { on := 2, ground := Go.Ground.phase }, { on := 3, ground := Go.Ground.phase }, { on := 4, ground := Go.Ground.phase }, { on := 5, ground := Go.Ground.phase }, { on := 6, ground := Go.Ground.phase }, { on := 7, ground := Go.Ground.phase }, { on := 8, ground := Go.Ground.phase }], guard := none }) (v := _) rfl (by kernel_rfl) (by kernel_rfl) (by kernel_rfl) (fun _ _ _ h => h) (Or.inl ⟨by rfl, ?hyR853⟩)  ?reR853
            case hyR853 => ((intro w); go_simp; try with_reducible rfl)
            try simp only [Act.put, List.setIfInBounds_toArray, List.set_cons_zero, List.set_cons_succ]
            refine wpAny_done (by kernel_rfl) ?_ _
            go_wp2_with (first | (refine wpList_load_row rfl 79 (.tmp 5) rfl _ rfl _ (arr z) (0, 0) _ x_852.out Try.underlying79 rfl (size_sums HL.out) ?_) | (refine wpList_store_row rfl 79 (.tmp 4) (.tmp 14) rfl _ (arr z) rfl rfl _ (arr zeros) b4_850.out (size_sums HL.out) ((arr_size _).trans (zeros_length.trans (HL.out.symm.trans (arr_size _).symm))) (arr_one _) ?_))
            refine bodyPost_ret (results_cell_row rfl _ _ (w.heap.size + 1) 79 (arr z) (0, 0) _ rfl (Blk.row (b4_850.out) (arr z)) Try.underlying79 rfl (size_sums HL.out)) rfl ?_
            exact ⟨rfl, below_setRow (bel_851.out) (by omega) _⟩
          exact AllReady.nil
        exact AllReady.nil
      exact AllReady.nil
    exact AllReady.nil
  refine AllReady.cons (o := { dst := some 5, op := Go.Op.alloc 79, type := 0, pos := "graph.go:129", after := #[], guard := none }) rfl (fun K hK => ?_) ?_
  · -- 7: alloc
    rw [if_pos (by rfl)]
    refine wp_alloc_row 79 rfl (arr zeros) zero_sums.1 ?_
    have bg_858 := Lib.hid (Blk.alloc (B0.out) (.cells (arr zeros) 79))
    have b4_859 := Lib.hid (Blk.alloc (B2.out) (.cells (arr zeros) 79))
    have bel_860 := Lib.hid (Below.alloc (HBD.out) ((HBD.out).size) (.cells (arr zeros) 79))
    have ne861 := Lib.hid (Nat.ne_of_lt (Blk.lt B0.out))
    have ne862 := Lib.hid (Nat.ne_of_lt (Blk.lt B2.out))
    have lb863 := Lib.hid (HBD.out.size)
    have x_864 := Lib.hid (Blk.new (((w.alloc (.cells #[.int .i64 (p : Int), .slice A n c] 70)).alloc (.cells (arr zeros) 79)).drew) 79 (arr zeros))
    obtain ⟨g854, hg855⟩ : ∃ g, g = (((w.alloc (.cells #[.int .i64 (p : Int), .slice A n c] 70)).alloc (.cells (arr zeros) 79)).drew).heap.size := ⟨_, rfl⟩
    obtain ⟨w856, hw857⟩ : ∃ w', w' = (((w.alloc (.cells #[.int .i64 (p : Int), .slice A n c] 70)).alloc (.cells (arr zeros) 79)).drew).alloc (.cells (arr zeros) 79) := ⟨_, rfl⟩
    rw [← hw857] at bg_858 b4_859 bel_860 x_864
    rw [← hg855] at ne861 ne862 lb863 x_864
    rw [← hg855, ← hw857]
    clear hg855 hw857
    refine hK _ _ ?_; clear hK K
    try simp only [Act.put, List.setIfInBounds_toArray, List.set_cons_zero, List.set_cons_succ]
    refine wpAny_ready (rs := [0, 2]) (by kernel_rfl) (by simp) ?_
    refine AllReady.cons (o := { dst := some 8, op := Go.Op.load 70 (Go.Operand.tmp 2), type := 70, pos := "graph.go:129", after := #[], guard := none }) rfl (fun K hK => ?_) ?_
    · -- 0: load
      rw [if_pos (by rfl)]
      refine wp_load_row 70 (.tmp 2) rfl w.heap.size rfl 70 #[.int .i64 (p : Int), .slice A n c] (0, 0) _ bg_858.out Try.underlying70 rfl (by kernel_rfl) ?_
      refine hK _ _ ?_; clear hK K
      try simp only [Act.put, List.setIfInBounds_toArray, List.set_cons_zero, List.set_cons_succ]
      refine wpAny_ready (rs := [2]) (by kernel_rfl) (by simp) ?_
      refine AllReady.cons (o := { dst := some 10, op := Go.Op.call { callee := Go.Callee.value (Go.Operand.func 109), args := #[Go.Operand.tmp 9], argTypes := #[3] }, type := 79, pos := "graph.go:129", after := #[{ on := 1, ground := Go.Ground.data }], guard := none }) rfl (fun K hK => ?_) ?_
      · -- 2: call
        go_simp
        go_at_call 109
        refine (HC1.out _).mono ?_
        rintro e w865 ⟨rfl, hb866⟩
        dsimp only
        have bg_867 := Lib.hid (Blk.keep (bg_858.out) hb866)
        have b4_868 := Lib.hid (Blk.keep (b4_859.out) hb866)
        have bel_869 := Lib.hid (Below.trans (bel_860.out) (Below.mono hb866 ((bel_860.out).size)))
        have x_870 := Lib.hid (Blk.keep (x_864.out) hb866)
        refine hK _ _ ?_; clear hK K
        try simp only [Act.put, List.setIfInBounds_toArray, List.set_cons_zero, List.set_cons_succ]
        refine wpAny_ready (rs := [3]) (by kernel_rfl) (by simp) ?_
        refine AllReady.cons (o := { dst := some 11, op := Go.Op.call { callee := Go.Callee.value (Go.Operand.func 105), args := #[Go.Operand.tmp 8, Go.Operand.tmp 10], argTypes := #[70, 79] }, type := 80, pos := "graph.go:129", after := #[{ on := 0, ground := Go.Ground.data }, { on := 2, ground := Go.Ground.data }, { on := 2, ground := Go.Ground.chain }], guard := none }) rfl (fun K hK => ?_) ?_
        · -- 3: call
          go_simp
          go_at_call 105
          refine (HC2.out _ bel_869.out).mono ?_
          rintro e w871 ⟨rfl, hb872⟩
          dsimp only
          have bg_873 := Lib.hid (Blk.keep (bg_867.out) hb872)
          have b4_874 := Lib.hid (Blk.keep (b4_868.out) hb872)
          have bel_875 := Lib.hid (Below.trans (bel_869.out) (Below.mono hb872 ((bel_869.out).size)))
          have x_876 := Lib.hid (Blk.keep (x_870.out) hb872)
          refine hK _ _ ?_; clear hK K
          try simp only [Act.put, List.setIfInBounds_toArray, List.set_cons_zero, List.set_cons_succ]
          refine' wpAny_take (i := 4) (oi := { dst := some 7, op := Go.Op.move (Go.Operand.tmp 11), type := 80, pos := "graph.go:129", after := #[{ on := 3, ground := Go.Ground.data }], guard := none }) (v := _) rfl (by kernel_rfl) (by kernel_rfl) (by kernel_rfl) (fun _ _ _ h => h) (Or.inl ⟨by rfl, ?hyR877⟩)  ?reR877
          case hyR877 => ((intro w); go_simp; try with_reducible rfl)
          try simp only [Act.put, List.setIfInBounds_toArray, List.set_cons_zero, List.set_cons_succ]
          refine' wpAny_take (i := 5) (oi := { dst := some 12, op := Go.Op.extract (Go.Operand.tmp 7) 0, type := 79, pos := "graph.go:129", after := #[{ on := 4, ground := Go.Ground.data }], guard := none }) (v := _) rfl (by kernel_rfl) (by kernel_rfl) (by kernel_rfl) (fun _ _ _ h => h) (Or.inl ⟨by rfl, ?hyR878⟩)  ?reR878
          case hyR878 => ((intro w); go_simp; try with_reducible rfl)
          try simp only [Act.put, List.setIfInBounds_toArray, List.set_cons_zero, List.set_cons_succ]
          refine' wpAny_take (i := 6) (oi := { dst := some 13, op := Go.Op.extract (Go.Operand.tmp 7) 1, type := 4, pos := "graph.go:129", after := #[{ on := 4, ground := Go.Ground.data }, { on := 8, ground := Go.Ground.gcOnly Go.Departure.lateStores }], guard := none }) (v := _) rfl (by kernel_rfl) (by kernel_rfl) (by kernel_rfl) (fun _ _ _ h => h) (Or.inl ⟨by rfl, ?hyR879⟩)  ?reR879
          case hyR879 => ((intro w); go_simp; try with_reducible rfl)
          try simp only [Act.put, List.setIfInBounds_toArray, List.set_cons_zero, List.set_cons_succ]
          refine wpAny_ready (rs := [8]) (by kernel_rfl) (by simp) ?_
          refine AllReady.cons (o := { dst := none, op := Go.Op.store 79 (Go.Operand.tmp 5) (Go.Operand.tmp 12), type := 0, pos := "graph.go:129", after := #[{ on := 7, ground := Go.Ground.data }, { on := 5, ground := Go.Ground.data }, { on := 3, ground := Go.Ground.chain }, { on := 0, ground := Go.Ground.phase }, { on := 1, ground := Go.Ground.phase }, { on := 2, ground := Go.Ground.phase }, { on := 3, ground := Go.Ground.phase }, { on := 4, ground := Go.Ground.phase }, { on := 5, ground := Go.Ground.phase }, { on := 6, ground := Go.Ground.textOnly Go.Departure.lateStores }, { on := 7, ground := Go.Ground.phase }], guard := none }) rfl (fun K hK => ?_) ?_
          · -- 8: store
            rw [if_pos (by rfl)]
            refine wp_store_row 79 (.tmp 5) (.tmp 12) rfl _ (arr z) rfl rfl 79 (arr zeros) x_876.out (size_sums HL.out) ((arr_size _).trans (zeros_length.trans (HL.out.symm.trans (arr_size _).symm))) (arr_one _) ?_
            have bg_882 := Lib.hid (Blk.rowFar (bg_873.out) (ne861.out) (arr z))
            have b4_883 := Lib.hid (Blk.rowFar (b4_874.out) (ne862.out) (arr z))
            have bel_884 := Lib.hid (below_setRow (bel_875.out) (lb863.out) (arr z))
            have x_885 := Lib.hid (Blk.row (x_876.out) (arr z))
            obtain ⟨w880, hw881⟩ : ∃ w', w' = (w871).setRow g854 (arr z) := ⟨_, rfl⟩
            rw [← hw881] at bg_882 b4_883 bel_884 x_885
            rw [← hw881]
            clear hw881
            refine hK _ _ ?_; clear hK K
            try simp only [Act.put, List.setIfInBounds_toArray, List.set_cons_zero, List.set_cons_succ]
            refine' wpAny_take (i := 9) (oi := { dst := some 6, op := Go.Op.assign (Go.Operand.tmp 13), type := 4, pos := "graph.go:129", after := #[{ on := 6, ground := Go.Ground.data }, { on := 8, ground := Go.Ground.chain }, { on := 0, ground := Go.Ground.phase }, { on := 1, ground := Go.Ground.phase }, { on := 2, ground := Go.Ground.phase }, { on := 3, ground := Go.Ground.phase }, { on := 4, ground := Go.Ground.phase }, { on := 5, ground := Go.Ground.phase }, { on := 6, ground := Go.Ground.phase }, { on := 7, ground := Go.Ground.phase }, { on := 8, ground := Go.Ground.phase }], guard := none }) (v := _) rfl (by kernel_rfl) (by kernel_rfl) (by kernel_rfl) (fun _ _ _ h => h) (Or.inl ⟨by rfl, ?hyR886⟩)  ?reR886
            case hyR886 => ((intro w); go_simp; try with_reducible rfl)
            try simp only [Act.put, List.setIfInBounds_toArray, List.set_cons_zero, List.set_cons_succ]
            refine wpAny_done (by kernel_rfl) ?_ _
            go_wp2_with (first | (refine wpList_load_row rfl 79 (.tmp 5) rfl _ rfl _ (arr z) (0, 0) _ x_885.out Try.underlying79 rfl (size_sums HL.out) ?_) | (refine wpList_store_row rfl 79 (.tmp 4) (.tmp 14) rfl _ (arr z) rfl rfl _ (arr zeros) b4_883.out (size_sums HL.out) ((arr_size _).trans (zeros_length.trans (HL.out.symm.trans (arr_size _).symm))) (arr_one _) ?_))
            refine bodyPost_ret (results_cell_row rfl _ _ (w.heap.size + 1) 79 (arr z) (0, 0) _ rfl (Blk.row (b4_883.out) (arr z)) Try.underlying79 rfl (size_sums HL.out)) rfl ?_
            exact ⟨rfl, below_setRow (bel_884.out) (by omega) _⟩
          exact AllReady.nil
        exact AllReady.nil
      exact AllReady.nil
    refine AllReady.cons (o := { dst := some 10, op := Go.Op.call { callee := Go.Callee.value (Go.Operand.func 109), args := #[Go.Operand.tmp 9], argTypes := #[3] }, type := 79, pos := "graph.go:129", after := #[{ on := 1, ground := Go.Ground.data }], guard := none }) rfl (fun K hK => ?_) ?_
    · -- 2: call
      go_simp
      go_at_call 109
      refine (HC1.out _).mono ?_
      rintro e w887 ⟨rfl, hb888⟩
      dsimp only
      have bg_889 := Lib.hid (Blk.keep (bg_858.out) hb888)
      have b4_890 := Lib.hid (Blk.keep (b4_859.out) hb888)
      have bel_891 := Lib.hid (Below.trans (bel_860.out) (Below.mono hb888 ((bel_860.out).size)))
      have x_892 := Lib.hid (Blk.keep (x_864.out) hb888)
      refine hK _ _ ?_; clear hK K
      try simp only [Act.put, List.setIfInBounds_toArray, List.set_cons_zero, List.set_cons_succ]
      refine wpAny_ready (rs := [0]) (by kernel_rfl) (by simp) ?_
      refine AllReady.cons (o := { dst := some 8, op := Go.Op.load 70 (Go.Operand.tmp 2), type := 70, pos := "graph.go:129", after := #[], guard := none }) rfl (fun K hK => ?_) ?_
      · -- 0: load
        rw [if_pos (by rfl)]
        refine wp_load_row 70 (.tmp 2) rfl w.heap.size rfl 70 #[.int .i64 (p : Int), .slice A n c] (0, 0) _ bg_889.out Try.underlying70 rfl (by kernel_rfl) ?_
        refine hK _ _ ?_; clear hK K
        try simp only [Act.put, List.setIfInBounds_toArray, List.set_cons_zero, List.set_cons_succ]
        refine wpAny_ready (rs := [3]) (by kernel_rfl) (by simp) ?_
        refine AllReady.cons (o := { dst := some 11, op := Go.Op.call { callee := Go.Callee.value (Go.Operand.func 105), args := #[Go.Operand.tmp 8, Go.Operand.tmp 10], argTypes := #[70, 79] }, type := 80, pos := "graph.go:129", after := #[{ on := 0, ground := Go.Ground.data }, { on := 2, ground := Go.Ground.data }, { on := 2, ground := Go.Ground.chain }], guard := none }) rfl (fun K hK => ?_) ?_
        · -- 3: call
          go_simp
          go_at_call 105
          refine (HC2.out _ bel_891.out).mono ?_
          rintro e w893 ⟨rfl, hb894⟩
          dsimp only
          have bg_895 := Lib.hid (Blk.keep (bg_889.out) hb894)
          have b4_896 := Lib.hid (Blk.keep (b4_890.out) hb894)
          have bel_897 := Lib.hid (Below.trans (bel_891.out) (Below.mono hb894 ((bel_891.out).size)))
          have x_898 := Lib.hid (Blk.keep (x_892.out) hb894)
          refine hK _ _ ?_; clear hK K
          try simp only [Act.put, List.setIfInBounds_toArray, List.set_cons_zero, List.set_cons_succ]
          refine' wpAny_take (i := 4) (oi := { dst := some 7, op := Go.Op.move (Go.Operand.tmp 11), type := 80, pos := "graph.go:129", after := #[{ on := 3, ground := Go.Ground.data }], guard := none }) (v := _) rfl (by kernel_rfl) (by kernel_rfl) (by kernel_rfl) (fun _ _ _ h => h) (Or.inl ⟨by rfl, ?hyR899⟩)  ?reR899
          case hyR899 => ((intro w); go_simp; try with_reducible rfl)
          try simp only [Act.put, List.setIfInBounds_toArray, List.set_cons_zero, List.set_cons_succ]
          refine' wpAny_take (i := 5) (oi := { dst := some 12, op := Go.Op.extract (Go.Operand.tmp 7) 0, type := 79, pos := "graph.go:129", after := #[{ on := 4, ground := Go.Ground.data }], guard := none }) (v := _) rfl (by kernel_rfl) (by kernel_rfl) (by kernel_rfl) (fun _ _ _ h => h) (Or.inl ⟨by rfl, ?hyR900⟩)  ?reR900
          case hyR900 => ((intro w); go_simp; try with_reducible rfl)
          try simp only [Act.put, List.setIfInBounds_toArray, List.set_cons_zero, List.set_cons_succ]
          refine' wpAny_take (i := 6) (oi := { dst := some 13, op := Go.Op.extract (Go.Operand.tmp 7) 1, type := 4, pos := "graph.go:129", after := #[{ on := 4, ground := Go.Ground.data }, { on := 8, ground := Go.Ground.gcOnly Go.Departure.lateStores }], guard := none }) (v := _) rfl (by kernel_rfl) (by kernel_rfl) (by kernel_rfl) (fun _ _ _ h => h) (Or.inl ⟨by rfl, ?hyR901⟩)  ?reR901
          case hyR901 => ((intro w); go_simp; try with_reducible rfl)
          try simp only [Act.put, List.setIfInBounds_toArray, List.set_cons_zero, List.set_cons_succ]
          refine wpAny_ready (rs := [8]) (by kernel_rfl) (by simp) ?_
          refine AllReady.cons (o := { dst := none, op := Go.Op.store 79 (Go.Operand.tmp 5) (Go.Operand.tmp 12), type := 0, pos := "graph.go:129", after := #[{ on := 7, ground := Go.Ground.data }, { on := 5, ground := Go.Ground.data }, { on := 3, ground := Go.Ground.chain }, { on := 0, ground := Go.Ground.phase }, { on := 1, ground := Go.Ground.phase }, { on := 2, ground := Go.Ground.phase }, { on := 3, ground := Go.Ground.phase }, { on := 4, ground := Go.Ground.phase }, { on := 5, ground := Go.Ground.phase }, { on := 6, ground := Go.Ground.textOnly Go.Departure.lateStores }, { on := 7, ground := Go.Ground.phase }], guard := none }) rfl (fun K hK => ?_) ?_
          · -- 8: store
            rw [if_pos (by rfl)]
            refine wp_store_row 79 (.tmp 5) (.tmp 12) rfl _ (arr z) rfl rfl 79 (arr zeros) x_898.out (size_sums HL.out) ((arr_size _).trans (zeros_length.trans (HL.out.symm.trans (arr_size _).symm))) (arr_one _) ?_
            have bg_904 := Lib.hid (Blk.rowFar (bg_895.out) (ne861.out) (arr z))
            have b4_905 := Lib.hid (Blk.rowFar (b4_896.out) (ne862.out) (arr z))
            have bel_906 := Lib.hid (below_setRow (bel_897.out) (lb863.out) (arr z))
            have x_907 := Lib.hid (Blk.row (x_898.out) (arr z))
            obtain ⟨w902, hw903⟩ : ∃ w', w' = (w893).setRow g854 (arr z) := ⟨_, rfl⟩
            rw [← hw903] at bg_904 b4_905 bel_906 x_907
            rw [← hw903]
            clear hw903
            refine hK _ _ ?_; clear hK K
            try simp only [Act.put, List.setIfInBounds_toArray, List.set_cons_zero, List.set_cons_succ]
            refine' wpAny_take (i := 9) (oi := { dst := some 6, op := Go.Op.assign (Go.Operand.tmp 13), type := 4, pos := "graph.go:129", after := #[{ on := 6, ground := Go.Ground.data }, { on := 8, ground := Go.Ground.chain }, { on := 0, ground := Go.Ground.phase }, { on := 1, ground := Go.Ground.phase }, { on := 2, ground := Go.Ground.phase }, { on := 3, ground := Go.Ground.phase }, { on := 4, ground := Go.Ground.phase }, { on := 5, ground := Go.Ground.phase }, { on := 6, ground := Go.Ground.phase }, { on := 7, ground := Go.Ground.phase }, { on := 8, ground := Go.Ground.phase }], guard := none }) (v := _) rfl (by kernel_rfl) (by kernel_rfl) (by kernel_rfl) (fun _ _ _ h => h) (Or.inl ⟨by rfl, ?hyR908⟩)  ?reR908
            case hyR908 => ((intro w); go_simp; try with_reducible rfl)
            try simp only [Act.put, List.setIfInBounds_toArray, List.set_cons_zero, List.set_cons_succ]
            refine wpAny_done (by kernel_rfl) ?_ _
            go_wp2_with (first | (refine wpList_load_row rfl 79 (.tmp 5) rfl _ rfl _ (arr z) (0, 0) _ x_907.out Try.underlying79 rfl (size_sums HL.out) ?_) | (refine wpList_store_row rfl 79 (.tmp 4) (.tmp 14) rfl _ (arr z) rfl rfl _ (arr zeros) b4_905.out (size_sums HL.out) ((arr_size _).trans (zeros_length.trans (HL.out.symm.trans (arr_size _).symm))) (arr_one _) ?_))
            refine bodyPost_ret (results_cell_row rfl _ _ (w.heap.size + 1) 79 (arr z) (0, 0) _ rfl (Blk.row (b4_905.out) (arr z)) Try.underlying79 rfl (size_sums HL.out)) rfl ?_
            exact ⟨rfl, below_setRow (bel_906.out) (by omega) _⟩
          exact AllReady.nil
        exact AllReady.nil
      exact AllReady.nil
    exact AllReady.nil
  exact AllReady.nil
end Go.Proofs.Ythlnialipjihdaa
