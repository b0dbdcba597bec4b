/- The reference's With. -/
import Derived.Test.YthlnialipjihdaaRTied
import Derived.Test.YthlnialipjihdaaApp2
import Derived.Test.YthlnialipjihdaaRWalk
import Derived.Test.YthlnialipjihdaaWith
set_option linter.unusedSimpArgs false
set_option linter.unusedVariables false
namespace Go.Proofs.Ythlnialipjihdaa
open Go.RowKit

set_option maxRecDepth 100000 in
set_option maxHeartbeats 8000000 in
theorem rW_err (p f t m i : Int) (A : Option Addr) (n c : Nat) (l : List Bnd) (w : World) (hr : RdB w A n c l) (hn : n ≤ maxLen) (q : Int) (hq : (q != 0) = true) (HQ : Hid (q ≠ 0)) (E0 : Hid (chk p l = q)) :
    Calls Try.prog 95 #[.agg #[.int .i64 p, .slice A n c], .agg #[.int .i64 f, .int .i64 t, .int .i64 m, .int .i64 i]] w (RetS q p (l ++ [⟨f, t, m, i⟩]) w) := by
  go_enter Try.func95, Try.ntmps95
  have bel_1 := Lib.hid (show Below w.heap.size w w from Below.refl _ w)
  have rd_2 := Lib.hid (hr)
  clear hr
  have bel_3 := Lib.hid (Below.alloc bel_1.out (bel_1.out.size) (.cells #[.int .i64 p, .slice A n c] 24))
  clear bel_1
  have rd_4 := Lib.hid (RdB.alloc rd_2.out (.cells #[.int .i64 p, .slice A n c] 24))
  clear rd_2
  have s_5 := Lib.hid (Blk.new w 24 #[.int .i64 p, .slice A n c])
  have bel_6 := Lib.hid (Below.alloc bel_3.out (bel_3.out.size) (.cells #[.int .i64 f, .int .i64 t, .int .i64 m, .int .i64 i] 54))
  clear bel_3
  have rd_7 := Lib.hid (RdB.alloc rd_4.out (.cells #[.int .i64 f, .int .i64 t, .int .i64 m, .int .i64 i] 54))
  clear rd_4
  have s_8 := Lib.hid (Blk.alloc s_5.out (.cells #[.int .i64 f, .int .i64 t, .int .i64 m, .int .i64 i] 54))
  clear s_5
  have nb_ := Blk.new (w.alloc (.cells #[.int .i64 p, .slice A n c] 24)) 54 #[.int .i64 f, .int .i64 t, .int .i64 m, .int .i64 i]
  simp only [World.size_alloc] at nb_
  have x_9 := Lib.hid nb_; clear nb_
  have bel_10 := Lib.hid (Below.alloc bel_6.out (bel_6.out.size) (.cells #[.int .i64 0, .slice none 0 0] 24))
  clear bel_6
  have rd_11 := Lib.hid (RdB.alloc rd_7.out (.cells #[.int .i64 0, .slice none 0 0] 24))
  clear rd_7
  have s_12 := Lib.hid (Blk.alloc s_8.out (.cells #[.int .i64 0, .slice none 0 0] 24))
  clear s_8
  have x_13 := Lib.hid (Blk.alloc x_9.out (.cells #[.int .i64 0, .slice none 0 0] 24))
  clear x_9
  have nb_ := Blk.new ((w.alloc (.cells #[.int .i64 p, .slice A n c] 24)).alloc (.cells #[.int .i64 f, .int .i64 t, .int .i64 m, .int .i64 i] 54)) 24 #[.int .i64 0, .slice none 0 0]
  simp only [World.size_alloc] at nb_
  have res_14 := Lib.hid nb_; clear nb_
  have hc := rCheckSystem_any p A n c l _ rd_11.out hn
  rw [E0.out] at hc
  try dsimp only at hc
  have HC := Lib.hid hc; clear hc
  go_wp2_with fail
  refine HC.out.mono ?_
  rintro e w_15 ⟨rfl, hb⟩
  clear HC
  have bel_16 := Lib.hid (Below.trans bel_10.out (Below.mono hb (bel_10.out.size)))
  clear bel_10
  have rd_17 := Lib.hid (RdB.below rd_11.out hb)
  clear rd_11
  have s_18 := Lib.hid (Blk.keep s_12.out hb)
  clear s_12
  have x_19 := Lib.hid (Blk.keep x_13.out hb)
  clear x_13
  have res_20 := Lib.hid (Blk.keep res_14.out hb)
  clear res_14
  clear hb
  have z_21 : (w_15).cell? ⟨w.heap.size, 0, none⟩ = some (.int .i64 p) := Blk.cell s_18.out 0
  have z_22 : (w_15).cell? ⟨w.heap.size, 1, none⟩ = some (.slice A n c) := Blk.cell s_18.out 1
  have z_23 : (w_15).cell? ⟨w.heap.size + 1, 0, none⟩ = some (.int .i64 f) := Blk.cell x_19.out 0
  have z_24 : (w_15).cell? ⟨w.heap.size + 1, 1, none⟩ = some (.int .i64 t) := Blk.cell x_19.out 1
  have z_25 : (w_15).cell? ⟨w.heap.size + 1, 2, none⟩ = some (.int .i64 m) := Blk.cell x_19.out 2
  have z_26 : (w_15).cell? ⟨w.heap.size + 1, 3, none⟩ = some (.int .i64 i) := Blk.cell x_19.out 3
  have z_27 : (w_15).cell? ⟨w.heap.size + 1 + 1, 0, none⟩ = some (.int .i64 0) := Blk.cell res_20.out 0
  have z_28 : (w_15).cell? ⟨w.heap.size + 1 + 1, 1, none⟩ = some (.slice none 0 0) := Blk.cell res_20.out 1
  have f0 : (w_15).frozen? ⟨w.heap.size + 1 + 1, 0, none⟩ = false := Blk.frozen res_20.out 0
  have f1 : (w_15).frozen? ⟨w.heap.size + 1 + 1, 1, none⟩ = false := Blk.frozen res_20.out 1
  go_wp2
  refine bodyPost_ret (v := .tuple #[.agg #[.int .i64 0, .slice none 0 0], .int .i64 q]) (by simp [results, Try.results95, go_sem, z_27, z_28]) rfl ?_
  exact ⟨none, 0, 0, by rw [sysR_no HQ.out], fun h => absurd h HQ.out, (bel_16.out.setCell (p := ⟨w.heap.size + 1 + 1, 0, none⟩) (by simp; omega) _).setCell (p := ⟨w.heap.size + 1 + 1, 1, none⟩) (by simp; omega) _⟩

set_option maxRecDepth 100000 in
set_option maxHeartbeats 8000000 in
theorem rW_ok (p f t m i : Int) (A : Option Addr) (n c : Nat) (l : List Bnd) (w : World) (hr : RdB w A n c l) (hn : n ≤ maxLen) (hn4 : n ≤ 400) (E0 : Hid (chk p l = 0)) :
    Calls Try.prog 95 #[.agg #[.int .i64 p, .slice A n c], .agg #[.int .i64 f, .int .i64 t, .int .i64 m, .int .i64 i]] w (RetS (chk p (l ++ [⟨f, t, m, i⟩])) p (l ++ [⟨f, t, m, i⟩]) w) := by
  obtain ⟨i0, hi0, hz0, hz1, hz2⟩ := info_parts infoB
  have HI := Lib.hid hi0; have HZ0 := Lib.hid hz0; have HZ1 := Lib.hid hz1; have HZ2 := Lib.hid hz2; clear hi0 hz0 hz1 hz2
  go_enter Try.func95, Try.ntmps95
  have bel_1 := Lib.hid (show Below w.heap.size w w from Below.refl _ w)
  have rd_2 := Lib.hid (hr)
  clear hr
  have bel_3 := Lib.hid (Below.alloc bel_1.out (bel_1.out.size) (.cells #[.int .i64 p, .slice A n c] 24))
  clear bel_1
  have rd_4 := Lib.hid (RdB.alloc rd_2.out (.cells #[.int .i64 p, .slice A n c] 24))
  clear rd_2
  have s_5 := Lib.hid (Blk.new w 24 #[.int .i64 p, .slice A n c])
  have bel_6 := Lib.hid (Below.alloc bel_3.out (bel_3.out.size) (.cells #[.int .i64 f, .int .i64 t, .int .i64 m, .int .i64 i] 54))
  clear bel_3
  have rd_7 := Lib.hid (RdB.alloc rd_4.out (.cells #[.int .i64 f, .int .i64 t, .int .i64 m, .int .i64 i] 54))
  clear rd_4
  have s_8 := Lib.hid (Blk.alloc s_5.out (.cells #[.int .i64 f, .int .i64 t, .int .i64 m, .int .i64 i] 54))
  clear s_5
  have nb_ := Blk.new (w.alloc (.cells #[.int .i64 p, .slice A n c] 24)) 54 #[.int .i64 f, .int .i64 t, .int .i64 m, .int .i64 i]
  simp only [World.size_alloc] at nb_
  have x_9 := Lib.hid nb_; clear nb_
  have bel_10 := Lib.hid (Below.alloc bel_6.out (bel_6.out.size) (.cells #[.int .i64 0, .slice none 0 0] 24))
  clear bel_6
  have rd_11 := Lib.hid (RdB.alloc rd_7.out (.cells #[.int .i64 0, .slice none 0 0] 24))
  clear rd_7
  have s_12 := Lib.hid (Blk.alloc s_8.out (.cells #[.int .i64 0, .slice none 0 0] 24))
  clear s_8
  have x_13 := Lib.hid (Blk.alloc x_9.out (.cells #[.int .i64 0, .slice none 0 0] 24))
  clear x_9
  have nb_ := Blk.new ((w.alloc (.cells #[.int .i64 p, .slice A n c] 24)).alloc (.cells #[.int .i64 f, .int .i64 t, .int .i64 m, .int .i64 i] 54)) 24 #[.int .i64 0, .slice none 0 0]
  simp only [World.size_alloc] at nb_
  have res_14 := Lib.hid nb_; clear nb_
  have hc := rCheckSystem_any p A n c l _ rd_11.out hn
  rw [E0.out] at hc
  try dsimp only at hc
  have HC := Lib.hid hc; clear hc
  go_wp2_with fail
  refine HC.out.mono ?_
  rintro e w_15 ⟨rfl, hb⟩
  clear HC
  have bel_16 := Lib.hid (Below.trans bel_10.out (Below.mono hb (bel_10.out.size)))
  clear bel_10
  have rd_17 := Lib.hid (RdB.below rd_11.out hb)
  clear rd_11
  have s_18 := Lib.hid (Blk.keep s_12.out hb)
  clear s_12
  have x_19 := Lib.hid (Blk.keep x_13.out hb)
  clear x_13
  have res_20 := Lib.hid (Blk.keep res_14.out hb)
  clear res_14
  clear hb
  have z_21 : (w_15).cell? ⟨w.heap.size, 0, none⟩ = some (.int .i64 p) := Blk.cell s_18.out 0
  have z_22 : (w_15).cell? ⟨w.heap.size, 1, none⟩ = some (.slice A n c) := Blk.cell s_18.out 1
  have z_23 : (w_15).cell? ⟨w.heap.size + 1, 0, none⟩ = some (.int .i64 f) := Blk.cell x_19.out 0
  have z_24 : (w_15).cell? ⟨w.heap.size + 1, 1, none⟩ = some (.int .i64 t) := Blk.cell x_19.out 1
  have z_25 : (w_15).cell? ⟨w.heap.size + 1, 2, none⟩ = some (.int .i64 m) := Blk.cell x_19.out 2
  have z_26 : (w_15).cell? ⟨w.heap.size + 1, 3, none⟩ = some (.int .i64 i) := Blk.cell x_19.out 3
  have z_27 : (w_15).cell? ⟨w.heap.size + 1 + 1, 0, none⟩ = some (.int .i64 0) := Blk.cell res_20.out 0
  have z_28 : (w_15).cell? ⟨w.heap.size + 1 + 1, 1, none⟩ = some (.slice none 0 0) := Blk.cell res_20.out 1
  go_wp2_with fail
  clear z_21 z_22 z_23 z_24 z_25 z_26 z_27 z_28
  have K0 := Lib.hid (Blk.drew s_18.out); have K1 := Lib.hid (Blk.drew x_19.out); have K2 := Lib.hid (Blk.drew res_20.out); have KE := Lib.hid (Below.drew bel_16.out); have KR := Lib.hid (RdB.drew rd_17.out)
  clear s_18 x_19 res_20 bel_16 rd_17
  refine wp_region_held_drew (S := (fun W' => Blk W' w.heap.size 24 #[.int .i64 p, .slice A n c] ∧ Blk W' (w.heap.size + 1) 54 #[.int .i64 f, .int .i64 t, .int .i64 m, .int .i64 i])) (by kernel_rfl) ⟨K0.out, K1.out⟩ (fun _ => ?_)
  obtain ⟨w1, hw2⟩ : ∃ w', w' = w_15.drew := ⟨_, rfl⟩
  rw [← hw2] at K0 K1 K2 KE KR
  rw [← hw2]
  clear hw2
  refine' wpAnyH_take (i := 0) (oi := { dst := some 15, op := Go.Op.fieldAddr 24 (Go.Operand.tmp 2) 0, type := 0, pos := "ref.go:77", after := #[], guard := none }) (v := _) rfl (by kernel_rfl) (by kernel_rfl) (by kernel_rfl) (fun _ _ _ h => h) (Or.inl ⟨by rfl, ?hyR3⟩) ⟨K0.out, K1.out⟩ ?reR3
  case hyR3 => (rintro W' ⟨hS0, hS1⟩; clear hS0 hS1; go_simp; try with_reducible rfl)
  try simp only [Act.put, List.setIfInBounds_toArray, List.set_cons_zero, List.set_cons_succ]
  refine' wpAnyH_take (i := 1) (oi := { dst := some 16, op := Go.Op.load 3 (Go.Operand.tmp 15), type := 3, pos := "ref.go:77", after := #[{ on := 0, ground := Go.Ground.data }], guard := none }) (v := _) rfl (by kernel_rfl) (by kernel_rfl) (by kernel_rfl) (fun _ _ _ h => h) (Or.inl ⟨by rfl, ?hyR4⟩) ⟨K0.out, K1.out⟩ ?reR4
  case hyR4 => (rintro W' ⟨hS0, hS1⟩; have hc0 : W'.cell? ⟨w.heap.size, 0, none⟩ = some (.int .i64 p) := Blk.cell hS0 0; clear hS0 hS1; go_simp; try with_reducible rfl)
  try simp only [Act.put, List.setIfInBounds_toArray, List.set_cons_zero, List.set_cons_succ]
  refine' wpAnyH_take (i := 2) (oi := { dst := some 17, op := Go.Op.fieldAddr 24 (Go.Operand.tmp 2) 1, type := 0, pos := "ref.go:77", after := #[], guard := none }) (v := _) rfl (by kernel_rfl) (by kernel_rfl) (by kernel_rfl) (fun _ _ _ h => h) (Or.inl ⟨by rfl, ?hyR5⟩) ⟨K0.out, K1.out⟩ ?reR5
  case hyR5 => (rintro W' ⟨hS0, hS1⟩; clear hS0 hS1; go_simp; try with_reducible rfl)
  try simp only [Act.put, List.setIfInBounds_toArray, List.set_cons_zero, List.set_cons_succ]
  refine' wpAnyH_take (i := 3) (oi := { dst := some 18, op := Go.Op.load 22 (Go.Operand.tmp 17), type := 22, pos := "ref.go:77", after := #[{ on := 2, ground := Go.Ground.data }], guard := none }) (v := _) rfl (by kernel_rfl) (by kernel_rfl) (by kernel_rfl) (fun _ _ _ h => h) (Or.inl ⟨by rfl, ?hyR6⟩) ⟨K0.out, K1.out⟩ ?reR6
  case hyR6 => (rintro W' ⟨hS0, hS1⟩; have hc0 : W'.cell? ⟨w.heap.size, 1, none⟩ = some (.slice A n c) := Blk.cell hS0 1; clear hS0 hS1; go_simp; try with_reducible rfl)
  try simp only [Act.put, List.setIfInBounds_toArray, List.set_cons_zero, List.set_cons_succ]
  refine' wpAnyH_take (i := 5) (oi := { dst := some 20, op := Go.Op.load 54 (Go.Operand.tmp 3), type := 54, pos := "ref.go:77", after := #[], guard := none }) (v := _) rfl (by kernel_rfl) (by kernel_rfl) (by kernel_rfl) (fun _ _ _ h => h) (Or.inl ⟨by rfl, ?hyR7⟩) ⟨K0.out, K1.out⟩ ?reR7
  case hyR7 => (rintro W' ⟨hS0, hS1⟩; have hc0 : W'.cell? ⟨w.heap.size + 1, 0, none⟩ = some (.int .i64 f) := Blk.cell hS1 0; have hc1 : W'.cell? ⟨w.heap.size + 1, 1, none⟩ = some (.int .i64 t) := Blk.cell hS1 1; have hc2 : W'.cell? ⟨w.heap.size + 1, 2, none⟩ = some (.int .i64 m) := Blk.cell hS1 2; have hc3 : W'.cell? ⟨w.heap.size + 1, 3, none⟩ = some (.int .i64 i) := Blk.cell hS1 3; clear hS0 hS1; go_simp; try with_reducible rfl)
  try simp only [Act.put, List.setIfInBounds_toArray, List.set_cons_zero, List.set_cons_succ]
  refine wpAnyH_ready (rs := [4, 6, 9]) (by kernel_rfl) (by simp) ?_
  refine AllReadyH.cons (o := { dst := some 19, op := Go.Op.call { callee := Go.Callee.value (Go.Operand.func 63), args := #[Go.Operand.tmp 18], argTypes := #[22] }, type := 22, pos := "ref.go:77", after := #[{ on := 3, ground := Go.Ground.data }], guard := none }) rfl (fun K hK => ?_) ?_
  · -- 4: call
    go_simp
    go_at_call 63
    refine (copied_any A n c l _ KR.out (by omega)).mono ?_
    rintro e w8 ⟨Bc, dc, rfl, ho, hb9⟩
    dsimp only
    have HOC := Lib.hid (owns_base ho (Nat.succ_le_of_lt (Blk.lt K2.out))); clear ho
    have b0_10 := Lib.hid (Blk.keep (K0.out) hb9)
    have b1_11 := Lib.hid (Blk.keep (K1.out) hb9)
    have b2_12 := Lib.hid (Blk.keep (K2.out) hb9)
    have bel_13 := Lib.hid (Below.trans (KE.out) (Below.mono hb9 ((KE.out).size)))
    have rd_14 := Lib.hid (RdB.below (KR.out) hb9)
    refine hK.out _ _ ⟨b0_10.out, b1_11.out⟩ (fun _ => ?_); clear hK K
    try simp only [Act.put, List.setIfInBounds_toArray, List.set_cons_zero, List.set_cons_succ]
    refine wpAnyH_ready (rs := [6, 9]) (by kernel_rfl) (by simp) ?_
    refine AllReadyH.cons (o := { dst := some 21, op := Go.Op.buildSlice 22 1 #[(0, Go.Operand.tmp 20)], type := 22, pos := "ref.go:77", after := #[{ on := 5, ground := Go.Ground.data }], guard := none }) rfl (fun K hK => ?_) ?_
    · -- 6: buildSlice
      go_simp
      have NLO := Lib.hid (fun (y : Nat) (e : (Value.slice Bc n dc).ownBlock = some y) => show y < (w8).heap.size from (World.ownsRow.lt HOC.out y e).2)
      have b0_19 := Lib.hid (Blk.alloc (b0_10.out) (.cells #[.int .i64 f, .int .i64 t, .int .i64 m, .int .i64 i] 54))
      have b1_20 := Lib.hid (Blk.alloc (b1_11.out) (.cells #[.int .i64 f, .int .i64 t, .int .i64 m, .int .i64 i] 54))
      have b2_21 := Lib.hid (Blk.alloc (b2_12.out) (.cells #[.int .i64 f, .int .i64 t, .int .i64 m, .int .i64 i] 54))
      have bel_22 := Lib.hid (Below.alloc (bel_13.out) ((bel_13.out).size) (.cells #[.int .i64 f, .int .i64 t, .int .i64 m, .int .i64 i] 54))
      have rd_23 := Lib.hid (RdB.alloc (rd_14.out) (.cells #[.int .i64 f, .int .i64 t, .int .i64 m, .int .i64 i] 54))
      have cp_24 := Lib.hid (World.ownsRow.alloc (HOC.out) (.cells #[.int .i64 f, .int .i64 t, .int .i64 m, .int .i64 i] 54))
      have ne25 := Lib.hid (Nat.ne_of_lt (Blk.lt b0_10.out))
      have ne26 := Lib.hid (Nat.ne_of_lt (Blk.lt b1_11.out))
      have ne27 := Lib.hid (Nat.ne_of_lt (Blk.lt b2_12.out))
      have lb28 := Lib.hid (bel_13.out.size)
      have nb_29 := Lib.hid (Blk.new (w8) 54 #[.int .i64 f, .int .i64 t, .int .i64 m, .int .i64 i])
      obtain ⟨g15, hg16⟩ : ∃ g, g = (w8).heap.size := ⟨_, rfl⟩
      obtain ⟨w17, hw18⟩ : ∃ w', w' = (w8).alloc (.cells #[.int .i64 f, .int .i64 t, .int .i64 m, .int .i64 i] 54) := ⟨_, rfl⟩
      rw [← hw18] at b0_19 b1_20 b2_21 bel_22 rd_23 cp_24 nb_29
      rw [← hg16] at ne25 ne26 ne27 lb28 nb_29 NLO
      rw [← hg16, ← hw18]
      clear hg16 hw18
      clear NLO
      refine hK.out _ _ ⟨b0_19.out, b1_20.out⟩ (fun _ => ?_); clear hK K
      try simp only [Act.put, List.setIfInBounds_toArray, List.set_cons_zero, List.set_cons_succ]
      refine wpAnyH_ready (rs := [7, 9]) (by kernel_rfl) (by simp) ?_
      refine AllReadyH.cons (o := { dst := some 22, op := Go.Op.call { callee := Go.Callee.builtin Go.Builtin.append, args := #[Go.Operand.tmp 19, Go.Operand.tmp 21], argTypes := #[22, 22] }, type := 22, pos := "ref.go:77", after := #[{ on := 4, ground := Go.Ground.data }, { on := 6, ground := Go.Ground.data }, { on := 4, ground := Go.Ground.chain }], guard := none }) rfl (fun K hK => ?_) ?_
      · -- 7: call
        have hcell := cells_add (cs := bcells [⟨f, t, m, i⟩]) (show Blk _ _ _ (bcells [⟨f, t, m, i⟩]).toArray from nb_29.out)
        have hsz := Nat.succ_le_of_lt (Blk.lt b2_21.out)
        have hlr := World.ownsRow.lt cp_24.out
        refine wp_append_own2 _ (.tmp 19) (.tmp 21) 22 rfl (w.heap.size + 1 + 1 + 1) 54 i0 _ 4 32 Try.underlying22 HI.out HZ0.out HZ1.out HZ2.out rfl (by omega) (.slice Bc n dc) n (bcells l) rfl cp_24.out ⟨g15, 0, none⟩ 1 1 (bcells [⟨f, t, m, i⟩]) rfl rfl hcell (bcells_one _) (by unfold maxLen; omega) (by omega) hsz (by omega) ?_
        intro v5 w5 hown5 hg5 hwh5
        obtain ⟨B5, c5, rfl, -⟩ := own_form hown5
        have k30 := Lib.hid (blk_grown b0_19.out hg5 (fun e => by have := (hlr _ e).1; omega))
        have k31 := Lib.hid (blk_grown b1_20.out hg5 (fun e => by have := (hlr _ e).1; omega))
        have k32 := Lib.hid (blk_grown b2_21.out hg5 (fun e => by have := (hlr _ e).1; omega))
        have k33 := Lib.hid (Below.grown bel_22.out hg5 (Below.size bel_22.out) (fun q e => by have := (hlr q e).1; omega))
        have HO5 := Lib.hid (show World.ownsRow w5 (w.heap.size + 1 + 1 + 1) 54 4 (.slice B5 (n + 1) c5) (n + 1) (bcells (l ++ [⟨f, t, m, i⟩])) from by rw [bcells_append]; exact hown5)
        clear hown5 hg5 hwh5 hcell hsz hlr
        refine hK.out _ _ ⟨k30.out, k31.out⟩ (fun _ => ?_); clear hK K
        try simp only [Act.put, List.setIfInBounds_toArray, List.set_cons_zero, List.set_cons_succ]
        refine' wpAnyH_take (i := 8) (oi := { dst := some 23, op := Go.Op.build 24 #[(0, Go.Operand.tmp 16), (1, Go.Operand.tmp 22)], type := 24, pos := "ref.go:77", after := #[{ on := 1, ground := Go.Ground.data }, { on := 7, ground := Go.Ground.data }], guard := none }) (v := _) rfl (by kernel_rfl) (by kernel_rfl) (by kernel_rfl) (fun _ _ _ h => h) (Or.inl ⟨by rfl, ?hyR34⟩) ⟨k30.out, k31.out⟩ ?reR34
        case hyR34 => (rintro W' ⟨hS0, hS1⟩; clear hS0 hS1; go_simp; try with_reducible rfl)
        try simp only [Act.put, List.setIfInBounds_toArray, List.set_cons_zero, List.set_cons_succ]
        refine wpAnyH_ready (rs := [9]) (by kernel_rfl) (by simp) ?_
        refine AllReadyH.cons (o := { dst := some 7, op := Go.Op.alloc 24, type := 0, pos := "ref.go:77", after := #[], guard := none }) rfl (fun K hK => ?_) ?_
        · -- 9: alloc
          go_simp
          have NLO := Lib.hid (fun (y : Nat) (e : (Value.slice B5 (n + 1) c5).ownBlock = some y) => show y < (w5).heap.size from (World.ownsRow.lt HO5.out y e).2)
          have b0_39 := Lib.hid (Blk.alloc (k30.out) (.cells #[.int .i64 0, .slice none 0 0] 24))
          have b1_40 := Lib.hid (Blk.alloc (k31.out) (.cells #[.int .i64 0, .slice none 0 0] 24))
          have b2_41 := Lib.hid (Blk.alloc (k32.out) (.cells #[.int .i64 0, .slice none 0 0] 24))
          have bel_42 := Lib.hid (Below.alloc (k33.out) ((k33.out).size) (.cells #[.int .i64 0, .slice none 0 0] 24))
          have cp_43 := Lib.hid (World.ownsRow.alloc (HO5.out) (.cells #[.int .i64 0, .slice none 0 0] 24))
          have ne44 := Lib.hid (Nat.ne_of_lt (Blk.lt k30.out))
          have ne45 := Lib.hid (Nat.ne_of_lt (Blk.lt k31.out))
          have ne46 := Lib.hid (Nat.ne_of_lt (Blk.lt k32.out))
          have lb47 := Lib.hid (k33.out.size)
          have bo_48 := Lib.hid (Blk.new (w5) 24 #[.int .i64 0, .slice none 0 0])
          obtain ⟨g35, hg36⟩ : ∃ g, g = (w5).heap.size := ⟨_, rfl⟩
          obtain ⟨w37, hw38⟩ : ∃ w', w' = (w5).alloc (.cells #[.int .i64 0, .slice none 0 0] 24) := ⟨_, rfl⟩
          rw [← hw38] at b0_39 b1_40 b2_41 bel_42 cp_43 bo_48
          rw [← hg36] at ne44 ne45 ne46 lb47 bo_48 NLO
          rw [← hg36, ← hw38]
          clear hg36 hw38
          have NEO := Lib.hid (fun (y : Nat) (e : (Value.slice B5 (n + 1) c5).ownBlock = some y) => show y ≠ g35 from Nat.ne_of_lt (NLO.out y e))
          clear NLO
          refine hK.out _ _ ⟨b0_39.out, b1_40.out⟩ (fun _ => ?_); clear hK K
          try simp only [Act.put, List.setIfInBounds_toArray, List.set_cons_zero, List.set_cons_succ]
          refine wpAnyH_ready (rs := [10]) (by kernel_rfl) (by simp) ?_
          refine AllReadyH.cons (o := { dst := none, op := Go.Op.store 24 (Go.Operand.tmp 7) (Go.Operand.tmp 23), type := 0, pos := "ref.go:77", after := #[{ on := 9, ground := Go.Ground.data }, { on := 8, ground := Go.Ground.data }, { on := 7, ground := Go.Ground.chain }, { on := 0, ground := Go.Ground.phase }, { on := 1, ground := Go.Ground.phase }, { on := 2, ground := Go.Ground.phase }, { on := 3, ground := Go.Ground.phase }, { on := 4, ground := Go.Ground.phase }, { on := 5, ground := Go.Ground.phase }, { on := 6, ground := Go.Ground.phase }, { on := 7, ground := Go.Ground.phase }, { on := 8, ground := Go.Ground.phase }, { on := 9, ground := Go.Ground.phase }], guard := none }) rfl (fun K hK => ?_) ?_
          · -- 10: store
            have v0 : w37.cell? ⟨g35, 0, none⟩ = some (.int .i64 0) := Blk.cell bo_48.out 0
            have v1 : w37.cell? ⟨g35, 1, none⟩ = some (.slice none 0 0) := Blk.cell bo_48.out 1
            have f0 : w37.frozen? ⟨g35, 0, none⟩ = false := Blk.frozen bo_48.out 0
            have f1 : w37.frozen? ⟨g35, 1, none⟩ = false := Blk.frozen bo_48.out 1
            have g0 := ne44.out; have g1 := ne45.out; have g2 := ne46.out; have g3 := lb47.out
            go_simp
            have k49 := Lib.hid (Blk.far (Blk.far (b0_39.out) (p := ⟨g35, 0, none⟩) (by simp; omega) (.int .i64 p)) (p := ⟨g35, 1, none⟩) (by simp; omega) (.slice B5 (n + 1) c5))
            have k50 := Lib.hid (Blk.far (Blk.far (b1_40.out) (p := ⟨g35, 0, none⟩) (by simp; omega) (.int .i64 p)) (p := ⟨g35, 1, none⟩) (by simp; omega) (.slice B5 (n + 1) c5))
            have k51 := Lib.hid (Blk.far (Blk.far (b2_41.out) (p := ⟨g35, 0, none⟩) (by simp; omega) (.int .i64 p)) (p := ⟨g35, 1, none⟩) (by simp; omega) (.slice B5 (n + 1) c5))
            have k52 := Lib.hid (Blk.set_ (Blk.set_ (bo_48.out) 0 (.int .i64 p)) 1 (.slice B5 (n + 1) c5))
            have k53 := Lib.hid (Below.setCell (Below.setCell (bel_42.out) (p := ⟨g35, 0, none⟩) (by simp; omega) (.int .i64 p)) (p := ⟨g35, 1, none⟩) (by simp; omega) (.slice B5 (n + 1) c5))
            have k54 := Lib.hid (own_far (own_far (cp_43.out) (a := ⟨g35, 0, none⟩) (fun e => NEO.out _ e rfl) (.int .i64 p)) (a := ⟨g35, 1, none⟩) (fun e => NEO.out _ e rfl) (.slice B5 (n + 1) c5))
            obtain ⟨w55, hw56⟩ : ∃ w', w' = (w37.setCell ⟨g35, 0, none⟩ (.int .i64 p)).setCell ⟨g35, 1, none⟩ (.slice B5 (n + 1) c5) := ⟨_, rfl⟩
            rw [← hw56] at k49 k50 k51 k52 k53 k54
            rw [← hw56]
            clear hw56 v0 v1 f0 f1
            refine hK.out _ _ ⟨k49.out, k50.out⟩ (fun _ => ?_); clear hK K
            try simp only [Act.put, List.setIfInBounds_toArray, List.set_cons_zero, List.set_cons_succ]
            refine wpAnyH_done (by kernel_rfl) ?_ _
            have C2 := k51; have CE := k53; have BO := k52; have OW := k54
            have hlo := Blk.lt BO.out
            have x0 : w55.cell? ⟨g35, 0, none⟩ = some (.int .i64 p) := Blk.cell BO.out 0
            have x1 : w55.cell? ⟨g35, 1, none⟩ = some (.slice B5 (n + 1) c5) := Blk.cell BO.out 1
            have how : World.ownsRow w55 (w.heap.size + 1 + 1 + 1) 54 4 (.slice B5 (n + 1) c5) (n + 1) (bcells (l ++ [⟨f, t, m, i⟩])) := OW.out
            have hrd := (OwnB.rd (show OwnB w55 (w.heap.size + 1 + 1 + 1) B5 (n + 1) c5 (l ++ [⟨f, t, m, i⟩]) from how)).1
            have hc := rCheckSystem_any p B5 (n + 1) c5 (l ++ [⟨f, t, m, i⟩]) w55 hrd (by unfold maxLen; omega)
            have HC := Lib.hid hc; have HOW := Lib.hid how; clear hc how hrd
            generalize hcq : chk p (l ++ [⟨f, t, m, i⟩]) = cq at *
            go_wp2_with fail
            refine HC.out.mono ?_
            rintro e w9 ⟨rfl, hb⟩
            clear HC x0 x1
            have D2 := Lib.hid (Blk.keep C2.out hb); have DO := Lib.hid (Blk.keep BO.out hb); have DE := Lib.hid (CE.out.trans (Below.mono hb CE.out.size)); have DW := Lib.hid (owns_below HOW.out hb); clear HOW hb
            have hl2' := Blk.lt D2.out
            have v0 : w9.cell? ⟨w.heap.size + 1 + 1, 0, none⟩ = some (.int .i64 0) := Blk.cell D2.out 0
            have v1 : w9.cell? ⟨w.heap.size + 1 + 1, 1, none⟩ = some (.slice none 0 0) := Blk.cell D2.out 1
            have f0 : w9.frozen? ⟨w.heap.size + 1 + 1, 0, none⟩ = false := Blk.frozen D2.out 0
            have f1 : w9.frozen? ⟨w.heap.size + 1 + 1, 1, none⟩ = false := Blk.frozen D2.out 1
            have x0 : w9.cell? ⟨g35, 0, none⟩ = some (.int .i64 p) := Blk.cell DO.out 0
            have x1 : w9.cell? ⟨g35, 1, none⟩ = some (.slice B5 (n + 1) c5) := Blk.cell DO.out 1
            by_cases hz : cq = 0
            · subst hz
              go_wp2
              refine bodyPost_ret (v := .tuple #[.agg #[.int .i64 p, .slice B5 (n + 1) c5], .int .i64 0]) (by simp [results, Try.results95, go_sem, v0, v1]) rfl ?_
              refine ⟨B5, n + 1, c5, by rw [sysR_yes], fun _ => ?_, (DE.out.setCell (p := ⟨w.heap.size + 1 + 1, 0, none⟩) (by simp; omega) _).setCell (p := ⟨w.heap.size + 1 + 1, 1, none⟩) (by simp; omega) _⟩
              exact owns_base (ownsRow_setCell_below (ownsRow_setCell_below DW.out (a := ⟨w.heap.size + 1 + 1, 0, none⟩) (by simp) _) (a := ⟨w.heap.size + 1 + 1, 1, none⟩) (by simp) _) (by omega)
            · have hq : (cq != 0) = true := by simpa using hz
              have HQ := Lib.hid hz; clear hz
              go_wp2
              refine bodyPost_ret (v := .tuple #[.agg #[.int .i64 0, .slice none 0 0], .int .i64 cq]) (by simp [results, Try.results95, go_sem, v0, v1]) rfl ?_
              exact ⟨none, 0, 0, by rw [sysR_no HQ.out], fun h => absurd h HQ.out, (DE.out.setCell (p := ⟨w.heap.size + 1 + 1, 0, none⟩) (by simp; omega) _).setCell (p := ⟨w.heap.size + 1 + 1, 1, none⟩) (by simp; omega) _⟩
          exact AllReadyH.nil
        exact AllReadyH.nil
      refine AllReadyH.cons (o := { dst := some 7, op := Go.Op.alloc 24, type := 0, pos := "ref.go:77", after := #[], guard := none }) rfl (fun K hK => ?_) ?_
      · -- 9: alloc
        go_simp
        have NLO := Lib.hid (fun (y : Nat) (e : (Value.slice Bc n dc).ownBlock = some y) => show y < (w17).heap.size from (World.ownsRow.lt cp_24.out y e).2)
        have b0_61 := Lib.hid (Blk.alloc (b0_19.out) (.cells #[.int .i64 0, .slice none 0 0] 24))
        have b1_62 := Lib.hid (Blk.alloc (b1_20.out) (.cells #[.int .i64 0, .slice none 0 0] 24))
        have b2_63 := Lib.hid (Blk.alloc (b2_21.out) (.cells #[.int .i64 0, .slice none 0 0] 24))
        have bel_64 := Lib.hid (Below.alloc (bel_22.out) ((bel_22.out).size) (.cells #[.int .i64 0, .slice none 0 0] 24))
        have rd_65 := Lib.hid (RdB.alloc (rd_23.out) (.cells #[.int .i64 0, .slice none 0 0] 24))
        have cp_66 := Lib.hid (World.ownsRow.alloc (cp_24.out) (.cells #[.int .i64 0, .slice none 0 0] 24))
        have nb_67 := Lib.hid (Blk.alloc (nb_29.out) (.cells #[.int .i64 0, .slice none 0 0] 24))
        have ne68 := Lib.hid (Nat.ne_of_lt (Blk.lt b0_19.out))
        have ne69 := Lib.hid (Nat.ne_of_lt (Blk.lt b1_20.out))
        have ne70 := Lib.hid (Nat.ne_of_lt (Blk.lt b2_21.out))
        have lb71 := Lib.hid (bel_22.out.size)
        have ne72 := Lib.hid (Nat.ne_of_lt (Blk.lt nb_29.out))
        have bo_73 := Lib.hid (Blk.new (w17) 24 #[.int .i64 0, .slice none 0 0])
        obtain ⟨g57, hg58⟩ : ∃ g, g = (w17).heap.size := ⟨_, rfl⟩
        obtain ⟨w59, hw60⟩ : ∃ w', w' = (w17).alloc (.cells #[.int .i64 0, .slice none 0 0] 24) := ⟨_, rfl⟩
        rw [← hw60] at b0_61 b1_62 b2_63 bel_64 rd_65 cp_66 nb_67 bo_73
        rw [← hg58] at ne68 ne69 ne70 lb71 ne72 bo_73 NLO
        rw [← hg58, ← hw60]
        clear hg58 hw60
        have NEO := Lib.hid (fun (y : Nat) (e : (Value.slice Bc n dc).ownBlock = some y) => show y ≠ g57 from Nat.ne_of_lt (NLO.out y e))
        clear NLO
        refine hK.out _ _ ⟨b0_61.out, b1_62.out⟩ (fun _ => ?_); clear hK K
        try simp only [Act.put, List.setIfInBounds_toArray, List.set_cons_zero, List.set_cons_succ]
        refine wpAnyH_ready (rs := [7]) (by kernel_rfl) (by simp) ?_
        refine AllReadyH.cons (o := { dst := some 22, op := Go.Op.call { callee := Go.Callee.builtin Go.Builtin.append, args := #[Go.Operand.tmp 19, Go.Operand.tmp 21], argTypes := #[22, 22] }, type := 22, pos := "ref.go:77", after := #[{ on := 4, ground := Go.Ground.data }, { on := 6, ground := Go.Ground.data }, { on := 4, ground := Go.Ground.chain }], guard := none }) rfl (fun K hK => ?_) ?_
        · -- 7: call
          have hcell := cells_add (cs := bcells [⟨f, t, m, i⟩]) (show Blk _ _ _ (bcells [⟨f, t, m, i⟩]).toArray from nb_67.out)
          have hsz := Nat.succ_le_of_lt (Blk.lt b2_63.out)
          have hlr := World.ownsRow.lt cp_66.out
          refine wp_append_own2 _ (.tmp 19) (.tmp 21) 22 rfl (w.heap.size + 1 + 1 + 1) 54 i0 _ 4 32 Try.underlying22 HI.out HZ0.out HZ1.out HZ2.out rfl (by omega) (.slice Bc n dc) n (bcells l) rfl cp_66.out ⟨g15, 0, none⟩ 1 1 (bcells [⟨f, t, m, i⟩]) rfl rfl hcell (bcells_one _) (by unfold maxLen; omega) (by omega) hsz (by omega) ?_
          intro v5 w5 hown5 hg5 hwh5
          obtain ⟨B5, c5, rfl, -⟩ := own_form hown5
          have NE8 := Lib.hid (fun (y : Nat) (e : (Value.slice B5 (n + 1) c5).ownBlock = some y) => show y ≠ g57 from by (intro e2; rcases hwh5 with h | h; exact NEO.out _ (h.symm.trans e) e2; exact absurd (Blk.lt bo_73.out) (by have h2 := Option.some.inj (h.symm.trans e); omega)))
          have k74 := Lib.hid (blk_grown b0_61.out hg5 (fun e => by have := (hlr _ e).1; omega))
          have k75 := Lib.hid (blk_grown b1_62.out hg5 (fun e => by have := (hlr _ e).1; omega))
          have k76 := Lib.hid (blk_grown b2_63.out hg5 (fun e => by have := (hlr _ e).1; omega))
          have k77 := Lib.hid (blk_grown bo_73.out hg5 (fun e => NEO.out _ e rfl))
          have NEO := NE8
          have k78 := Lib.hid (Below.grown bel_64.out hg5 (Below.size bel_64.out) (fun q e => by have := (hlr q e).1; omega))
          have HO5 := Lib.hid (show World.ownsRow w5 (w.heap.size + 1 + 1 + 1) 54 4 (.slice B5 (n + 1) c5) (n + 1) (bcells (l ++ [⟨f, t, m, i⟩])) from by rw [bcells_append]; exact hown5)
          clear hown5 hg5 hwh5 hcell hsz hlr
          refine hK.out _ _ ⟨k74.out, k75.out⟩ (fun _ => ?_); clear hK K
          try simp only [Act.put, List.setIfInBounds_toArray, List.set_cons_zero, List.set_cons_succ]
          refine' wpAnyH_take (i := 8) (oi := { dst := some 23, op := Go.Op.build 24 #[(0, Go.Operand.tmp 16), (1, Go.Operand.tmp 22)], type := 24, pos := "ref.go:77", after := #[{ on := 1, ground := Go.Ground.data }, { on := 7, ground := Go.Ground.data }], guard := none }) (v := _) rfl (by kernel_rfl) (by kernel_rfl) (by kernel_rfl) (fun _ _ _ h => h) (Or.inl ⟨by rfl, ?hyR79⟩) ⟨k74.out, k75.out⟩ ?reR79
          case hyR79 => (rintro W' ⟨hS0, hS1⟩; clear hS0 hS1; go_simp; try with_reducible rfl)
          try simp only [Act.put, List.setIfInBounds_toArray, List.set_cons_zero, List.set_cons_succ]
          refine wpAnyH_ready (rs := [10]) (by kernel_rfl) (by simp) ?_
          refine AllReadyH.cons (o := { dst := none, op := Go.Op.store 24 (Go.Operand.tmp 7) (Go.Operand.tmp 23), type := 0, pos := "ref.go:77", after := #[{ on := 9, ground := Go.Ground.data }, { on := 8, ground := Go.Ground.data }, { on := 7, ground := Go.Ground.chain }, { on := 0, ground := Go.Ground.phase }, { on := 1, ground := Go.Ground.phase }, { on := 2, ground := Go.Ground.phase }, { on := 3, ground := Go.Ground.phase }, { on := 4, ground := Go.Ground.phase }, { on := 5, ground := Go.Ground.phase }, { on := 6, ground := Go.Ground.phase }, { on := 7, ground := Go.Ground.phase }, { on := 8, ground := Go.Ground.phase }, { on := 9, ground := Go.Ground.phase }], guard := none }) rfl (fun K hK => ?_) ?_
          · -- 10: store
            have v0 : w5.cell? ⟨g57, 0, none⟩ = some (.int .i64 0) := Blk.cell k77.out 0
            have v1 : w5.cell? ⟨g57, 1, none⟩ = some (.slice none 0 0) := Blk.cell k77.out 1
            have f0 : w5.frozen? ⟨g57, 0, none⟩ = false := Blk.frozen k77.out 0
            have f1 : w5.frozen? ⟨g57, 1, none⟩ = false := Blk.frozen k77.out 1
            have g0 := ne68.out; have g1 := ne69.out; have g2 := ne70.out; have g3 := lb71.out
            go_simp
            have k80 := Lib.hid (Blk.far (Blk.far (k74.out) (p := ⟨g57, 0, none⟩) (by simp; omega) (.int .i64 p)) (p := ⟨g57, 1, none⟩) (by simp; omega) (.slice B5 (n + 1) c5))
            have k81 := Lib.hid (Blk.far (Blk.far (k75.out) (p := ⟨g57, 0, none⟩) (by simp; omega) (.int .i64 p)) (p := ⟨g57, 1, none⟩) (by simp; omega) (.slice B5 (n + 1) c5))
            have k82 := Lib.hid (Blk.far (Blk.far (k76.out) (p := ⟨g57, 0, none⟩) (by simp; omega) (.int .i64 p)) (p := ⟨g57, 1, none⟩) (by simp; omega) (.slice B5 (n + 1) c5))
            have k83 := Lib.hid (Blk.set_ (Blk.set_ (k77.out) 0 (.int .i64 p)) 1 (.slice B5 (n + 1) c5))
            have k84 := Lib.hid (Below.setCell (Below.setCell (k78.out) (p := ⟨g57, 0, none⟩) (by simp; omega) (.int .i64 p)) (p := ⟨g57, 1, none⟩) (by simp; omega) (.slice B5 (n + 1) c5))
            have k85 := Lib.hid (own_far (own_far (HO5.out) (a := ⟨g57, 0, none⟩) (fun e => NEO.out _ e rfl) (.int .i64 p)) (a := ⟨g57, 1, none⟩) (fun e => NEO.out _ e rfl) (.slice B5 (n + 1) c5))
            obtain ⟨w86, hw87⟩ : ∃ w', w' = (w5.setCell ⟨g57, 0, none⟩ (.int .i64 p)).setCell ⟨g57, 1, none⟩ (.slice B5 (n + 1) c5) := ⟨_, rfl⟩
            rw [← hw87] at k80 k81 k82 k83 k84 k85
            rw [← hw87]
            clear hw87 v0 v1 f0 f1
            refine hK.out _ _ ⟨k80.out, k81.out⟩ (fun _ => ?_); clear hK K
            try simp only [Act.put, List.setIfInBounds_toArray, List.set_cons_zero, List.set_cons_succ]
            refine wpAnyH_done (by kernel_rfl) ?_ _
            have C2 := k82; have CE := k84; have BO := k83; have OW := k85
            have hlo := Blk.lt BO.out
            have x0 : w86.cell? ⟨g57, 0, none⟩ = some (.int .i64 p) := Blk.cell BO.out 0
            have x1 : w86.cell? ⟨g57, 1, none⟩ = some (.slice B5 (n + 1) c5) := Blk.cell BO.out 1
            have how : World.ownsRow w86 (w.heap.size + 1 + 1 + 1) 54 4 (.slice B5 (n + 1) c5) (n + 1) (bcells (l ++ [⟨f, t, m, i⟩])) := OW.out
            have hrd := (OwnB.rd (show OwnB w86 (w.heap.size + 1 + 1 + 1) B5 (n + 1) c5 (l ++ [⟨f, t, m, i⟩]) from how)).1
            have hc := rCheckSystem_any p B5 (n + 1) c5 (l ++ [⟨f, t, m, i⟩]) w86 hrd (by unfold maxLen; omega)
            have HC := Lib.hid hc; have HOW := Lib.hid how; clear hc how hrd
            generalize hcq : chk p (l ++ [⟨f, t, m, i⟩]) = cq at *
            go_wp2_with fail
            refine HC.out.mono ?_
            rintro e w9 ⟨rfl, hb⟩
            clear HC x0 x1
            have D2 := Lib.hid (Blk.keep C2.out hb); have DO := Lib.hid (Blk.keep BO.out hb); have DE := Lib.hid (CE.out.trans (Below.mono hb CE.out.size)); have DW := Lib.hid (owns_below HOW.out hb); clear HOW hb
            have hl2' := Blk.lt D2.out
            have v0 : w9.cell? ⟨w.heap.size + 1 + 1, 0, none⟩ = some (.int .i64 0) := Blk.cell D2.out 0
            have v1 : w9.cell? ⟨w.heap.size + 1 + 1, 1, none⟩ = some (.slice none 0 0) := Blk.cell D2.out 1
            have f0 : w9.frozen? ⟨w.heap.size + 1 + 1, 0, none⟩ = false := Blk.frozen D2.out 0
            have f1 : w9.frozen? ⟨w.heap.size + 1 + 1, 1, none⟩ = false := Blk.frozen D2.out 1
            have x0 : w9.cell? ⟨g57, 0, none⟩ = some (.int .i64 p) := Blk.cell DO.out 0
            have x1 : w9.cell? ⟨g57, 1, none⟩ = some (.slice B5 (n + 1) c5) := Blk.cell DO.out 1
            by_cases hz : cq = 0
            · subst hz
              go_wp2
              refine bodyPost_ret (v := .tuple #[.agg #[.int .i64 p, .slice B5 (n + 1) c5], .int .i64 0]) (by simp [results, Try.results95, go_sem, v0, v1]) rfl ?_
              refine ⟨B5, n + 1, c5, by rw [sysR_yes], fun _ => ?_, (DE.out.setCell (p := ⟨w.heap.size + 1 + 1, 0, none⟩) (by simp; omega) _).setCell (p := ⟨w.heap.size + 1 + 1, 1, none⟩) (by simp; omega) _⟩
              exact owns_base (ownsRow_setCell_below (ownsRow_setCell_below DW.out (a := ⟨w.heap.size + 1 + 1, 0, none⟩) (by simp) _) (a := ⟨w.heap.size + 1 + 1, 1, none⟩) (by simp) _) (by omega)
            · have hq : (cq != 0) = true := by simpa using hz
              have HQ := Lib.hid hz; clear hz
              go_wp2
              refine bodyPost_ret (v := .tuple #[.agg #[.int .i64 0, .slice none 0 0], .int .i64 cq]) (by simp [results, Try.results95, go_sem, v0, v1]) rfl ?_
              exact ⟨none, 0, 0, by rw [sysR_no HQ.out], fun h => absurd h HQ.out, (DE.out.setCell (p := ⟨w.heap.size + 1 + 1, 0, none⟩) (by simp; omega) _).setCell (p := ⟨w.heap.size + 1 + 1, 1, none⟩) (by simp; omega) _⟩
          exact AllReadyH.nil
        exact AllReadyH.nil
      exact AllReadyH.nil
    refine AllReadyH.cons (o := { dst := some 7, op := Go.Op.alloc 24, type := 0, pos := "ref.go:77", after := #[], guard := none }) rfl (fun K hK => ?_) ?_
    · -- 9: alloc
      go_simp
      have NLO := Lib.hid (fun (y : Nat) (e : (Value.slice Bc n dc).ownBlock = some y) => show y < (w8).heap.size from (World.ownsRow.lt HOC.out y e).2)
      have b0_92 := Lib.hid (Blk.alloc (b0_10.out) (.cells #[.int .i64 0, .slice none 0 0] 24))
      have b1_93 := Lib.hid (Blk.alloc (b1_11.out) (.cells #[.int .i64 0, .slice none 0 0] 24))
      have b2_94 := Lib.hid (Blk.alloc (b2_12.out) (.cells #[.int .i64 0, .slice none 0 0] 24))
      have bel_95 := Lib.hid (Below.alloc (bel_13.out) ((bel_13.out).size) (.cells #[.int .i64 0, .slice none 0 0] 24))
      have rd_96 := Lib.hid (RdB.alloc (rd_14.out) (.cells #[.int .i64 0, .slice none 0 0] 24))
      have cp_97 := Lib.hid (World.ownsRow.alloc (HOC.out) (.cells #[.int .i64 0, .slice none 0 0] 24))
      have ne98 := Lib.hid (Nat.ne_of_lt (Blk.lt b0_10.out))
      have ne99 := Lib.hid (Nat.ne_of_lt (Blk.lt b1_11.out))
      have ne100 := Lib.hid (Nat.ne_of_lt (Blk.lt b2_12.out))
      have lb101 := Lib.hid (bel_13.out.size)
      have bo_102 := Lib.hid (Blk.new (w8) 24 #[.int .i64 0, .slice none 0 0])
      obtain ⟨g88, hg89⟩ : ∃ g, g = (w8).heap.size := ⟨_, rfl⟩
      obtain ⟨w90, hw91⟩ : ∃ w', w' = (w8).alloc (.cells #[.int .i64 0, .slice none 0 0] 24) := ⟨_, rfl⟩
      rw [← hw91] at b0_92 b1_93 b2_94 bel_95 rd_96 cp_97 bo_102
      rw [← hg89] at ne98 ne99 ne100 lb101 bo_102 NLO
      rw [← hg89, ← hw91]
      clear hg89 hw91
      have NEO := Lib.hid (fun (y : Nat) (e : (Value.slice Bc n dc).ownBlock = some y) => show y ≠ g88 from Nat.ne_of_lt (NLO.out y e))
      clear NLO
      refine hK.out _ _ ⟨b0_92.out, b1_93.out⟩ (fun _ => ?_); clear hK K
      try simp only [Act.put, List.setIfInBounds_toArray, List.set_cons_zero, List.set_cons_succ]
      refine wpAnyH_ready (rs := [6]) (by kernel_rfl) (by simp) ?_
      refine AllReadyH.cons (o := { dst := some 21, op := Go.Op.buildSlice 22 1 #[(0, Go.Operand.tmp 20)], type := 22, pos := "ref.go:77", after := #[{ on := 5, ground := Go.Ground.data }], guard := none }) rfl (fun K hK => ?_) ?_
      · -- 6: buildSlice
        go_simp
        have NLO := Lib.hid (fun (y : Nat) (e : (Value.slice Bc n dc).ownBlock = some y) => show y < (w90).heap.size from (World.ownsRow.lt cp_97.out y e).2)
        have b0_107 := Lib.hid (Blk.alloc (b0_92.out) (.cells #[.int .i64 f, .int .i64 t, .int .i64 m, .int .i64 i] 54))
        have b1_108 := Lib.hid (Blk.alloc (b1_93.out) (.cells #[.int .i64 f, .int .i64 t, .int .i64 m, .int .i64 i] 54))
        have b2_109 := Lib.hid (Blk.alloc (b2_94.out) (.cells #[.int .i64 f, .int .i64 t, .int .i64 m, .int .i64 i] 54))
        have bel_110 := Lib.hid (Below.alloc (bel_95.out) ((bel_95.out).size) (.cells #[.int .i64 f, .int .i64 t, .int .i64 m, .int .i64 i] 54))
        have rd_111 := Lib.hid (RdB.alloc (rd_96.out) (.cells #[.int .i64 f, .int .i64 t, .int .i64 m, .int .i64 i] 54))
        have cp_112 := Lib.hid (World.ownsRow.alloc (cp_97.out) (.cells #[.int .i64 f, .int .i64 t, .int .i64 m, .int .i64 i] 54))
        have bo_113 := Lib.hid (Blk.alloc (bo_102.out) (.cells #[.int .i64 f, .int .i64 t, .int .i64 m, .int .i64 i] 54))
        have ne114 := Lib.hid (Nat.ne_of_lt (Blk.lt b0_92.out))
        have ne115 := Lib.hid (Nat.ne_of_lt (Blk.lt b1_93.out))
        have ne116 := Lib.hid (Nat.ne_of_lt (Blk.lt b2_94.out))
        have lb117 := Lib.hid (bel_95.out.size)
        have ne118 := Lib.hid (Nat.ne_of_lt (Blk.lt bo_102.out))
        have nb_119 := Lib.hid (Blk.new (w90) 54 #[.int .i64 f, .int .i64 t, .int .i64 m, .int .i64 i])
        obtain ⟨g103, hg104⟩ : ∃ g, g = (w90).heap.size := ⟨_, rfl⟩
        obtain ⟨w105, hw106⟩ : ∃ w', w' = (w90).alloc (.cells #[.int .i64 f, .int .i64 t, .int .i64 m, .int .i64 i] 54) := ⟨_, rfl⟩
        rw [← hw106] at b0_107 b1_108 b2_109 bel_110 rd_111 cp_112 bo_113 nb_119
        rw [← hg104] at ne114 ne115 ne116 lb117 ne118 nb_119 NLO
        rw [← hg104, ← hw106]
        clear hg104 hw106
        clear NLO
        refine hK.out _ _ ⟨b0_107.out, b1_108.out⟩ (fun _ => ?_); clear hK K
        try simp only [Act.put, List.setIfInBounds_toArray, List.set_cons_zero, List.set_cons_succ]
        refine wpAnyH_ready (rs := [7]) (by kernel_rfl) (by simp) ?_
        refine AllReadyH.cons (o := { dst := some 22, op := Go.Op.call { callee := Go.Callee.builtin Go.Builtin.append, args := #[Go.Operand.tmp 19, Go.Operand.tmp 21], argTypes := #[22, 22] }, type := 22, pos := "ref.go:77", after := #[{ on := 4, ground := Go.Ground.data }, { on := 6, ground := Go.Ground.data }, { on := 4, ground := Go.Ground.chain }], guard := none }) rfl (fun K hK => ?_) ?_
        · -- 7: call
          have hcell := cells_add (cs := bcells [⟨f, t, m, i⟩]) (show Blk _ _ _ (bcells [⟨f, t, m, i⟩]).toArray from nb_119.out)
          have hsz := Nat.succ_le_of_lt (Blk.lt b2_109.out)
          have hlr := World.ownsRow.lt cp_112.out
          refine wp_append_own2 _ (.tmp 19) (.tmp 21) 22 rfl (w.heap.size + 1 + 1 + 1) 54 i0 _ 4 32 Try.underlying22 HI.out HZ0.out HZ1.out HZ2.out rfl (by omega) (.slice Bc n dc) n (bcells l) rfl cp_112.out ⟨g103, 0, none⟩ 1 1 (bcells [⟨f, t, m, i⟩]) rfl rfl hcell (bcells_one _) (by unfold maxLen; omega) (by omega) hsz (by omega) ?_
          intro v5 w5 hown5 hg5 hwh5
          obtain ⟨B5, c5, rfl, -⟩ := own_form hown5
          have NE8 := Lib.hid (fun (y : Nat) (e : (Value.slice B5 (n + 1) c5).ownBlock = some y) => show y ≠ g88 from by (intro e2; rcases hwh5 with h | h; exact NEO.out _ (h.symm.trans e) e2; exact absurd (Blk.lt bo_113.out) (by have h2 := Option.some.inj (h.symm.trans e); omega)))
          have k120 := Lib.hid (blk_grown b0_107.out hg5 (fun e => by have := (hlr _ e).1; omega))
          have k121 := Lib.hid (blk_grown b1_108.out hg5 (fun e => by have := (hlr _ e).1; omega))
          have k122 := Lib.hid (blk_grown b2_109.out hg5 (fun e => by have := (hlr _ e).1; omega))
          have k123 := Lib.hid (blk_grown bo_113.out hg5 (fun e => NEO.out _ e rfl))
          have NEO := NE8
          have k124 := Lib.hid (Below.grown bel_110.out hg5 (Below.size bel_110.out) (fun q e => by have := (hlr q e).1; omega))
          have HO5 := Lib.hid (show World.ownsRow w5 (w.heap.size + 1 + 1 + 1) 54 4 (.slice B5 (n + 1) c5) (n + 1) (bcells (l ++ [⟨f, t, m, i⟩])) from by rw [bcells_append]; exact hown5)
          clear hown5 hg5 hwh5 hcell hsz hlr
          refine hK.out _ _ ⟨k120.out, k121.out⟩ (fun _ => ?_); clear hK K
          try simp only [Act.put, List.setIfInBounds_toArray, List.set_cons_zero, List.set_cons_succ]
          refine' wpAnyH_take (i := 8) (oi := { dst := some 23, op := Go.Op.build 24 #[(0, Go.Operand.tmp 16), (1, Go.Operand.tmp 22)], type := 24, pos := "ref.go:77", after := #[{ on := 1, ground := Go.Ground.data }, { on := 7, ground := Go.Ground.data }], guard := none }) (v := _) rfl (by kernel_rfl) (by kernel_rfl) (by kernel_rfl) (fun _ _ _ h => h) (Or.inl ⟨by rfl, ?hyR125⟩) ⟨k120.out, k121.out⟩ ?reR125
          case hyR125 => (rintro W' ⟨hS0, hS1⟩; clear hS0 hS1; go_simp; try with_reducible rfl)
          try simp only [Act.put, List.setIfInBounds_toArray, List.set_cons_zero, List.set_cons_succ]
          refine wpAnyH_ready (rs := [10]) (by kernel_rfl) (by simp) ?_
          refine AllReadyH.cons (o := { dst := none, op := Go.Op.store 24 (Go.Operand.tmp 7) (Go.Operand.tmp 23), type := 0, pos := "ref.go:77", after := #[{ on := 9, ground := Go.Ground.data }, { on := 8, ground := Go.Ground.data }, { on := 7, ground := Go.Ground.chain }, { on := 0, ground := Go.Ground.phase }, { on := 1, ground := Go.Ground.phase }, { on := 2, ground := Go.Ground.phase }, { on := 3, ground := Go.Ground.phase }, { on := 4, ground := Go.Ground.phase }, { on := 5, ground := Go.Ground.phase }, { on := 6, ground := Go.Ground.phase }, { on := 7, ground := Go.Ground.phase }, { on := 8, ground := Go.Ground.phase }, { on := 9, ground := Go.Ground.phase }], guard := none }) rfl (fun K hK => ?_) ?_
          · -- 10: store
            have v0 : w5.cell? ⟨g88, 0, none⟩ = some (.int .i64 0) := Blk.cell k123.out 0
            have v1 : w5.cell? ⟨g88, 1, none⟩ = some (.slice none 0 0) := Blk.cell k123.out 1
            have f0 : w5.frozen? ⟨g88, 0, none⟩ = false := Blk.frozen k123.out 0
            have f1 : w5.frozen? ⟨g88, 1, none⟩ = false := Blk.frozen k123.out 1
            have g0 := ne98.out; have g1 := ne99.out; have g2 := ne100.out; have g3 := lb101.out
            go_simp
            have k126 := Lib.hid (Blk.far (Blk.far (k120.out) (p := ⟨g88, 0, none⟩) (by simp; omega) (.int .i64 p)) (p := ⟨g88, 1, none⟩) (by simp; omega) (.slice B5 (n + 1) c5))
            have k127 := Lib.hid (Blk.far (Blk.far (k121.out) (p := ⟨g88, 0, none⟩) (by simp; omega) (.int .i64 p)) (p := ⟨g88, 1, none⟩) (by simp; omega) (.slice B5 (n + 1) c5))
            have k128 := Lib.hid (Blk.far (Blk.far (k122.out) (p := ⟨g88, 0, none⟩) (by simp; omega) (.int .i64 p)) (p := ⟨g88, 1, none⟩) (by simp; omega) (.slice B5 (n + 1) c5))
            have k129 := Lib.hid (Blk.set_ (Blk.set_ (k123.out) 0 (.int .i64 p)) 1 (.slice B5 (n + 1) c5))
            have k130 := Lib.hid (Below.setCell (Below.setCell (k124.out) (p := ⟨g88, 0, none⟩) (by simp; omega) (.int .i64 p)) (p := ⟨g88, 1, none⟩) (by simp; omega) (.slice B5 (n + 1) c5))
            have k131 := Lib.hid (own_far (own_far (HO5.out) (a := ⟨g88, 0, none⟩) (fun e => NEO.out _ e rfl) (.int .i64 p)) (a := ⟨g88, 1, none⟩) (fun e => NEO.out _ e rfl) (.slice B5 (n + 1) c5))
            obtain ⟨w132, hw133⟩ : ∃ w', w' = (w5.setCell ⟨g88, 0, none⟩ (.int .i64 p)).setCell ⟨g88, 1, none⟩ (.slice B5 (n + 1) c5) := ⟨_, rfl⟩
            rw [← hw133] at k126 k127 k128 k129 k130 k131
            rw [← hw133]
            clear hw133 v0 v1 f0 f1
            refine hK.out _ _ ⟨k126.out, k127.out⟩ (fun _ => ?_); clear hK K
            try simp only [Act.put, List.setIfInBounds_toArray, List.set_cons_zero, List.set_cons_succ]
            refine wpAnyH_done (by kernel_rfl) ?_ _
            have C2 := k128; have CE := k130; have BO := k129; have OW := k131
            have hlo := Blk.lt BO.out
            have x0 : w132.cell? ⟨g88, 0, none⟩ = some (.int .i64 p) := Blk.cell BO.out 0
            have x1 : w132.cell? ⟨g88, 1, none⟩ = some (.slice B5 (n + 1) c5) := Blk.cell BO.out 1
            have how : World.ownsRow w132 (w.heap.size + 1 + 1 + 1) 54 4 (.slice B5 (n + 1) c5) (n + 1) (bcells (l ++ [⟨f, t, m, i⟩])) := OW.out
            have hrd := (OwnB.rd (show OwnB w132 (w.heap.size + 1 + 1 + 1) B5 (n + 1) c5 (l ++ [⟨f, t, m, i⟩]) from how)).1
            have hc := rCheckSystem_any p B5 (n + 1) c5 (l ++ [⟨f, t, m, i⟩]) w132 hrd (by unfold maxLen; omega)
            have HC := Lib.hid hc; have HOW := Lib.hid how; clear hc how hrd
            generalize hcq : chk p (l ++ [⟨f, t, m, i⟩]) = cq at *
            go_wp2_with fail
            refine HC.out.mono ?_
            rintro e w9 ⟨rfl, hb⟩
            clear HC x0 x1
            have D2 := Lib.hid (Blk.keep C2.out hb); have DO := Lib.hid (Blk.keep BO.out hb); have DE := Lib.hid (CE.out.trans (Below.mono hb CE.out.size)); have DW := Lib.hid (owns_below HOW.out hb); clear HOW hb
            have hl2' := Blk.lt D2.out
            have v0 : w9.cell? ⟨w.heap.size + 1 + 1, 0, none⟩ = some (.int .i64 0) := Blk.cell D2.out 0
            have v1 : w9.cell? ⟨w.heap.size + 1 + 1, 1, none⟩ = some (.slice none 0 0) := Blk.cell D2.out 1
            have f0 : w9.frozen? ⟨w.heap.size + 1 + 1, 0, none⟩ = false := Blk.frozen D2.out 0
            have f1 : w9.frozen? ⟨w.heap.size + 1 + 1, 1, none⟩ = false := Blk.frozen D2.out 1
            have x0 : w9.cell? ⟨g88, 0, none⟩ = some (.int .i64 p) := Blk.cell DO.out 0
            have x1 : w9.cell? ⟨g88, 1, none⟩ = some (.slice B5 (n + 1) c5) := Blk.cell DO.out 1
            by_cases hz : cq = 0
            · subst hz
              go_wp2
              refine bodyPost_ret (v := .tuple #[.agg #[.int .i64 p, .slice B5 (n + 1) c5], .int .i64 0]) (by simp [results, Try.results95, go_sem, v0, v1]) rfl ?_
              refine ⟨B5, n + 1, c5, by rw [sysR_yes], fun _ => ?_, (DE.out.setCell (p := ⟨w.heap.size + 1 + 1, 0, none⟩) (by simp; omega) _).setCell (p := ⟨w.heap.size + 1 + 1, 1, none⟩) (by simp; omega) _⟩
              exact owns_base (ownsRow_setCell_below (ownsRow_setCell_below DW.out (a := ⟨w.heap.size + 1 + 1, 0, none⟩) (by simp) _) (a := ⟨w.heap.size + 1 + 1, 1, none⟩) (by simp) _) (by omega)
            · have hq : (cq != 0) = true := by simpa using hz
              have HQ := Lib.hid hz; clear hz
              go_wp2
              refine bodyPost_ret (v := .tuple #[.agg #[.int .i64 0, .slice none 0 0], .int .i64 cq]) (by simp [results, Try.results95, go_sem, v0, v1]) rfl ?_
              exact ⟨none, 0, 0, by rw [sysR_no HQ.out], fun h => absurd h HQ.out, (DE.out.setCell (p := ⟨w.heap.size + 1 + 1, 0, none⟩) (by simp; omega) _).setCell (p := ⟨w.heap.size + 1 + 1, 1, none⟩) (by simp; omega) _⟩
          exact AllReadyH.nil
        exact AllReadyH.nil
      exact AllReadyH.nil
    exact AllReadyH.nil
  refine AllReadyH.cons (o := { dst := some 21, op := Go.Op.buildSlice 22 1 #[(0, Go.Operand.tmp 20)], type := 22, pos := "ref.go:77", after := #[{ on := 5, ground := Go.Ground.data }], guard := none }) rfl (fun K hK => ?_) ?_
  · -- 6: buildSlice
    go_simp
    have b0_138 := Lib.hid (Blk.alloc (K0.out) (.cells #[.int .i64 f, .int .i64 t, .int .i64 m, .int .i64 i] 54))
    have b1_139 := Lib.hid (Blk.alloc (K1.out) (.cells #[.int .i64 f, .int .i64 t, .int .i64 m, .int .i64 i] 54))
    have b2_140 := Lib.hid (Blk.alloc (K2.out) (.cells #[.int .i64 f, .int .i64 t, .int .i64 m, .int .i64 i] 54))
    have bel_141 := Lib.hid (Below.alloc (KE.out) ((KE.out).size) (.cells #[.int .i64 f, .int .i64 t, .int .i64 m, .int .i64 i] 54))
    have rd_142 := Lib.hid (RdB.alloc (KR.out) (.cells #[.int .i64 f, .int .i64 t, .int .i64 m, .int .i64 i] 54))
    have ne143 := Lib.hid (Nat.ne_of_lt (Blk.lt K0.out))
    have ne144 := Lib.hid (Nat.ne_of_lt (Blk.lt K1.out))
    have ne145 := Lib.hid (Nat.ne_of_lt (Blk.lt K2.out))
    have lb146 := Lib.hid (KE.out.size)
    have nb_147 := Lib.hid (Blk.new (w1) 54 #[.int .i64 f, .int .i64 t, .int .i64 m, .int .i64 i])
    obtain ⟨g134, hg135⟩ : ∃ g, g = (w1).heap.size := ⟨_, rfl⟩
    obtain ⟨w136, hw137⟩ : ∃ w', w' = (w1).alloc (.cells #[.int .i64 f, .int .i64 t, .int .i64 m, .int .i64 i] 54) := ⟨_, rfl⟩
    rw [← hw137] at b0_138 b1_139 b2_140 bel_141 rd_142 nb_147
    rw [← hg135] at ne143 ne144 ne145 lb146 nb_147
    rw [← hg135, ← hw137]
    clear hg135 hw137
    refine hK.out _ _ ⟨b0_138.out, b1_139.out⟩ (fun _ => ?_); clear hK K
    try simp only [Act.put, List.setIfInBounds_toArray, List.set_cons_zero, List.set_cons_succ]
    refine wpAnyH_ready (rs := [4, 9]) (by kernel_rfl) (by simp) ?_
    refine AllReadyH.cons (o := { dst := some 19, op := Go.Op.call { callee := Go.Callee.value (Go.Operand.func 63), args := #[Go.Operand.tmp 18], argTypes := #[22] }, type := 22, pos := "ref.go:77", after := #[{ on := 3, ground := Go.Ground.data }], guard := none }) rfl (fun K hK => ?_) ?_
    · -- 4: call
      go_simp
      go_at_call 63
      refine (copied_any A n c l _ rd_142.out (by omega)).mono ?_
      rintro e w148 ⟨Bc, dc, rfl, ho, hb149⟩
      dsimp only
      have NEN := Lib.hid (fun (y : Nat) (e : (Value.slice Bc n dc).ownBlock = some y) => show y ≠ g134 from by have h1 := (World.ownsRow.lt ho _ e).1; have h2 := Blk.lt nb_147.out; omega)
      have HOC := Lib.hid (owns_base ho (Nat.succ_le_of_lt (Blk.lt b2_140.out))); clear ho
      have b0_150 := Lib.hid (Blk.keep (b0_138.out) hb149)
      have b1_151 := Lib.hid (Blk.keep (b1_139.out) hb149)
      have b2_152 := Lib.hid (Blk.keep (b2_140.out) hb149)
      have bel_153 := Lib.hid (Below.trans (bel_141.out) (Below.mono hb149 ((bel_141.out).size)))
      have rd_154 := Lib.hid (RdB.below (rd_142.out) hb149)
      have nb_155 := Lib.hid (Blk.keep (nb_147.out) hb149)
      refine hK.out _ _ ⟨b0_150.out, b1_151.out⟩ (fun _ => ?_); clear hK K
      try simp only [Act.put, List.setIfInBounds_toArray, List.set_cons_zero, List.set_cons_succ]
      refine wpAnyH_ready (rs := [7, 9]) (by kernel_rfl) (by simp) ?_
      refine AllReadyH.cons (o := { dst := some 22, op := Go.Op.call { callee := Go.Callee.builtin Go.Builtin.append, args := #[Go.Operand.tmp 19, Go.Operand.tmp 21], argTypes := #[22, 22] }, type := 22, pos := "ref.go:77", after := #[{ on := 4, ground := Go.Ground.data }, { on := 6, ground := Go.Ground.data }, { on := 4, ground := Go.Ground.chain }], guard := none }) rfl (fun K hK => ?_) ?_
      · -- 7: call
        have hcell := cells_add (cs := bcells [⟨f, t, m, i⟩]) (show Blk _ _ _ (bcells [⟨f, t, m, i⟩]).toArray from nb_155.out)
        have hsz := Nat.succ_le_of_lt (Blk.lt b2_152.out)
        have hlr := World.ownsRow.lt HOC.out
        refine wp_append_own2 _ (.tmp 19) (.tmp 21) 22 rfl (w.heap.size + 1 + 1 + 1) 54 i0 _ 4 32 Try.underlying22 HI.out HZ0.out HZ1.out HZ2.out rfl (by omega) (.slice Bc n dc) n (bcells l) rfl HOC.out ⟨g134, 0, none⟩ 1 1 (bcells [⟨f, t, m, i⟩]) rfl rfl hcell (bcells_one _) (by unfold maxLen; omega) (by omega) hsz (by omega) ?_
        intro v5 w5 hown5 hg5 hwh5
        obtain ⟨B5, c5, rfl, -⟩ := own_form hown5
        have k156 := Lib.hid (blk_grown b0_150.out hg5 (fun e => by have := (hlr _ e).1; omega))
        have k157 := Lib.hid (blk_grown b1_151.out hg5 (fun e => by have := (hlr _ e).1; omega))
        have k158 := Lib.hid (blk_grown b2_152.out hg5 (fun e => by have := (hlr _ e).1; omega))
        have k159 := Lib.hid (Below.grown bel_153.out hg5 (Below.size bel_153.out) (fun q e => by have := (hlr q e).1; omega))
        have HO5 := Lib.hid (show World.ownsRow w5 (w.heap.size + 1 + 1 + 1) 54 4 (.slice B5 (n + 1) c5) (n + 1) (bcells (l ++ [⟨f, t, m, i⟩])) from by rw [bcells_append]; exact hown5)
        clear hown5 hg5 hwh5 hcell hsz hlr
        refine hK.out _ _ ⟨k156.out, k157.out⟩ (fun _ => ?_); clear hK K
        try simp only [Act.put, List.setIfInBounds_toArray, List.set_cons_zero, List.set_cons_succ]
        refine' wpAnyH_take (i := 8) (oi := { dst := some 23, op := Go.Op.build 24 #[(0, Go.Operand.tmp 16), (1, Go.Operand.tmp 22)], type := 24, pos := "ref.go:77", after := #[{ on := 1, ground := Go.Ground.data }, { on := 7, ground := Go.Ground.data }], guard := none }) (v := _) rfl (by kernel_rfl) (by kernel_rfl) (by kernel_rfl) (fun _ _ _ h => h) (Or.inl ⟨by rfl, ?hyR160⟩) ⟨k156.out, k157.out⟩ ?reR160
        case hyR160 => (rintro W' ⟨hS0, hS1⟩; clear hS0 hS1; go_simp; try with_reducible rfl)
        try simp only [Act.put, List.setIfInBounds_toArray, List.set_cons_zero, List.set_cons_succ]
        refine wpAnyH_ready (rs := [9]) (by kernel_rfl) (by simp) ?_
        refine AllReadyH.cons (o := { dst := some 7, op := Go.Op.alloc 24, type := 0, pos := "ref.go:77", after := #[], guard := none }) rfl (fun K hK => ?_) ?_
        · -- 9: alloc
          go_simp
          have NLO := Lib.hid (fun (y : Nat) (e : (Value.slice B5 (n + 1) c5).ownBlock = some y) => show y < (w5).heap.size from (World.ownsRow.lt HO5.out y e).2)
          have b0_165 := Lib.hid (Blk.alloc (k156.out) (.cells #[.int .i64 0, .slice none 0 0] 24))
          have b1_166 := Lib.hid (Blk.alloc (k157.out) (.cells #[.int .i64 0, .slice none 0 0] 24))
          have b2_167 := Lib.hid (Blk.alloc (k158.out) (.cells #[.int .i64 0, .slice none 0 0] 24))
          have bel_168 := Lib.hid (Below.alloc (k159.out) ((k159.out).size) (.cells #[.int .i64 0, .slice none 0 0] 24))
          have cp_169 := Lib.hid (World.ownsRow.alloc (HO5.out) (.cells #[.int .i64 0, .slice none 0 0] 24))
          have ne170 := Lib.hid (Nat.ne_of_lt (Blk.lt k156.out))
          have ne171 := Lib.hid (Nat.ne_of_lt (Blk.lt k157.out))
          have ne172 := Lib.hid (Nat.ne_of_lt (Blk.lt k158.out))
          have lb173 := Lib.hid (k159.out.size)
          have bo_174 := Lib.hid (Blk.new (w5) 24 #[.int .i64 0, .slice none 0 0])
          obtain ⟨g161, hg162⟩ : ∃ g, g = (w5).heap.size := ⟨_, rfl⟩
          obtain ⟨w163, hw164⟩ : ∃ w', w' = (w5).alloc (.cells #[.int .i64 0, .slice none 0 0] 24) := ⟨_, rfl⟩
          rw [← hw164] at b0_165 b1_166 b2_167 bel_168 cp_169 bo_174
          rw [← hg162] at ne170 ne171 ne172 lb173 bo_174 NLO
          rw [← hg162, ← hw164]
          clear hg162 hw164
          have NEO := Lib.hid (fun (y : Nat) (e : (Value.slice B5 (n + 1) c5).ownBlock = some y) => show y ≠ g161 from Nat.ne_of_lt (NLO.out y e))
          clear NLO
          refine hK.out _ _ ⟨b0_165.out, b1_166.out⟩ (fun _ => ?_); clear hK K
          try simp only [Act.put, List.setIfInBounds_toArray, List.set_cons_zero, List.set_cons_succ]
          refine wpAnyH_ready (rs := [10]) (by kernel_rfl) (by simp) ?_
          refine AllReadyH.cons (o := { dst := none, op := Go.Op.store 24 (Go.Operand.tmp 7) (Go.Operand.tmp 23), type := 0, pos := "ref.go:77", after := #[{ on := 9, ground := Go.Ground.data }, { on := 8, ground := Go.Ground.data }, { on := 7, ground := Go.Ground.chain }, { on := 0, ground := Go.Ground.phase }, { on := 1, ground := Go.Ground.phase }, { on := 2, ground := Go.Ground.phase }, { on := 3, ground := Go.Ground.phase }, { on := 4, ground := Go.Ground.phase }, { on := 5, ground := Go.Ground.phase }, { on := 6, ground := Go.Ground.phase }, { on := 7, ground := Go.Ground.phase }, { on := 8, ground := Go.Ground.phase }, { on := 9, ground := Go.Ground.phase }], guard := none }) rfl (fun K hK => ?_) ?_
          · -- 10: store
            have v0 : w163.cell? ⟨g161, 0, none⟩ = some (.int .i64 0) := Blk.cell bo_174.out 0
            have v1 : w163.cell? ⟨g161, 1, none⟩ = some (.slice none 0 0) := Blk.cell bo_174.out 1
            have f0 : w163.frozen? ⟨g161, 0, none⟩ = false := Blk.frozen bo_174.out 0
            have f1 : w163.frozen? ⟨g161, 1, none⟩ = false := Blk.frozen bo_174.out 1
            have g0 := ne170.out; have g1 := ne171.out; have g2 := ne172.out; have g3 := lb173.out
            go_simp
            have k175 := Lib.hid (Blk.far (Blk.far (b0_165.out) (p := ⟨g161, 0, none⟩) (by simp; omega) (.int .i64 p)) (p := ⟨g161, 1, none⟩) (by simp; omega) (.slice B5 (n + 1) c5))
            have k176 := Lib.hid (Blk.far (Blk.far (b1_166.out) (p := ⟨g161, 0, none⟩) (by simp; omega) (.int .i64 p)) (p := ⟨g161, 1, none⟩) (by simp; omega) (.slice B5 (n + 1) c5))
            have k177 := Lib.hid (Blk.far (Blk.far (b2_167.out) (p := ⟨g161, 0, none⟩) (by simp; omega) (.int .i64 p)) (p := ⟨g161, 1, none⟩) (by simp; omega) (.slice B5 (n + 1) c5))
            have k178 := Lib.hid (Blk.set_ (Blk.set_ (bo_174.out) 0 (.int .i64 p)) 1 (.slice B5 (n + 1) c5))
            have k179 := Lib.hid (Below.setCell (Below.setCell (bel_168.out) (p := ⟨g161, 0, none⟩) (by simp; omega) (.int .i64 p)) (p := ⟨g161, 1, none⟩) (by simp; omega) (.slice B5 (n + 1) c5))
            have k180 := Lib.hid (own_far (own_far (cp_169.out) (a := ⟨g161, 0, none⟩) (fun e => NEO.out _ e rfl) (.int .i64 p)) (a := ⟨g161, 1, none⟩) (fun e => NEO.out _ e rfl) (.slice B5 (n + 1) c5))
            obtain ⟨w181, hw182⟩ : ∃ w', w' = (w163.setCell ⟨g161, 0, none⟩ (.int .i64 p)).setCell ⟨g161, 1, none⟩ (.slice B5 (n + 1) c5) := ⟨_, rfl⟩
            rw [← hw182] at k175 k176 k177 k178 k179 k180
            rw [← hw182]
            clear hw182 v0 v1 f0 f1
            refine hK.out _ _ ⟨k175.out, k176.out⟩ (fun _ => ?_); clear hK K
            try simp only [Act.put, List.setIfInBounds_toArray, List.set_cons_zero, List.set_cons_succ]
            refine wpAnyH_done (by kernel_rfl) ?_ _
            have C2 := k177; have CE := k179; have BO := k178; have OW := k180
            have hlo := Blk.lt BO.out
            have x0 : w181.cell? ⟨g161, 0, none⟩ = some (.int .i64 p) := Blk.cell BO.out 0
            have x1 : w181.cell? ⟨g161, 1, none⟩ = some (.slice B5 (n + 1) c5) := Blk.cell BO.out 1
            have how : World.ownsRow w181 (w.heap.size + 1 + 1 + 1) 54 4 (.slice B5 (n + 1) c5) (n + 1) (bcells (l ++ [⟨f, t, m, i⟩])) := OW.out
            have hrd := (OwnB.rd (show OwnB w181 (w.heap.size + 1 + 1 + 1) B5 (n + 1) c5 (l ++ [⟨f, t, m, i⟩]) from how)).1
            have hc := rCheckSystem_any p B5 (n + 1) c5 (l ++ [⟨f, t, m, i⟩]) w181 hrd (by unfold maxLen; omega)
            have HC := Lib.hid hc; have HOW := Lib.hid how; clear hc how hrd
            generalize hcq : chk p (l ++ [⟨f, t, m, i⟩]) = cq at *
            go_wp2_with fail
            refine HC.out.mono ?_
            rintro e w9 ⟨rfl, hb⟩
            clear HC x0 x1
            have D2 := Lib.hid (Blk.keep C2.out hb); have DO := Lib.hid (Blk.keep BO.out hb); have DE := Lib.hid (CE.out.trans (Below.mono hb CE.out.size)); have DW := Lib.hid (owns_below HOW.out hb); clear HOW hb
            have hl2' := Blk.lt D2.out
            have v0 : w9.cell? ⟨w.heap.size + 1 + 1, 0, none⟩ = some (.int .i64 0) := Blk.cell D2.out 0
            have v1 : w9.cell? ⟨w.heap.size + 1 + 1, 1, none⟩ = some (.slice none 0 0) := Blk.cell D2.out 1
            have f0 : w9.frozen? ⟨w.heap.size + 1 + 1, 0, none⟩ = false := Blk.frozen D2.out 0
            have f1 : w9.frozen? ⟨w.heap.size + 1 + 1, 1, none⟩ = false := Blk.frozen D2.out 1
            have x0 : w9.cell? ⟨g161, 0, none⟩ = some (.int .i64 p) := Blk.cell DO.out 0
            have x1 : w9.cell? ⟨g161, 1, none⟩ = some (.slice B5 (n + 1) c5) := Blk.cell DO.out 1
            by_cases hz : cq = 0
            · subst hz
              go_wp2
              refine bodyPost_ret (v := .tuple #[.agg #[.int .i64 p, .slice B5 (n + 1) c5], .int .i64 0]) (by simp [results, Try.results95, go_sem, v0, v1]) rfl ?_
              refine ⟨B5, n + 1, c5, by rw [sysR_yes], fun _ => ?_, (DE.out.setCell (p := ⟨w.heap.size + 1 + 1, 0, none⟩) (by simp; omega) _).setCell (p := ⟨w.heap.size + 1 + 1, 1, none⟩) (by simp; omega) _⟩
              exact owns_base (ownsRow_setCell_below (ownsRow_setCell_below DW.out (a := ⟨w.heap.size + 1 + 1, 0, none⟩) (by simp) _) (a := ⟨w.heap.size + 1 + 1, 1, none⟩) (by simp) _) (by omega)
            · have hq : (cq != 0) = true := by simpa using hz
              have HQ := Lib.hid hz; clear hz
              go_wp2
              refine bodyPost_ret (v := .tuple #[.agg #[.int .i64 0, .slice none 0 0], .int .i64 cq]) (by simp [results, Try.results95, go_sem, v0, v1]) rfl ?_
              exact ⟨none, 0, 0, by rw [sysR_no HQ.out], fun h => absurd h HQ.out, (DE.out.setCell (p := ⟨w.heap.size + 1 + 1, 0, none⟩) (by simp; omega) _).setCell (p := ⟨w.heap.size + 1 + 1, 1, none⟩) (by simp; omega) _⟩
          exact AllReadyH.nil
        exact AllReadyH.nil
      refine AllReadyH.cons (o := { dst := some 7, op := Go.Op.alloc 24, type := 0, pos := "ref.go:77", after := #[], guard := none }) rfl (fun K hK => ?_) ?_
      · -- 9: alloc
        go_simp
        have NLO := Lib.hid (fun (y : Nat) (e : (Value.slice Bc n dc).ownBlock = some y) => show y < (w148).heap.size from (World.ownsRow.lt HOC.out y e).2)
        have b0_187 := Lib.hid (Blk.alloc (b0_150.out) (.cells #[.int .i64 0, .slice none 0 0] 24))
        have b1_188 := Lib.hid (Blk.alloc (b1_151.out) (.cells #[.int .i64 0, .slice none 0 0] 24))
        have b2_189 := Lib.hid (Blk.alloc (b2_152.out) (.cells #[.int .i64 0, .slice none 0 0] 24))
        have bel_190 := Lib.hid (Below.alloc (bel_153.out) ((bel_153.out).size) (.cells #[.int .i64 0, .slice none 0 0] 24))
        have rd_191 := Lib.hid (RdB.alloc (rd_154.out) (.cells #[.int .i64 0, .slice none 0 0] 24))
        have nb_192 := Lib.hid (Blk.alloc (nb_155.out) (.cells #[.int .i64 0, .slice none 0 0] 24))
        have cp_193 := Lib.hid (World.ownsRow.alloc (HOC.out) (.cells #[.int .i64 0, .slice none 0 0] 24))
        have ne194 := Lib.hid (Nat.ne_of_lt (Blk.lt b0_150.out))
        have ne195 := Lib.hid (Nat.ne_of_lt (Blk.lt b1_151.out))
        have ne196 := Lib.hid (Nat.ne_of_lt (Blk.lt b2_152.out))
        have lb197 := Lib.hid (bel_153.out.size)
        have ne198 := Lib.hid (Nat.ne_of_lt (Blk.lt nb_155.out))
        have bo_199 := Lib.hid (Blk.new (w148) 24 #[.int .i64 0, .slice none 0 0])
        obtain ⟨g183, hg184⟩ : ∃ g, g = (w148).heap.size := ⟨_, rfl⟩
        obtain ⟨w185, hw186⟩ : ∃ w', w' = (w148).alloc (.cells #[.int .i64 0, .slice none 0 0] 24) := ⟨_, rfl⟩
        rw [← hw186] at b0_187 b1_188 b2_189 bel_190 rd_191 nb_192 cp_193 bo_199
        rw [← hg184] at ne194 ne195 ne196 lb197 ne198 bo_199 NLO
        rw [← hg184, ← hw186]
        clear hg184 hw186
        have NEO := Lib.hid (fun (y : Nat) (e : (Value.slice Bc n dc).ownBlock = some y) => show y ≠ g183 from Nat.ne_of_lt (NLO.out y e))
        clear NLO
        refine hK.out _ _ ⟨b0_187.out, b1_188.out⟩ (fun _ => ?_); clear hK K
        try simp only [Act.put, List.setIfInBounds_toArray, List.set_cons_zero, List.set_cons_succ]
        refine wpAnyH_ready (rs := [7]) (by kernel_rfl) (by simp) ?_
        refine AllReadyH.cons (o := { dst := some 22, op := Go.Op.call { callee := Go.Callee.builtin Go.Builtin.append, args := #[Go.Operand.tmp 19, Go.Operand.tmp 21], argTypes := #[22, 22] }, type := 22, pos := "ref.go:77", after := #[{ on := 4, ground := Go.Ground.data }, { on := 6, ground := Go.Ground.data }, { on := 4, ground := Go.Ground.chain }], guard := none }) rfl (fun K hK => ?_) ?_
        · -- 7: call
          have hcell := cells_add (cs := bcells [⟨f, t, m, i⟩]) (show Blk _ _ _ (bcells [⟨f, t, m, i⟩]).toArray from nb_192.out)
          have hsz := Nat.succ_le_of_lt (Blk.lt b2_189.out)
          have hlr := World.ownsRow.lt cp_193.out
          refine wp_append_own2 _ (.tmp 19) (.tmp 21) 22 rfl (w.heap.size + 1 + 1 + 1) 54 i0 _ 4 32 Try.underlying22 HI.out HZ0.out HZ1.out HZ2.out rfl (by omega) (.slice Bc n dc) n (bcells l) rfl cp_193.out ⟨g134, 0, none⟩ 1 1 (bcells [⟨f, t, m, i⟩]) rfl rfl hcell (bcells_one _) (by unfold maxLen; omega) (by omega) hsz (by omega) ?_
          intro v5 w5 hown5 hg5 hwh5
          obtain ⟨B5, c5, rfl, -⟩ := own_form hown5
          have NE8 := Lib.hid (fun (y : Nat) (e : (Value.slice B5 (n + 1) c5).ownBlock = some y) => show y ≠ g183 from by (intro e2; rcases hwh5 with h | h; exact NEO.out _ (h.symm.trans e) e2; exact absurd (Blk.lt bo_199.out) (by have h2 := Option.some.inj (h.symm.trans e); omega)))
          have k200 := Lib.hid (blk_grown b0_187.out hg5 (fun e => by have := (hlr _ e).1; omega))
          have k201 := Lib.hid (blk_grown b1_188.out hg5 (fun e => by have := (hlr _ e).1; omega))
          have k202 := Lib.hid (blk_grown b2_189.out hg5 (fun e => by have := (hlr _ e).1; omega))
          have k203 := Lib.hid (blk_grown bo_199.out hg5 (fun e => NEO.out _ e rfl))
          have NEO := NE8
          have k204 := Lib.hid (Below.grown bel_190.out hg5 (Below.size bel_190.out) (fun q e => by have := (hlr q e).1; omega))
          have HO5 := Lib.hid (show World.ownsRow w5 (w.heap.size + 1 + 1 + 1) 54 4 (.slice B5 (n + 1) c5) (n + 1) (bcells (l ++ [⟨f, t, m, i⟩])) from by rw [bcells_append]; exact hown5)
          clear hown5 hg5 hwh5 hcell hsz hlr
          refine hK.out _ _ ⟨k200.out, k201.out⟩ (fun _ => ?_); clear hK K
          try simp only [Act.put, List.setIfInBounds_toArray, List.set_cons_zero, List.set_cons_succ]
          refine' wpAnyH_take (i := 8) (oi := { dst := some 23, op := Go.Op.build 24 #[(0, Go.Operand.tmp 16), (1, Go.Operand.tmp 22)], type := 24, pos := "ref.go:77", after := #[{ on := 1, ground := Go.Ground.data }, { on := 7, ground := Go.Ground.data }], guard := none }) (v := _) rfl (by kernel_rfl) (by kernel_rfl) (by kernel_rfl) (fun _ _ _ h => h) (Or.inl ⟨by rfl, ?hyR205⟩) ⟨k200.out, k201.out⟩ ?reR205
          case hyR205 => (rintro W' ⟨hS0, hS1⟩; clear hS0 hS1; go_simp; try with_reducible rfl)
          try simp only [Act.put, List.setIfInBounds_toArray, List.set_cons_zero, List.set_cons_succ]
          refine wpAnyH_ready (rs := [10]) (by kernel_rfl) (by simp) ?_
          refine AllReadyH.cons (o := { dst := none, op := Go.Op.store 24 (Go.Operand.tmp 7) (Go.Operand.tmp 23), type := 0, pos := "ref.go:77", after := #[{ on := 9, ground := Go.Ground.data }, { on := 8, ground := Go.Ground.data }, { on := 7, ground := Go.Ground.chain }, { on := 0, ground := Go.Ground.phase }, { on := 1, ground := Go.Ground.phase }, { on := 2, ground := Go.Ground.phase }, { on := 3, ground := Go.Ground.phase }, { on := 4, ground := Go.Ground.phase }, { on := 5, ground := Go.Ground.phase }, { on := 6, ground := Go.Ground.phase }, { on := 7, ground := Go.Ground.phase }, { on := 8, ground := Go.Ground.phase }, { on := 9, ground := Go.Ground.phase }], guard := none }) rfl (fun K hK => ?_) ?_
          · -- 10: store
            have v0 : w5.cell? ⟨g183, 0, none⟩ = some (.int .i64 0) := Blk.cell k203.out 0
            have v1 : w5.cell? ⟨g183, 1, none⟩ = some (.slice none 0 0) := Blk.cell k203.out 1
            have f0 : w5.frozen? ⟨g183, 0, none⟩ = false := Blk.frozen k203.out 0
            have f1 : w5.frozen? ⟨g183, 1, none⟩ = false := Blk.frozen k203.out 1
            have g0 := ne194.out; have g1 := ne195.out; have g2 := ne196.out; have g3 := lb197.out
            go_simp
            have k206 := Lib.hid (Blk.far (Blk.far (k200.out) (p := ⟨g183, 0, none⟩) (by simp; omega) (.int .i64 p)) (p := ⟨g183, 1, none⟩) (by simp; omega) (.slice B5 (n + 1) c5))
            have k207 := Lib.hid (Blk.far (Blk.far (k201.out) (p := ⟨g183, 0, none⟩) (by simp; omega) (.int .i64 p)) (p := ⟨g183, 1, none⟩) (by simp; omega) (.slice B5 (n + 1) c5))
            have k208 := Lib.hid (Blk.far (Blk.far (k202.out) (p := ⟨g183, 0, none⟩) (by simp; omega) (.int .i64 p)) (p := ⟨g183, 1, none⟩) (by simp; omega) (.slice B5 (n + 1) c5))
            have k209 := Lib.hid (Blk.set_ (Blk.set_ (k203.out) 0 (.int .i64 p)) 1 (.slice B5 (n + 1) c5))
            have k210 := Lib.hid (Below.setCell (Below.setCell (k204.out) (p := ⟨g183, 0, none⟩) (by simp; omega) (.int .i64 p)) (p := ⟨g183, 1, none⟩) (by simp; omega) (.slice B5 (n + 1) c5))
            have k211 := Lib.hid (own_far (own_far (HO5.out) (a := ⟨g183, 0, none⟩) (fun e => NEO.out _ e rfl) (.int .i64 p)) (a := ⟨g183, 1, none⟩) (fun e => NEO.out _ e rfl) (.slice B5 (n + 1) c5))
            obtain ⟨w212, hw213⟩ : ∃ w', w' = (w5.setCell ⟨g183, 0, none⟩ (.int .i64 p)).setCell ⟨g183, 1, none⟩ (.slice B5 (n + 1) c5) := ⟨_, rfl⟩
            rw [← hw213] at k206 k207 k208 k209 k210 k211
            rw [← hw213]
            clear hw213 v0 v1 f0 f1
            refine hK.out _ _ ⟨k206.out, k207.out⟩ (fun _ => ?_); clear hK K
            try simp only [Act.put, List.setIfInBounds_toArray, List.set_cons_zero, List.set_cons_succ]
            refine wpAnyH_done (by kernel_rfl) ?_ _
            have C2 := k208; have CE := k210; have BO := k209; have OW := k211
            have hlo := Blk.lt BO.out
            have x0 : w212.cell? ⟨g183, 0, none⟩ = some (.int .i64 p) := Blk.cell BO.out 0
            have x1 : w212.cell? ⟨g183, 1, none⟩ = some (.slice B5 (n + 1) c5) := Blk.cell BO.out 1
            have how : World.ownsRow w212 (w.heap.size + 1 + 1 + 1) 54 4 (.slice B5 (n + 1) c5) (n + 1) (bcells (l ++ [⟨f, t, m, i⟩])) := OW.out
            have hrd := (OwnB.rd (show OwnB w212 (w.heap.size + 1 + 1 + 1) B5 (n + 1) c5 (l ++ [⟨f, t, m, i⟩]) from how)).1
            have hc := rCheckSystem_any p B5 (n + 1) c5 (l ++ [⟨f, t, m, i⟩]) w212 hrd (by unfold maxLen; omega)
            have HC := Lib.hid hc; have HOW := Lib.hid how; clear hc how hrd
            generalize hcq : chk p (l ++ [⟨f, t, m, i⟩]) = cq at *
            go_wp2_with fail
            refine HC.out.mono ?_
            rintro e w9 ⟨rfl, hb⟩
            clear HC x0 x1
            have D2 := Lib.hid (Blk.keep C2.out hb); have DO := Lib.hid (Blk.keep BO.out hb); have DE := Lib.hid (CE.out.trans (Below.mono hb CE.out.size)); have DW := Lib.hid (owns_below HOW.out hb); clear HOW hb
            have hl2' := Blk.lt D2.out
            have v0 : w9.cell? ⟨w.heap.size + 1 + 1, 0, none⟩ = some (.int .i64 0) := Blk.cell D2.out 0
            have v1 : w9.cell? ⟨w.heap.size + 1 + 1, 1, none⟩ = some (.slice none 0 0) := Blk.cell D2.out 1
            have f0 : w9.frozen? ⟨w.heap.size + 1 + 1, 0, none⟩ = false := Blk.frozen D2.out 0
            have f1 : w9.frozen? ⟨w.heap.size + 1 + 1, 1, none⟩ = false := Blk.frozen D2.out 1
            have x0 : w9.cell? ⟨g183, 0, none⟩ = some (.int .i64 p) := Blk.cell DO.out 0
            have x1 : w9.cell? ⟨g183, 1, none⟩ = some (.slice B5 (n + 1) c5) := Blk.cell DO.out 1
            by_cases hz : cq = 0
            · subst hz
              go_wp2
              refine bodyPost_ret (v := .tuple #[.agg #[.int .i64 p, .slice B5 (n + 1) c5], .int .i64 0]) (by simp [results, Try.results95, go_sem, v0, v1]) rfl ?_
              refine ⟨B5, n + 1, c5, by rw [sysR_yes], fun _ => ?_, (DE.out.setCell (p := ⟨w.heap.size + 1 + 1, 0, none⟩) (by simp; omega) _).setCell (p := ⟨w.heap.size + 1 + 1, 1, none⟩) (by simp; omega) _⟩
              exact owns_base (ownsRow_setCell_below (ownsRow_setCell_below DW.out (a := ⟨w.heap.size + 1 + 1, 0, none⟩) (by simp) _) (a := ⟨w.heap.size + 1 + 1, 1, none⟩) (by simp) _) (by omega)
            · have hq : (cq != 0) = true := by simpa using hz
              have HQ := Lib.hid hz; clear hz
              go_wp2
              refine bodyPost_ret (v := .tuple #[.agg #[.int .i64 0, .slice none 0 0], .int .i64 cq]) (by simp [results, Try.results95, go_sem, v0, v1]) rfl ?_
              exact ⟨none, 0, 0, by rw [sysR_no HQ.out], fun h => absurd h HQ.out, (DE.out.setCell (p := ⟨w.heap.size + 1 + 1, 0, none⟩) (by simp; omega) _).setCell (p := ⟨w.heap.size + 1 + 1, 1, none⟩) (by simp; omega) _⟩
          exact AllReadyH.nil
        exact AllReadyH.nil
      exact AllReadyH.nil
    refine AllReadyH.cons (o := { dst := some 7, op := Go.Op.alloc 24, type := 0, pos := "ref.go:77", after := #[], guard := none }) rfl (fun K hK => ?_) ?_
    · -- 9: alloc
      go_simp
      have b0_218 := Lib.hid (Blk.alloc (b0_138.out) (.cells #[.int .i64 0, .slice none 0 0] 24))
      have b1_219 := Lib.hid (Blk.alloc (b1_139.out) (.cells #[.int .i64 0, .slice none 0 0] 24))
      have b2_220 := Lib.hid (Blk.alloc (b2_140.out) (.cells #[.int .i64 0, .slice none 0 0] 24))
      have bel_221 := Lib.hid (Below.alloc (bel_141.out) ((bel_141.out).size) (.cells #[.int .i64 0, .slice none 0 0] 24))
      have rd_222 := Lib.hid (RdB.alloc (rd_142.out) (.cells #[.int .i64 0, .slice none 0 0] 24))
      have nb_223 := Lib.hid (Blk.alloc (nb_147.out) (.cells #[.int .i64 0, .slice none 0 0] 24))
      have ne224 := Lib.hid (Nat.ne_of_lt (Blk.lt b0_138.out))
      have ne225 := Lib.hid (Nat.ne_of_lt (Blk.lt b1_139.out))
      have ne226 := Lib.hid (Nat.ne_of_lt (Blk.lt b2_140.out))
      have lb227 := Lib.hid (bel_141.out.size)
      have ne228 := Lib.hid (Nat.ne_of_lt (Blk.lt nb_147.out))
      have bo_229 := Lib.hid (Blk.new (w136) 24 #[.int .i64 0, .slice none 0 0])
      obtain ⟨g214, hg215⟩ : ∃ g, g = (w136).heap.size := ⟨_, rfl⟩
      obtain ⟨w216, hw217⟩ : ∃ w', w' = (w136).alloc (.cells #[.int .i64 0, .slice none 0 0] 24) := ⟨_, rfl⟩
      rw [← hw217] at b0_218 b1_219 b2_220 bel_221 rd_222 nb_223 bo_229
      rw [← hg215] at ne224 ne225 ne226 lb227 ne228 bo_229
      rw [← hg215, ← hw217]
      clear hg215 hw217
      refine hK.out _ _ ⟨b0_218.out, b1_219.out⟩ (fun _ => ?_); clear hK K
      try simp only [Act.put, List.setIfInBounds_toArray, List.set_cons_zero, List.set_cons_succ]
      refine wpAnyH_ready (rs := [4]) (by kernel_rfl) (by simp) ?_
      refine AllReadyH.cons (o := { dst := some 19, op := Go.Op.call { callee := Go.Callee.value (Go.Operand.func 63), args := #[Go.Operand.tmp 18], argTypes := #[22] }, type := 22, pos := "ref.go:77", after := #[{ on := 3, ground := Go.Ground.data }], guard := none }) rfl (fun K hK => ?_) ?_
      · -- 4: call
        go_simp
        go_at_call 63
        refine (copied_any A n c l _ rd_222.out (by omega)).mono ?_
        rintro e w230 ⟨Bc, dc, rfl, ho, hb231⟩
        dsimp only
        have NEO := Lib.hid (fun (y : Nat) (e : (Value.slice Bc n dc).ownBlock = some y) => show y ≠ g214 from (by have h1 := (World.ownsRow.lt ho _ e).1; have h2 := Blk.lt bo_229.out; omega))
        have NEN := Lib.hid (fun (y : Nat) (e : (Value.slice Bc n dc).ownBlock = some y) => show y ≠ g134 from by have h1 := (World.ownsRow.lt ho _ e).1; have h2 := Blk.lt nb_223.out; omega)
        have HOC := Lib.hid (owns_base ho (Nat.succ_le_of_lt (Blk.lt b2_220.out))); clear ho
        have b0_232 := Lib.hid (Blk.keep (b0_218.out) hb231)
        have b1_233 := Lib.hid (Blk.keep (b1_219.out) hb231)
        have b2_234 := Lib.hid (Blk.keep (b2_220.out) hb231)
        have bel_235 := Lib.hid (Below.trans (bel_221.out) (Below.mono hb231 ((bel_221.out).size)))
        have rd_236 := Lib.hid (RdB.below (rd_222.out) hb231)
        have nb_237 := Lib.hid (Blk.keep (nb_223.out) hb231)
        have bo_238 := Lib.hid (Blk.keep (bo_229.out) hb231)
        refine hK.out _ _ ⟨b0_232.out, b1_233.out⟩ (fun _ => ?_); clear hK K
        try simp only [Act.put, List.setIfInBounds_toArray, List.set_cons_zero, List.set_cons_succ]
        refine wpAnyH_ready (rs := [7]) (by kernel_rfl) (by simp) ?_
        refine AllReadyH.cons (o := { dst := some 22, op := Go.Op.call { callee := Go.Callee.builtin Go.Builtin.append, args := #[Go.Operand.tmp 19, Go.Operand.tmp 21], argTypes := #[22, 22] }, type := 22, pos := "ref.go:77", after := #[{ on := 4, ground := Go.Ground.data }, { on := 6, ground := Go.Ground.data }, { on := 4, ground := Go.Ground.chain }], guard := none }) rfl (fun K hK => ?_) ?_
        · -- 7: call
          have hcell := cells_add (cs := bcells [⟨f, t, m, i⟩]) (show Blk _ _ _ (bcells [⟨f, t, m, i⟩]).toArray from nb_237.out)
          have hsz := Nat.succ_le_of_lt (Blk.lt b2_234.out)
          have hlr := World.ownsRow.lt HOC.out
          refine wp_append_own2 _ (.tmp 19) (.tmp 21) 22 rfl (w.heap.size + 1 + 1 + 1) 54 i0 _ 4 32 Try.underlying22 HI.out HZ0.out HZ1.out HZ2.out rfl (by omega) (.slice Bc n dc) n (bcells l) rfl HOC.out ⟨g134, 0, none⟩ 1 1 (bcells [⟨f, t, m, i⟩]) rfl rfl hcell (bcells_one _) (by unfold maxLen; omega) (by omega) hsz (by omega) ?_
          intro v5 w5 hown5 hg5 hwh5
          obtain ⟨B5, c5, rfl, -⟩ := own_form hown5
          have NE8 := Lib.hid (fun (y : Nat) (e : (Value.slice B5 (n + 1) c5).ownBlock = some y) => show y ≠ g214 from by (intro e2; rcases hwh5 with h | h; exact NEO.out _ (h.symm.trans e) e2; exact absurd (Blk.lt bo_238.out) (by have h2 := Option.some.inj (h.symm.trans e); omega)))
          have k239 := Lib.hid (blk_grown b0_232.out hg5 (fun e => by have := (hlr _ e).1; omega))
          have k240 := Lib.hid (blk_grown b1_233.out hg5 (fun e => by have := (hlr _ e).1; omega))
          have k241 := Lib.hid (blk_grown b2_234.out hg5 (fun e => by have := (hlr _ e).1; omega))
          have k242 := Lib.hid (blk_grown bo_238.out hg5 (fun e => NEO.out _ e rfl))
          have NEO := NE8
          have k243 := Lib.hid (Below.grown bel_235.out hg5 (Below.size bel_235.out) (fun q e => by have := (hlr q e).1; omega))
          have HO5 := Lib.hid (show World.ownsRow w5 (w.heap.size + 1 + 1 + 1) 54 4 (.slice B5 (n + 1) c5) (n + 1) (bcells (l ++ [⟨f, t, m, i⟩])) from by rw [bcells_append]; exact hown5)
          clear hown5 hg5 hwh5 hcell hsz hlr
          refine hK.out _ _ ⟨k239.out, k240.out⟩ (fun _ => ?_); clear hK K
          try simp only [Act.put, List.setIfInBounds_toArray, List.set_cons_zero, List.set_cons_succ]
          refine' wpAnyH_take (i := 8) (oi := { dst := some 23, op := Go.Op.build 24 #[(0, Go.Operand.tmp 16), (1, Go.Operand.tmp 22)], type := 24, pos := "ref.go:77", after := #[{ on := 1, ground := Go.Ground.data }, { on := 7, ground := Go.Ground.data }], guard := none }) (v := _) rfl (by kernel_rfl) (by kernel_rfl) (by kernel_rfl) (fun _ _ _ h => h) (Or.inl ⟨by rfl, ?hyR244⟩) ⟨k239.out, k240.out⟩ ?reR244
          case hyR244 => (rintro W' ⟨hS0, hS1⟩; clear hS0 hS1; go_simp; try with_reducible rfl)
          try simp only [Act.put, List.setIfInBounds_toArray, List.set_cons_zero, List.set_cons_succ]
          refine wpAnyH_ready (rs := [10]) (by kernel_rfl) (by simp) ?_
          refine AllReadyH.cons (o := { dst := none, op := Go.Op.store 24 (Go.Operand.tmp 7) (Go.Operand.tmp 23), type := 0, pos := "ref.go:77", after := #[{ on := 9, ground := Go.Ground.data }, { on := 8, ground := Go.Ground.data }, { on := 7, ground := Go.Ground.chain }, { on := 0, ground := Go.Ground.phase }, { on := 1, ground := Go.Ground.phase }, { on := 2, ground := Go.Ground.phase }, { on := 3, ground := Go.Ground.phase }, { on := 4, ground := Go.Ground.phase }, { on := 5, ground := Go.Ground.phase }, { on := 6, ground := Go.Ground.phase }, { on := 7, ground := Go.Ground.phase }, { on := 8, ground := Go.Ground.phase }, { on := 9, ground := Go.Ground.phase }], guard := none }) rfl (fun K hK => ?_) ?_
          · -- 10: store
            have v0 : w5.cell? ⟨g214, 0, none⟩ = some (.int .i64 0) := Blk.cell k242.out 0
            have v1 : w5.cell? ⟨g214, 1, none⟩ = some (.slice none 0 0) := Blk.cell k242.out 1
            have f0 : w5.frozen? ⟨g214, 0, none⟩ = false := Blk.frozen k242.out 0
            have f1 : w5.frozen? ⟨g214, 1, none⟩ = false := Blk.frozen k242.out 1
            have g0 := ne224.out; have g1 := ne225.out; have g2 := ne226.out; have g3 := lb227.out
            go_simp
            have k245 := Lib.hid (Blk.far (Blk.far (k239.out) (p := ⟨g214, 0, none⟩) (by simp; omega) (.int .i64 p)) (p := ⟨g214, 1, none⟩) (by simp; omega) (.slice B5 (n + 1) c5))
            have k246 := Lib.hid (Blk.far (Blk.far (k240.out) (p := ⟨g214, 0, none⟩) (by simp; omega) (.int .i64 p)) (p := ⟨g214, 1, none⟩) (by simp; omega) (.slice B5 (n + 1) c5))
            have k247 := Lib.hid (Blk.far (Blk.far (k241.out) (p := ⟨g214, 0, none⟩) (by simp; omega) (.int .i64 p)) (p := ⟨g214, 1, none⟩) (by simp; omega) (.slice B5 (n + 1) c5))
            have k248 := Lib.hid (Blk.set_ (Blk.set_ (k242.out) 0 (.int .i64 p)) 1 (.slice B5 (n + 1) c5))
            have k249 := Lib.hid (Below.setCell (Below.setCell (k243.out) (p := ⟨g214, 0, none⟩) (by simp; omega) (.int .i64 p)) (p := ⟨g214, 1, none⟩) (by simp; omega) (.slice B5 (n + 1) c5))
            have k250 := Lib.hid (own_far (own_far (HO5.out) (a := ⟨g214, 0, none⟩) (fun e => NEO.out _ e rfl) (.int .i64 p)) (a := ⟨g214, 1, none⟩) (fun e => NEO.out _ e rfl) (.slice B5 (n + 1) c5))
            obtain ⟨w251, hw252⟩ : ∃ w', w' = (w5.setCell ⟨g214, 0, none⟩ (.int .i64 p)).setCell ⟨g214, 1, none⟩ (.slice B5 (n + 1) c5) := ⟨_, rfl⟩
            rw [← hw252] at k245 k246 k247 k248 k249 k250
            rw [← hw252]
            clear hw252 v0 v1 f0 f1
            refine hK.out _ _ ⟨k245.out, k246.out⟩ (fun _ => ?_); clear hK K
            try simp only [Act.put, List.setIfInBounds_toArray, List.set_cons_zero, List.set_cons_succ]
            refine wpAnyH_done (by kernel_rfl) ?_ _
            have C2 := k247; have CE := k249; have BO := k248; have OW := k250
            have hlo := Blk.lt BO.out
            have x0 : w251.cell? ⟨g214, 0, none⟩ = some (.int .i64 p) := Blk.cell BO.out 0
            have x1 : w251.cell? ⟨g214, 1, none⟩ = some (.slice B5 (n + 1) c5) := Blk.cell BO.out 1
            have how : World.ownsRow w251 (w.heap.size + 1 + 1 + 1) 54 4 (.slice B5 (n + 1) c5) (n + 1) (bcells (l ++ [⟨f, t, m, i⟩])) := OW.out
            have hrd := (OwnB.rd (show OwnB w251 (w.heap.size + 1 + 1 + 1) B5 (n + 1) c5 (l ++ [⟨f, t, m, i⟩]) from how)).1
            have hc := rCheckSystem_any p B5 (n + 1) c5 (l ++ [⟨f, t, m, i⟩]) w251 hrd (by unfold maxLen; omega)
            have HC := Lib.hid hc; have HOW := Lib.hid how; clear hc how hrd
            generalize hcq : chk p (l ++ [⟨f, t, m, i⟩]) = cq at *
            go_wp2_with fail
            refine HC.out.mono ?_
            rintro e w9 ⟨rfl, hb⟩
            clear HC x0 x1
            have D2 := Lib.hid (Blk.keep C2.out hb); have DO := Lib.hid (Blk.keep BO.out hb); have DE := Lib.hid (CE.out.trans (Below.mono hb CE.out.size)); have DW := Lib.hid (owns_below HOW.out hb); clear HOW hb
            have hl2' := Blk.lt D2.out
            have v0 : w9.cell? ⟨w.heap.size + 1 + 1, 0, none⟩ = some (.int .i64 0) := Blk.cell D2.out 0
            have v1 : w9.cell? ⟨w.heap.size + 1 + 1, 1, none⟩ = some (.slice none 0 0) := Blk.cell D2.out 1
            have f0 : w9.frozen? ⟨w.heap.size + 1 + 1, 0, none⟩ = false := Blk.frozen D2.out 0
            have f1 : w9.frozen? ⟨w.heap.size + 1 + 1, 1, none⟩ = false := Blk.frozen D2.out 1
            have x0 : w9.cell? ⟨g214, 0, none⟩ = some (.int .i64 p) := Blk.cell DO.out 0
            have x1 : w9.cell? ⟨g214, 1, none⟩ = some (.slice B5 (n + 1) c5) := Blk.cell DO.out 1
            by_cases hz : cq = 0
            · subst hz
              go_wp2
              refine bodyPost_ret (v := .tuple #[.agg #[.int .i64 p, .slice B5 (n + 1) c5], .int .i64 0]) (by simp [results, Try.results95, go_sem, v0, v1]) rfl ?_
              refine ⟨B5, n + 1, c5, by rw [sysR_yes], fun _ => ?_, (DE.out.setCell (p := ⟨w.heap.size + 1 + 1, 0, none⟩) (by simp; omega) _).setCell (p := ⟨w.heap.size + 1 + 1, 1, none⟩) (by simp; omega) _⟩
              exact owns_base (ownsRow_setCell_below (ownsRow_setCell_below DW.out (a := ⟨w.heap.size + 1 + 1, 0, none⟩) (by simp) _) (a := ⟨w.heap.size + 1 + 1, 1, none⟩) (by simp) _) (by omega)
            · have hq : (cq != 0) = true := by simpa using hz
              have HQ := Lib.hid hz; clear hz
              go_wp2
              refine bodyPost_ret (v := .tuple #[.agg #[.int .i64 0, .slice none 0 0], .int .i64 cq]) (by simp [results, Try.results95, go_sem, v0, v1]) rfl ?_
              exact ⟨none, 0, 0, by rw [sysR_no HQ.out], fun h => absurd h HQ.out, (DE.out.setCell (p := ⟨w.heap.size + 1 + 1, 0, none⟩) (by simp; omega) _).setCell (p := ⟨w.heap.size + 1 + 1, 1, none⟩) (by simp; omega) _⟩
          exact AllReadyH.nil
        exact AllReadyH.nil
      exact AllReadyH.nil
    exact AllReadyH.nil
  refine AllReadyH.cons (o := { dst := some 7, op := Go.Op.alloc 24, type := 0, pos := "ref.go:77", after := #[], guard := none }) rfl (fun K hK => ?_) ?_
  · -- 9: alloc
    go_simp
    have b0_257 := Lib.hid (Blk.alloc (K0.out) (.cells #[.int .i64 0, .slice none 0 0] 24))
    have b1_258 := Lib.hid (Blk.alloc (K1.out) (.cells #[.int .i64 0, .slice none 0 0] 24))
    have b2_259 := Lib.hid (Blk.alloc (K2.out) (.cells #[.int .i64 0, .slice none 0 0] 24))
    have bel_260 := Lib.hid (Below.alloc (KE.out) ((KE.out).size) (.cells #[.int .i64 0, .slice none 0 0] 24))
    have rd_261 := Lib.hid (RdB.alloc (KR.out) (.cells #[.int .i64 0, .slice none 0 0] 24))
    have ne262 := Lib.hid (Nat.ne_of_lt (Blk.lt K0.out))
    have ne263 := Lib.hid (Nat.ne_of_lt (Blk.lt K1.out))
    have ne264 := Lib.hid (Nat.ne_of_lt (Blk.lt K2.out))
    have lb265 := Lib.hid (KE.out.size)
    have bo_266 := Lib.hid (Blk.new (w1) 24 #[.int .i64 0, .slice none 0 0])
    obtain ⟨g253, hg254⟩ : ∃ g, g = (w1).heap.size := ⟨_, rfl⟩
    obtain ⟨w255, hw256⟩ : ∃ w', w' = (w1).alloc (.cells #[.int .i64 0, .slice none 0 0] 24) := ⟨_, rfl⟩
    rw [← hw256] at b0_257 b1_258 b2_259 bel_260 rd_261 bo_266
    rw [← hg254] at ne262 ne263 ne264 lb265 bo_266
    rw [← hg254, ← hw256]
    clear hg254 hw256
    refine hK.out _ _ ⟨b0_257.out, b1_258.out⟩ (fun _ => ?_); clear hK K
    try simp only [Act.put, List.setIfInBounds_toArray, List.set_cons_zero, List.set_cons_succ]
    refine wpAnyH_ready (rs := [4, 6]) (by kernel_rfl) (by simp) ?_
    refine AllReadyH.cons (o := { dst := some 19, op := Go.Op.call { callee := Go.Callee.value (Go.Operand.func 63), args := #[Go.Operand.tmp 18], argTypes := #[22] }, type := 22, pos := "ref.go:77", after := #[{ on := 3, ground := Go.Ground.data }], guard := none }) rfl (fun K hK => ?_) ?_
    · -- 4: call
      go_simp
      go_at_call 63
      refine (copied_any A n c l _ rd_261.out (by omega)).mono ?_
      rintro e w267 ⟨Bc, dc, rfl, ho, hb268⟩
      dsimp only
      have NEO := Lib.hid (fun (y : Nat) (e : (Value.slice Bc n dc).ownBlock = some y) => show y ≠ g253 from (by have h1 := (World.ownsRow.lt ho _ e).1; have h2 := Blk.lt bo_266.out; omega))
      have HOC := Lib.hid (owns_base ho (Nat.succ_le_of_lt (Blk.lt b2_259.out))); clear ho
      have b0_269 := Lib.hid (Blk.keep (b0_257.out) hb268)
      have b1_270 := Lib.hid (Blk.keep (b1_258.out) hb268)
      have b2_271 := Lib.hid (Blk.keep (b2_259.out) hb268)
      have bel_272 := Lib.hid (Below.trans (bel_260.out) (Below.mono hb268 ((bel_260.out).size)))
      have rd_273 := Lib.hid (RdB.below (rd_261.out) hb268)
      have bo_274 := Lib.hid (Blk.keep (bo_266.out) hb268)
      refine hK.out _ _ ⟨b0_269.out, b1_270.out⟩ (fun _ => ?_); clear hK K
      try simp only [Act.put, List.setIfInBounds_toArray, List.set_cons_zero, List.set_cons_succ]
      refine wpAnyH_ready (rs := [6]) (by kernel_rfl) (by simp) ?_
      refine AllReadyH.cons (o := { dst := some 21, op := Go.Op.buildSlice 22 1 #[(0, Go.Operand.tmp 20)], type := 22, pos := "ref.go:77", after := #[{ on := 5, ground := Go.Ground.data }], guard := none }) rfl (fun K hK => ?_) ?_
      · -- 6: buildSlice
        go_simp
        have NLO := Lib.hid (fun (y : Nat) (e : (Value.slice Bc n dc).ownBlock = some y) => show y < (w267).heap.size from (World.ownsRow.lt HOC.out y e).2)
        have b0_279 := Lib.hid (Blk.alloc (b0_269.out) (.cells #[.int .i64 f, .int .i64 t, .int .i64 m, .int .i64 i] 54))
        have b1_280 := Lib.hid (Blk.alloc (b1_270.out) (.cells #[.int .i64 f, .int .i64 t, .int .i64 m, .int .i64 i] 54))
        have b2_281 := Lib.hid (Blk.alloc (b2_271.out) (.cells #[.int .i64 f, .int .i64 t, .int .i64 m, .int .i64 i] 54))
        have bel_282 := Lib.hid (Below.alloc (bel_272.out) ((bel_272.out).size) (.cells #[.int .i64 f, .int .i64 t, .int .i64 m, .int .i64 i] 54))
        have rd_283 := Lib.hid (RdB.alloc (rd_273.out) (.cells #[.int .i64 f, .int .i64 t, .int .i64 m, .int .i64 i] 54))
        have bo_284 := Lib.hid (Blk.alloc (bo_274.out) (.cells #[.int .i64 f, .int .i64 t, .int .i64 m, .int .i64 i] 54))
        have cp_285 := Lib.hid (World.ownsRow.alloc (HOC.out) (.cells #[.int .i64 f, .int .i64 t, .int .i64 m, .int .i64 i] 54))
        have ne286 := Lib.hid (Nat.ne_of_lt (Blk.lt b0_269.out))
        have ne287 := Lib.hid (Nat.ne_of_lt (Blk.lt b1_270.out))
        have ne288 := Lib.hid (Nat.ne_of_lt (Blk.lt b2_271.out))
        have lb289 := Lib.hid (bel_272.out.size)
        have ne290 := Lib.hid (Nat.ne_of_lt (Blk.lt bo_274.out))
        have nb_291 := Lib.hid (Blk.new (w267) 54 #[.int .i64 f, .int .i64 t, .int .i64 m, .int .i64 i])
        obtain ⟨g275, hg276⟩ : ∃ g, g = (w267).heap.size := ⟨_, rfl⟩
        obtain ⟨w277, hw278⟩ : ∃ w', w' = (w267).alloc (.cells #[.int .i64 f, .int .i64 t, .int .i64 m, .int .i64 i] 54) := ⟨_, rfl⟩
        rw [← hw278] at b0_279 b1_280 b2_281 bel_282 rd_283 bo_284 cp_285 nb_291
        rw [← hg276] at ne286 ne287 ne288 lb289 ne290 nb_291 NLO
        rw [← hg276, ← hw278]
        clear hg276 hw278
        clear NLO
        refine hK.out _ _ ⟨b0_279.out, b1_280.out⟩ (fun _ => ?_); clear hK K
        try simp only [Act.put, List.setIfInBounds_toArray, List.set_cons_zero, List.set_cons_succ]
        refine wpAnyH_ready (rs := [7]) (by kernel_rfl) (by simp) ?_
        refine AllReadyH.cons (o := { dst := some 22, op := Go.Op.call { callee := Go.Callee.builtin Go.Builtin.append, args := #[Go.Operand.tmp 19, Go.Operand.tmp 21], argTypes := #[22, 22] }, type := 22, pos := "ref.go:77", after := #[{ on := 4, ground := Go.Ground.data }, { on := 6, ground := Go.Ground.data }, { on := 4, ground := Go.Ground.chain }], guard := none }) rfl (fun K hK => ?_) ?_
        · -- 7: call
          have hcell := cells_add (cs := bcells [⟨f, t, m, i⟩]) (show Blk _ _ _ (bcells [⟨f, t, m, i⟩]).toArray from nb_291.out)
          have hsz := Nat.succ_le_of_lt (Blk.lt b2_281.out)
          have hlr := World.ownsRow.lt cp_285.out
          refine wp_append_own2 _ (.tmp 19) (.tmp 21) 22 rfl (w.heap.size + 1 + 1 + 1) 54 i0 _ 4 32 Try.underlying22 HI.out HZ0.out HZ1.out HZ2.out rfl (by omega) (.slice Bc n dc) n (bcells l) rfl cp_285.out ⟨g275, 0, none⟩ 1 1 (bcells [⟨f, t, m, i⟩]) rfl rfl hcell (bcells_one _) (by unfold maxLen; omega) (by omega) hsz (by omega) ?_
          intro v5 w5 hown5 hg5 hwh5
          obtain ⟨B5, c5, rfl, -⟩ := own_form hown5
          have NE8 := Lib.hid (fun (y : Nat) (e : (Value.slice B5 (n + 1) c5).ownBlock = some y) => show y ≠ g253 from by (intro e2; rcases hwh5 with h | h; exact NEO.out _ (h.symm.trans e) e2; exact absurd (Blk.lt bo_284.out) (by have h2 := Option.some.inj (h.symm.trans e); omega)))
          have k292 := Lib.hid (blk_grown b0_279.out hg5 (fun e => by have := (hlr _ e).1; omega))
          have k293 := Lib.hid (blk_grown b1_280.out hg5 (fun e => by have := (hlr _ e).1; omega))
          have k294 := Lib.hid (blk_grown b2_281.out hg5 (fun e => by have := (hlr _ e).1; omega))
          have k295 := Lib.hid (blk_grown bo_284.out hg5 (fun e => NEO.out _ e rfl))
          have NEO := NE8
          have k296 := Lib.hid (Below.grown bel_282.out hg5 (Below.size bel_282.out) (fun q e => by have := (hlr q e).1; omega))
          have HO5 := Lib.hid (show World.ownsRow w5 (w.heap.size + 1 + 1 + 1) 54 4 (.slice B5 (n + 1) c5) (n + 1) (bcells (l ++ [⟨f, t, m, i⟩])) from by rw [bcells_append]; exact hown5)
          clear hown5 hg5 hwh5 hcell hsz hlr
          refine hK.out _ _ ⟨k292.out, k293.out⟩ (fun _ => ?_); clear hK K
          try simp only [Act.put, List.setIfInBounds_toArray, List.set_cons_zero, List.set_cons_succ]
          refine' wpAnyH_take (i := 8) (oi := { dst := some 23, op := Go.Op.build 24 #[(0, Go.Operand.tmp 16), (1, Go.Operand.tmp 22)], type := 24, pos := "ref.go:77", after := #[{ on := 1, ground := Go.Ground.data }, { on := 7, ground := Go.Ground.data }], guard := none }) (v := _) rfl (by kernel_rfl) (by kernel_rfl) (by kernel_rfl) (fun _ _ _ h => h) (Or.inl ⟨by rfl, ?hyR297⟩) ⟨k292.out, k293.out⟩ ?reR297
          case hyR297 => (rintro W' ⟨hS0, hS1⟩; clear hS0 hS1; go_simp; try with_reducible rfl)
          try simp only [Act.put, List.setIfInBounds_toArray, List.set_cons_zero, List.set_cons_succ]
          refine wpAnyH_ready (rs := [10]) (by kernel_rfl) (by simp) ?_
          refine AllReadyH.cons (o := { dst := none, op := Go.Op.store 24 (Go.Operand.tmp 7) (Go.Operand.tmp 23), type := 0, pos := "ref.go:77", after := #[{ on := 9, ground := Go.Ground.data }, { on := 8, ground := Go.Ground.data }, { on := 7, ground := Go.Ground.chain }, { on := 0, ground := Go.Ground.phase }, { on := 1, ground := Go.Ground.phase }, { on := 2, ground := Go.Ground.phase }, { on := 3, ground := Go.Ground.phase }, { on := 4, ground := Go.Ground.phase }, { on := 5, ground := Go.Ground.phase }, { on := 6, ground := Go.Ground.phase }, { on := 7, ground := Go.Ground.phase }, { on := 8, ground := Go.Ground.phase }, { on := 9, ground := Go.Ground.phase }], guard := none }) rfl (fun K hK => ?_) ?_
          · -- 10: store
            have v0 : w5.cell? ⟨g253, 0, none⟩ = some (.int .i64 0) := Blk.cell k295.out 0
            have v1 : w5.cell? ⟨g253, 1, none⟩ = some (.slice none 0 0) := Blk.cell k295.out 1
            have f0 : w5.frozen? ⟨g253, 0, none⟩ = false := Blk.frozen k295.out 0
            have f1 : w5.frozen? ⟨g253, 1, none⟩ = false := Blk.frozen k295.out 1
            have g0 := ne262.out; have g1 := ne263.out; have g2 := ne264.out; have g3 := lb265.out
            go_simp
            have k298 := Lib.hid (Blk.far (Blk.far (k292.out) (p := ⟨g253, 0, none⟩) (by simp; omega) (.int .i64 p)) (p := ⟨g253, 1, none⟩) (by simp; omega) (.slice B5 (n + 1) c5))
            have k299 := Lib.hid (Blk.far (Blk.far (k293.out) (p := ⟨g253, 0, none⟩) (by simp; omega) (.int .i64 p)) (p := ⟨g253, 1, none⟩) (by simp; omega) (.slice B5 (n + 1) c5))
            have k300 := Lib.hid (Blk.far (Blk.far (k294.out) (p := ⟨g253, 0, none⟩) (by simp; omega) (.int .i64 p)) (p := ⟨g253, 1, none⟩) (by simp; omega) (.slice B5 (n + 1) c5))
            have k301 := Lib.hid (Blk.set_ (Blk.set_ (k295.out) 0 (.int .i64 p)) 1 (.slice B5 (n + 1) c5))
            have k302 := Lib.hid (Below.setCell (Below.setCell (k296.out) (p := ⟨g253, 0, none⟩) (by simp; omega) (.int .i64 p)) (p := ⟨g253, 1, none⟩) (by simp; omega) (.slice B5 (n + 1) c5))
            have k303 := Lib.hid (own_far (own_far (HO5.out) (a := ⟨g253, 0, none⟩) (fun e => NEO.out _ e rfl) (.int .i64 p)) (a := ⟨g253, 1, none⟩) (fun e => NEO.out _ e rfl) (.slice B5 (n + 1) c5))
            obtain ⟨w304, hw305⟩ : ∃ w', w' = (w5.setCell ⟨g253, 0, none⟩ (.int .i64 p)).setCell ⟨g253, 1, none⟩ (.slice B5 (n + 1) c5) := ⟨_, rfl⟩
            rw [← hw305] at k298 k299 k300 k301 k302 k303
            rw [← hw305]
            clear hw305 v0 v1 f0 f1
            refine hK.out _ _ ⟨k298.out, k299.out⟩ (fun _ => ?_); clear hK K
            try simp only [Act.put, List.setIfInBounds_toArray, List.set_cons_zero, List.set_cons_succ]
            refine wpAnyH_done (by kernel_rfl) ?_ _
            have C2 := k300; have CE := k302; have BO := k301; have OW := k303
            have hlo := Blk.lt BO.out
            have x0 : w304.cell? ⟨g253, 0, none⟩ = some (.int .i64 p) := Blk.cell BO.out 0
            have x1 : w304.cell? ⟨g253, 1, none⟩ = some (.slice B5 (n + 1) c5) := Blk.cell BO.out 1
            have how : World.ownsRow w304 (w.heap.size + 1 + 1 + 1) 54 4 (.slice B5 (n + 1) c5) (n + 1) (bcells (l ++ [⟨f, t, m, i⟩])) := OW.out
            have hrd := (OwnB.rd (show OwnB w304 (w.heap.size + 1 + 1 + 1) B5 (n + 1) c5 (l ++ [⟨f, t, m, i⟩]) from how)).1
            have hc := rCheckSystem_any p B5 (n + 1) c5 (l ++ [⟨f, t, m, i⟩]) w304 hrd (by unfold maxLen; omega)
            have HC := Lib.hid hc; have HOW := Lib.hid how; clear hc how hrd
            generalize hcq : chk p (l ++ [⟨f, t, m, i⟩]) = cq at *
            go_wp2_with fail
            refine HC.out.mono ?_
            rintro e w9 ⟨rfl, hb⟩
            clear HC x0 x1
            have D2 := Lib.hid (Blk.keep C2.out hb); have DO := Lib.hid (Blk.keep BO.out hb); have DE := Lib.hid (CE.out.trans (Below.mono hb CE.out.size)); have DW := Lib.hid (owns_below HOW.out hb); clear HOW hb
            have hl2' := Blk.lt D2.out
            have v0 : w9.cell? ⟨w.heap.size + 1 + 1, 0, none⟩ = some (.int .i64 0) := Blk.cell D2.out 0
            have v1 : w9.cell? ⟨w.heap.size + 1 + 1, 1, none⟩ = some (.slice none 0 0) := Blk.cell D2.out 1
            have f0 : w9.frozen? ⟨w.heap.size + 1 + 1, 0, none⟩ = false := Blk.frozen D2.out 0
            have f1 : w9.frozen? ⟨w.heap.size + 1 + 1, 1, none⟩ = false := Blk.frozen D2.out 1
            have x0 : w9.cell? ⟨g253, 0, none⟩ = some (.int .i64 p) := Blk.cell DO.out 0
            have x1 : w9.cell? ⟨g253, 1, none⟩ = some (.slice B5 (n + 1) c5) := Blk.cell DO.out 1
            by_cases hz : cq = 0
            · subst hz
              go_wp2
              refine bodyPost_ret (v := .tuple #[.agg #[.int .i64 p, .slice B5 (n + 1) c5], .int .i64 0]) (by simp [results, Try.results95, go_sem, v0, v1]) rfl ?_
              refine ⟨B5, n + 1, c5, by rw [sysR_yes], fun _ => ?_, (DE.out.setCell (p := ⟨w.heap.size + 1 + 1, 0, none⟩) (by simp; omega) _).setCell (p := ⟨w.heap.size + 1 + 1, 1, none⟩) (by simp; omega) _⟩
              exact owns_base (ownsRow_setCell_below (ownsRow_setCell_below DW.out (a := ⟨w.heap.size + 1 + 1, 0, none⟩) (by simp) _) (a := ⟨w.heap.size + 1 + 1, 1, none⟩) (by simp) _) (by omega)
            · have hq : (cq != 0) = true := by simpa using hz
              have HQ := Lib.hid hz; clear hz
              go_wp2
              refine bodyPost_ret (v := .tuple #[.agg #[.int .i64 0, .slice none 0 0], .int .i64 cq]) (by simp [results, Try.results95, go_sem, v0, v1]) rfl ?_
              exact ⟨none, 0, 0, by rw [sysR_no HQ.out], fun h => absurd h HQ.out, (DE.out.setCell (p := ⟨w.heap.size + 1 + 1, 0, none⟩) (by simp; omega) _).setCell (p := ⟨w.heap.size + 1 + 1, 1, none⟩) (by simp; omega) _⟩
          exact AllReadyH.nil
        exact AllReadyH.nil
      exact AllReadyH.nil
    refine AllReadyH.cons (o := { dst := some 21, op := Go.Op.buildSlice 22 1 #[(0, Go.Operand.tmp 20)], type := 22, pos := "ref.go:77", after := #[{ on := 5, ground := Go.Ground.data }], guard := none }) rfl (fun K hK => ?_) ?_
    · -- 6: buildSlice
      go_simp
      have b0_310 := Lib.hid (Blk.alloc (b0_257.out) (.cells #[.int .i64 f, .int .i64 t, .int .i64 m, .int .i64 i] 54))
      have b1_311 := Lib.hid (Blk.alloc (b1_258.out) (.cells #[.int .i64 f, .int .i64 t, .int .i64 m, .int .i64 i] 54))
      have b2_312 := Lib.hid (Blk.alloc (b2_259.out) (.cells #[.int .i64 f, .int .i64 t, .int .i64 m, .int .i64 i] 54))
      have bel_313 := Lib.hid (Below.alloc (bel_260.out) ((bel_260.out).size) (.cells #[.int .i64 f, .int .i64 t, .int .i64 m, .int .i64 i] 54))
      have rd_314 := Lib.hid (RdB.alloc (rd_261.out) (.cells #[.int .i64 f, .int .i64 t, .int .i64 m, .int .i64 i] 54))
      have bo_315 := Lib.hid (Blk.alloc (bo_266.out) (.cells #[.int .i64 f, .int .i64 t, .int .i64 m, .int .i64 i] 54))
      have ne316 := Lib.hid (Nat.ne_of_lt (Blk.lt b0_257.out))
      have ne317 := Lib.hid (Nat.ne_of_lt (Blk.lt b1_258.out))
      have ne318 := Lib.hid (Nat.ne_of_lt (Blk.lt b2_259.out))
      have lb319 := Lib.hid (bel_260.out.size)
      have ne320 := Lib.hid (Nat.ne_of_lt (Blk.lt bo_266.out))
      have nb_321 := Lib.hid (Blk.new (w255) 54 #[.int .i64 f, .int .i64 t, .int .i64 m, .int .i64 i])
      obtain ⟨g306, hg307⟩ : ∃ g, g = (w255).heap.size := ⟨_, rfl⟩
      obtain ⟨w308, hw309⟩ : ∃ w', w' = (w255).alloc (.cells #[.int .i64 f, .int .i64 t, .int .i64 m, .int .i64 i] 54) := ⟨_, rfl⟩
      rw [← hw309] at b0_310 b1_311 b2_312 bel_313 rd_314 bo_315 nb_321
      rw [← hg307] at ne316 ne317 ne318 lb319 ne320 nb_321
      rw [← hg307, ← hw309]
      clear hg307 hw309
      refine hK.out _ _ ⟨b0_310.out, b1_311.out⟩ (fun _ => ?_); clear hK K
      try simp only [Act.put, List.setIfInBounds_toArray, List.set_cons_zero, List.set_cons_succ]
      refine wpAnyH_ready (rs := [4]) (by kernel_rfl) (by simp) ?_
      refine AllReadyH.cons (o := { dst := some 19, op := Go.Op.call { callee := Go.Callee.value (Go.Operand.func 63), args := #[Go.Operand.tmp 18], argTypes := #[22] }, type := 22, pos := "ref.go:77", after := #[{ on := 3, ground := Go.Ground.data }], guard := none }) rfl (fun K hK => ?_) ?_
      · -- 4: call
        go_simp
        go_at_call 63
        refine (copied_any A n c l _ rd_314.out (by omega)).mono ?_
        rintro e w322 ⟨Bc, dc, rfl, ho, hb323⟩
        dsimp only
        have NEO := Lib.hid (fun (y : Nat) (e : (Value.slice Bc n dc).ownBlock = some y) => show y ≠ g253 from (by have h1 := (World.ownsRow.lt ho _ e).1; have h2 := Blk.lt bo_315.out; omega))
        have NEN := Lib.hid (fun (y : Nat) (e : (Value.slice Bc n dc).ownBlock = some y) => show y ≠ g306 from by have h1 := (World.ownsRow.lt ho _ e).1; have h2 := Blk.lt nb_321.out; omega)
        have HOC := Lib.hid (owns_base ho (Nat.succ_le_of_lt (Blk.lt b2_312.out))); clear ho
        have b0_324 := Lib.hid (Blk.keep (b0_310.out) hb323)
        have b1_325 := Lib.hid (Blk.keep (b1_311.out) hb323)
        have b2_326 := Lib.hid (Blk.keep (b2_312.out) hb323)
        have bel_327 := Lib.hid (Below.trans (bel_313.out) (Below.mono hb323 ((bel_313.out).size)))
        have rd_328 := Lib.hid (RdB.below (rd_314.out) hb323)
        have bo_329 := Lib.hid (Blk.keep (bo_315.out) hb323)
        have nb_330 := Lib.hid (Blk.keep (nb_321.out) hb323)
        refine hK.out _ _ ⟨b0_324.out, b1_325.out⟩ (fun _ => ?_); clear hK K
        try simp only [Act.put, List.setIfInBounds_toArray, List.set_cons_zero, List.set_cons_succ]
        refine wpAnyH_ready (rs := [7]) (by kernel_rfl) (by simp) ?_
        refine AllReadyH.cons (o := { dst := some 22, op := Go.Op.call { callee := Go.Callee.builtin Go.Builtin.append, args := #[Go.Operand.tmp 19, Go.Operand.tmp 21], argTypes := #[22, 22] }, type := 22, pos := "ref.go:77", after := #[{ on := 4, ground := Go.Ground.data }, { on := 6, ground := Go.Ground.data }, { on := 4, ground := Go.Ground.chain }], guard := none }) rfl (fun K hK => ?_) ?_
        · -- 7: call
          have hcell := cells_add (cs := bcells [⟨f, t, m, i⟩]) (show Blk _ _ _ (bcells [⟨f, t, m, i⟩]).toArray from nb_330.out)
          have hsz := Nat.succ_le_of_lt (Blk.lt b2_326.out)
          have hlr := World.ownsRow.lt HOC.out
          refine wp_append_own2 _ (.tmp 19) (.tmp 21) 22 rfl (w.heap.size + 1 + 1 + 1) 54 i0 _ 4 32 Try.underlying22 HI.out HZ0.out HZ1.out HZ2.out rfl (by omega) (.slice Bc n dc) n (bcells l) rfl HOC.out ⟨g306, 0, none⟩ 1 1 (bcells [⟨f, t, m, i⟩]) rfl rfl hcell (bcells_one _) (by unfold maxLen; omega) (by omega) hsz (by omega) ?_
          intro v5 w5 hown5 hg5 hwh5
          obtain ⟨B5, c5, rfl, -⟩ := own_form hown5
          have NE8 := Lib.hid (fun (y : Nat) (e : (Value.slice B5 (n + 1) c5).ownBlock = some y) => show y ≠ g253 from by (intro e2; rcases hwh5 with h | h; exact NEO.out _ (h.symm.trans e) e2; exact absurd (Blk.lt bo_329.out) (by have h2 := Option.some.inj (h.symm.trans e); omega)))
          have k331 := Lib.hid (blk_grown b0_324.out hg5 (fun e => by have := (hlr _ e).1; omega))
          have k332 := Lib.hid (blk_grown b1_325.out hg5 (fun e => by have := (hlr _ e).1; omega))
          have k333 := Lib.hid (blk_grown b2_326.out hg5 (fun e => by have := (hlr _ e).1; omega))
          have k334 := Lib.hid (blk_grown bo_329.out hg5 (fun e => NEO.out _ e rfl))
          have NEO := NE8
          have k335 := Lib.hid (Below.grown bel_327.out hg5 (Below.size bel_327.out) (fun q e => by have := (hlr q e).1; omega))
          have HO5 := Lib.hid (show World.ownsRow w5 (w.heap.size + 1 + 1 + 1) 54 4 (.slice B5 (n + 1) c5) (n + 1) (bcells (l ++ [⟨f, t, m, i⟩])) from by rw [bcells_append]; exact hown5)
          clear hown5 hg5 hwh5 hcell hsz hlr
          refine hK.out _ _ ⟨k331.out, k332.out⟩ (fun _ => ?_); clear hK K
          try simp only [Act.put, List.setIfInBounds_toArray, List.set_cons_zero, List.set_cons_succ]
          refine' wpAnyH_take (i := 8) (oi := { dst := some 23, op := Go.Op.build 24 #[(0, Go.Operand.tmp 16), (1, Go.Operand.tmp 22)], type := 24, pos := "ref.go:77", after := #[{ on := 1, ground := Go.Ground.data }, { on := 7, ground := Go.Ground.data }], guard := none }) (v := _) rfl (by kernel_rfl) (by kernel_rfl) (by kernel_rfl) (fun _ _ _ h => h) (Or.inl ⟨by rfl, ?hyR336⟩) ⟨k331.out, k332.out⟩ ?reR336
          case hyR336 => (rintro W' ⟨hS0, hS1⟩; clear hS0 hS1; go_simp; try with_reducible rfl)
          try simp only [Act.put, List.setIfInBounds_toArray, List.set_cons_zero, List.set_cons_succ]
          refine wpAnyH_ready (rs := [10]) (by kernel_rfl) (by simp) ?_
          refine AllReadyH.cons (o := { dst := none, op := Go.Op.store 24 (Go.Operand.tmp 7) (Go.Operand.tmp 23), type := 0, pos := "ref.go:77", after := #[{ on := 9, ground := Go.Ground.data }, { on := 8, ground := Go.Ground.data }, { on := 7, ground := Go.Ground.chain }, { on := 0, ground := Go.Ground.phase }, { on := 1, ground := Go.Ground.phase }, { on := 2, ground := Go.Ground.phase }, { on := 3, ground := Go.Ground.phase }, { on := 4, ground := Go.Ground.phase }, { on := 5, ground := Go.Ground.phase }, { on := 6, ground := Go.Ground.phase }, { on := 7, ground := Go.Ground.phase }, { on := 8, ground := Go.Ground.phase }, { on := 9, ground := Go.Ground.phase }], guard := none }) rfl (fun K hK => ?_) ?_
          · -- 10: store
            have v0 : w5.cell? ⟨g253, 0, none⟩ = some (.int .i64 0) := Blk.cell k334.out 0
            have v1 : w5.cell? ⟨g253, 1, none⟩ = some (.slice none 0 0) := Blk.cell k334.out 1
            have f0 : w5.frozen? ⟨g253, 0, none⟩ = false := Blk.frozen k334.out 0
            have f1 : w5.frozen? ⟨g253, 1, none⟩ = false := Blk.frozen k334.out 1
            have g0 := ne262.out; have g1 := ne263.out; have g2 := ne264.out; have g3 := lb265.out
            go_simp
            have k337 := Lib.hid (Blk.far (Blk.far (k331.out) (p := ⟨g253, 0, none⟩) (by simp; omega) (.int .i64 p)) (p := ⟨g253, 1, none⟩) (by simp; omega) (.slice B5 (n + 1) c5))
            have k338 := Lib.hid (Blk.far (Blk.far (k332.out) (p := ⟨g253, 0, none⟩) (by simp; omega) (.int .i64 p)) (p := ⟨g253, 1, none⟩) (by simp; omega) (.slice B5 (n + 1) c5))
            have k339 := Lib.hid (Blk.far (Blk.far (k333.out) (p := ⟨g253, 0, none⟩) (by simp; omega) (.int .i64 p)) (p := ⟨g253, 1, none⟩) (by simp; omega) (.slice B5 (n + 1) c5))
            have k340 := Lib.hid (Blk.set_ (Blk.set_ (k334.out) 0 (.int .i64 p)) 1 (.slice B5 (n + 1) c5))
            have k341 := Lib.hid (Below.setCell (Below.setCell (k335.out) (p := ⟨g253, 0, none⟩) (by simp; omega) (.int .i64 p)) (p := ⟨g253, 1, none⟩) (by simp; omega) (.slice B5 (n + 1) c5))
            have k342 := Lib.hid (own_far (own_far (HO5.out) (a := ⟨g253, 0, none⟩) (fun e => NEO.out _ e rfl) (.int .i64 p)) (a := ⟨g253, 1, none⟩) (fun e => NEO.out _ e rfl) (.slice B5 (n + 1) c5))
            obtain ⟨w343, hw344⟩ : ∃ w', w' = (w5.setCell ⟨g253, 0, none⟩ (.int .i64 p)).setCell ⟨g253, 1, none⟩ (.slice B5 (n + 1) c5) := ⟨_, rfl⟩
            rw [← hw344] at k337 k338 k339 k340 k341 k342
            rw [← hw344]
            clear hw344 v0 v1 f0 f1
            refine hK.out _ _ ⟨k337.out, k338.out⟩ (fun _ => ?_); clear hK K
            try simp only [Act.put, List.setIfInBounds_toArray, List.set_cons_zero, List.set_cons_succ]
            refine wpAnyH_done (by kernel_rfl) ?_ _
            have C2 := k339; have CE := k341; have BO := k340; have OW := k342
            have hlo := Blk.lt BO.out
            have x0 : w343.cell? ⟨g253, 0, none⟩ = some (.int .i64 p) := Blk.cell BO.out 0
            have x1 : w343.cell? ⟨g253, 1, none⟩ = some (.slice B5 (n + 1) c5) := Blk.cell BO.out 1
            have how : World.ownsRow w343 (w.heap.size + 1 + 1 + 1) 54 4 (.slice B5 (n + 1) c5) (n + 1) (bcells (l ++ [⟨f, t, m, i⟩])) := OW.out
            have hrd := (OwnB.rd (show OwnB w343 (w.heap.size + 1 + 1 + 1) B5 (n + 1) c5 (l ++ [⟨f, t, m, i⟩]) from how)).1
            have hc := rCheckSystem_any p B5 (n + 1) c5 (l ++ [⟨f, t, m, i⟩]) w343 hrd (by unfold maxLen; omega)
            have HC := Lib.hid hc; have HOW := Lib.hid how; clear hc how hrd
            generalize hcq : chk p (l ++ [⟨f, t, m, i⟩]) = cq at *
            go_wp2_with fail
            refine HC.out.mono ?_
            rintro e w9 ⟨rfl, hb⟩
            clear HC x0 x1
            have D2 := Lib.hid (Blk.keep C2.out hb); have DO := Lib.hid (Blk.keep BO.out hb); have DE := Lib.hid (CE.out.trans (Below.mono hb CE.out.size)); have DW := Lib.hid (owns_below HOW.out hb); clear HOW hb
            have hl2' := Blk.lt D2.out
            have v0 : w9.cell? ⟨w.heap.size + 1 + 1, 0, none⟩ = some (.int .i64 0) := Blk.cell D2.out 0
            have v1 : w9.cell? ⟨w.heap.size + 1 + 1, 1, none⟩ = some (.slice none 0 0) := Blk.cell D2.out 1
            have f0 : w9.frozen? ⟨w.heap.size + 1 + 1, 0, none⟩ = false := Blk.frozen D2.out 0
            have f1 : w9.frozen? ⟨w.heap.size + 1 + 1, 1, none⟩ = false := Blk.frozen D2.out 1
            have x0 : w9.cell? ⟨g253, 0, none⟩ = some (.int .i64 p) := Blk.cell DO.out 0
            have x1 : w9.cell? ⟨g253, 1, none⟩ = some (.slice B5 (n + 1) c5) := Blk.cell DO.out 1
            by_cases hz : cq = 0
            · subst hz
              go_wp2
              refine bodyPost_ret (v := .tuple #[.agg #[.int .i64 p, .slice B5 (n + 1) c5], .int .i64 0]) (by simp [results, Try.results95, go_sem, v0, v1]) rfl ?_
              refine ⟨B5, n + 1, c5, by rw [sysR_yes], fun _ => ?_, (DE.out.setCell (p := ⟨w.heap.size + 1 + 1, 0, none⟩) (by simp; omega) _).setCell (p := ⟨w.heap.size + 1 + 1, 1, none⟩) (by simp; omega) _⟩
              exact owns_base (ownsRow_setCell_below (ownsRow_setCell_below DW.out (a := ⟨w.heap.size + 1 + 1, 0, none⟩) (by simp) _) (a := ⟨w.heap.size + 1 + 1, 1, none⟩) (by simp) _) (by omega)
            · have hq : (cq != 0) = true := by simpa using hz
              have HQ := Lib.hid hz; clear hz
              go_wp2
              refine bodyPost_ret (v := .tuple #[.agg #[.int .i64 0, .slice none 0 0], .int .i64 cq]) (by simp [results, Try.results95, go_sem, v0, v1]) rfl ?_
              exact ⟨none, 0, 0, by rw [sysR_no HQ.out], fun h => absurd h HQ.out, (DE.out.setCell (p := ⟨w.heap.size + 1 + 1, 0, none⟩) (by simp; omega) _).setCell (p := ⟨w.heap.size + 1 + 1, 1, none⟩) (by simp; omega) _⟩
          exact AllReadyH.nil
        exact AllReadyH.nil
      exact AllReadyH.nil
    exact AllReadyH.nil
  exact AllReadyH.nil

theorem rWith_any (p f t m i : Int) (A : Option Addr) (n c : Nat) (l : List Bnd) (w : World) (hr : RdB w A n c l) (hn : n ≤ maxLen) : Calls Try.prog 95 #[.agg #[.int .i64 p, .slice A n c], .agg #[.int .i64 f, .int .i64 t, .int .i64 m, .int .i64 i]] w (RetS (withC p l ⟨f, t, m, i⟩) p (l ++ [⟨f, t, m, i⟩]) w) := by
  unfold withC
  by_cases hk : chk p l = 0
  · obtain ⟨hp1, hp2, hlen, -⟩ := chk_ok hk
    rw [if_pos hk]
    exact rW_ok p f t m i A n c l w hr hn (by have := hr.len; omega) (Lib.hid hk)
  · rw [if_neg hk]
    exact rW_err p f t m i A n c l w hr hn _ (by simpa using hk) (Lib.hid hk) (Lib.hid rfl)
end Go.Proofs.Ythlnialipjihdaa
