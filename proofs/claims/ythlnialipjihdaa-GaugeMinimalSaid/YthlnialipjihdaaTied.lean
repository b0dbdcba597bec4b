/- tied, Tie of gauge. -/
import Derived.Test.YthlnialipjihdaaWith
set_option linter.unusedSimpArgs false
set_option linter.unusedVariables false
namespace Go.Proofs.Ythlnialipjihdaa
open Go.RowKit

theorem rdB_two (w : World) (x y : Bnd) : RdB (w.alloc (.cells #[.int .i64 x.f, .int .i64 x.t, .int .i64 x.m, .int .i64 x.b, .int .i64 y.f, .int .i64 y.t, .int .i64 y.m, .int .i64 y.b] 54)) (some ⟨w.heap.size, 0, none⟩) 2 2 [x, y] := by
  refine ⟨rfl, Nat.le_refl _, (fun h => by cases h), .inr ⟨w.heap.size, 0, rfl, by simp, fun j u hu => ?_⟩⟩
  rw [Nat.zero_add, (Blk.new w 54 #[.int .i64 x.f, .int .i64 x.t, .int .i64 x.m, .int .i64 x.b, .int .i64 y.f, .int .i64 y.t, .int .i64 y.m, .int .i64 y.b]).cell j]
  simpa [bcells, Bnd.cells] using hu

/-- Both bounds of a tie. -/
def tieB (a b N : Int) : List Bnd := [⟨a, b, N, 0⟩, ⟨b, a, -N, 0⟩]
set_option maxRecDepth 100000 in
set_option maxHeartbeats 4000000 in
theorem tied_any (p a b N : Int) (A : Option Addr) (n c : Nat) (l : List Bnd) (w : World) (hr : RdB w A n c l) (hn : n ≤ 1000) (hN : -100000000 ≤ N ∧ N ≤ 100000000) :
    Calls Try.prog 66 #[.agg #[.int .i64 p, .slice A n c], .int .i64 a, .int .i64 b, .int .i64 N] w fun e w' => ∃ g, e = .returned (.agg #[.int .i64 p, .slice (some ⟨g, 0, none⟩) (n + 2) (n + 2)]) ∧ OwnB w' w.heap.size (some ⟨g, 0, none⟩) (n + 2) (n + 2) (l ++ tieB a b N) ∧ Below w.heap.size w w' := by
  obtain ⟨hN1, hN2⟩ := hN
  have HR := Lib.hid hr; clear hr
  have hB : Below w.heap.size w ((((w.alloc (.cells #[.int .i64 p, .slice A n c] 70)).alloc (.cells #[.int .i64 0, .slice none 0 0] 70)).alloc (.cells #[.int .i64 a, .int .i64 b, .int .i64 N, .int .i64 0] 54)).alloc (.cells #[.int .i64 b, .int .i64 a, .int .i64 (-N), .int .i64 0] 54)) := ((((Below.refl _ w).alloc (Nat.le_refl _) _).alloc (by simp) _).alloc (by simp; omega) _).alloc (by simp; omega) _
  have b0 := (((Blk.new w 70 #[.int .i64 p, .slice A n c]).alloc (.cells #[.int .i64 0, .slice none 0 0] 70)).alloc (.cells #[.int .i64 a, .int .i64 b, .int .i64 N, .int .i64 0] 54)).alloc (.cells #[.int .i64 b, .int .i64 a, .int .i64 (-N), .int .i64 0] 54)
  have br := ((Blk.new (w.alloc (.cells #[.int .i64 p, .slice A n c] 70)) 70 #[.int .i64 0, .slice none 0 0]).alloc (.cells #[.int .i64 a, .int .i64 b, .int .i64 N, .int .i64 0] 54)).alloc (.cells #[.int .i64 b, .int .i64 a, .int .i64 (-N), .int .i64 0] 54)
  have b1 := (Blk.new ((w.alloc (.cells #[.int .i64 p, .slice A n c] 70)).alloc (.cells #[.int .i64 0, .slice none 0 0] 70)) 54 #[.int .i64 a, .int .i64 b, .int .i64 N, .int .i64 0]).alloc (.cells #[.int .i64 b, .int .i64 a, .int .i64 (-N), .int .i64 0] 54)
  have b2 := Blk.new (((w.alloc (.cells #[.int .i64 p, .slice A n c] 70)).alloc (.cells #[.int .i64 0, .slice none 0 0] 70)).alloc (.cells #[.int .i64 a, .int .i64 b, .int .i64 N, .int .i64 0] 54)) 54 #[.int .i64 b, .int .i64 a, .int .i64 (-N), .int .i64 0]
  have r0 := HR.out.below hB
  simp only [World.size_alloc] at br b1 b2
  go_enter Try.func66, Try.ntmps66
  go_wp2
  generalize ((((w.alloc (.cells #[.int .i64 p, .slice A n c] 70)).alloc (.cells #[.int .i64 0, .slice none 0 0] 70)).alloc (.cells #[.int .i64 a, .int .i64 b, .int .i64 N, .int .i64 0] 54)).alloc (.cells #[.int .i64 b, .int .i64 a, .int .i64 (-N), .int .i64 0] 54)) = W0 at *
  have C0 := Lib.hid b0.drew; have C1 := Lib.hid b1.drew; have C2 := Lib.hid b2.drew; have CR := Lib.hid br.drew; have HB1 := Lib.hid hB.drew; have RD1 := Lib.hid r0.drew
  clear b0 b1 b2 br hB r0
  refine wp_region_held_drew (S := (fun W' => Blk W' w.heap.size 70 #[.int .i64 p, .slice A n c] ∧ Blk W' (w.heap.size + 1 + 1) 54 #[.int .i64 a, .int .i64 b, .int .i64 N, .int .i64 0] ∧ Blk W' (w.heap.size + 1 + 1 + 1) 54 #[.int .i64 b, .int .i64 a, .int .i64 (-N), .int .i64 0])) (by kernel_rfl) ⟨C0.out, C1.out, C2.out⟩ (fun _ => ?_)
  obtain ⟨w1091, hw1092⟩ : ∃ w', w' = W0.drew := ⟨_, rfl⟩
  rw [← hw1092] at C0 C1 C2 CR HB1 RD1
  rw [← hw1092]
  clear hw1092
  refine' wpAnyH_take (i := 0) (oi := { dst := some 20, op := Go.Op.fieldAddr 70 (Go.Operand.tmp 4) 0, type := 0, pos := "graph.go:62", after := #[], guard := none }) (v := _) rfl (by kernel_rfl) (by kernel_rfl) (by kernel_rfl) (fun _ _ _ h => h) (Or.inl ⟨by rfl, ?hyR1093⟩) ⟨C0.out, C1.out, C2.out⟩ ?reR1093
  case hyR1093 => (rintro W' ⟨hS0, hS1, hS2⟩; clear hS0 hS1 hS2; go_simp; try with_reducible rfl)
  try simp only [Act.put, List.setIfInBounds_toArray, List.set_cons_zero, List.set_cons_succ]
  refine' wpAnyH_take (i := 1) (oi := { dst := some 21, op := Go.Op.load 3 (Go.Operand.tmp 20), type := 3, pos := "graph.go:62", after := #[{ on := 0, ground := Go.Ground.data }], guard := none }) (v := _) rfl (by kernel_rfl) (by kernel_rfl) (by kernel_rfl) (fun _ _ _ h => h) (Or.inl ⟨by rfl, ?hyR1094⟩) ⟨C0.out, C1.out, C2.out⟩ ?reR1094
  case hyR1094 => (rintro W' ⟨hS0, hS1, hS2⟩; have hc0 : W'.cell? ⟨w.heap.size, 0, none⟩ = some (.int .i64 p) := Blk.cell hS0 0; clear hS0 hS1 hS2; go_simp; try with_reducible rfl)
  try simp only [Act.put, List.setIfInBounds_toArray, List.set_cons_zero, List.set_cons_succ]
  refine' wpAnyH_take (i := 2) (oi := { dst := some 22, op := Go.Op.fieldAddr 70 (Go.Operand.tmp 4) 1, type := 0, pos := "graph.go:62", after := #[], guard := none }) (v := _) rfl (by kernel_rfl) (by kernel_rfl) (by kernel_rfl) (fun _ _ _ h => h) (Or.inl ⟨by rfl, ?hyR1095⟩) ⟨C0.out, C1.out, C2.out⟩ ?reR1095
  case hyR1095 => (rintro W' ⟨hS0, hS1, hS2⟩; clear hS0 hS1 hS2; go_simp; try with_reducible rfl)
  try simp only [Act.put, List.setIfInBounds_toArray, List.set_cons_zero, List.set_cons_succ]
  refine' wpAnyH_take (i := 3) (oi := { dst := some 23, op := Go.Op.load 22 (Go.Operand.tmp 22), type := 22, pos := "graph.go:62", after := #[{ on := 2, ground := Go.Ground.data }], guard := none }) (v := _) rfl (by kernel_rfl) (by kernel_rfl) (by kernel_rfl) (fun _ _ _ h => h) (Or.inl ⟨by rfl, ?hyR1096⟩) ⟨C0.out, C1.out, C2.out⟩ ?reR1096
  case hyR1096 => (rintro W' ⟨hS0, hS1, hS2⟩; have hc0 : W'.cell? ⟨w.heap.size, 1, none⟩ = some (.slice A n c) := Blk.cell hS0 1; clear hS0 hS1 hS2; go_simp; try with_reducible rfl)
  try simp only [Act.put, List.setIfInBounds_toArray, List.set_cons_zero, List.set_cons_succ]
  refine' wpAnyH_take (i := 4) (oi := { dst := some 24, op := Go.Op.load 54 (Go.Operand.tmp 9), type := 54, pos := "graph.go:62", after := #[], guard := none }) (v := _) rfl (by kernel_rfl) (by kernel_rfl) (by kernel_rfl) (fun _ _ _ h => h) (Or.inl ⟨by rfl, ?hyR1097⟩) ⟨C0.out, C1.out, C2.out⟩ ?reR1097
  case hyR1097 => (rintro W' ⟨hS0, hS1, hS2⟩; have hc0 : W'.cell? ⟨w.heap.size + 1 + 1, 0, none⟩ = some (.int .i64 a) := Blk.cell hS1 0; have hc1 : W'.cell? ⟨w.heap.size + 1 + 1, 1, none⟩ = some (.int .i64 b) := Blk.cell hS1 1; have hc2 : W'.cell? ⟨w.heap.size + 1 + 1, 2, none⟩ = some (.int .i64 N) := Blk.cell hS1 2; have hc3 : W'.cell? ⟨w.heap.size + 1 + 1, 3, none⟩ = some (.int .i64 0) := Blk.cell hS1 3; clear hS0 hS1 hS2; go_simp; try with_reducible rfl)
  try simp only [Act.put, List.setIfInBounds_toArray, List.set_cons_zero, List.set_cons_succ]
  refine' wpAnyH_take (i := 5) (oi := { dst := some 25, op := Go.Op.load 54 (Go.Operand.tmp 10), type := 54, pos := "graph.go:62", after := #[], guard := none }) (v := _) rfl (by kernel_rfl) (by kernel_rfl) (by kernel_rfl) (fun _ _ _ h => h) (Or.inl ⟨by rfl, ?hyR1098⟩) ⟨C0.out, C1.out, C2.out⟩ ?reR1098
  case hyR1098 => (rintro W' ⟨hS0, hS1, hS2⟩; have hc0 : W'.cell? ⟨w.heap.size + 1 + 1 + 1, 0, none⟩ = some (.int .i64 b) := Blk.cell hS2 0; have hc1 : W'.cell? ⟨w.heap.size + 1 + 1 + 1, 1, none⟩ = some (.int .i64 a) := Blk.cell hS2 1; have hc2 : W'.cell? ⟨w.heap.size + 1 + 1 + 1, 2, none⟩ = some (.int .i64 (-N)) := Blk.cell hS2 2; have hc3 : W'.cell? ⟨w.heap.size + 1 + 1 + 1, 3, none⟩ = some (.int .i64 0) := Blk.cell hS2 3; clear hS0 hS1 hS2; go_simp; try with_reducible rfl)
  try simp only [Act.put, List.setIfInBounds_toArray, List.set_cons_zero, List.set_cons_succ]
  refine wpAnyH_ready (rs := [6]) (by kernel_rfl) (by simp) ?_
  refine AllReadyH.cons (o := { dst := some 26, op := Go.Op.buildSlice 22 2 #[(0, Go.Operand.tmp 24), (1, Go.Operand.tmp 25)], type := 22, pos := "graph.go:62", after := #[{ on := 4, ground := Go.Ground.data }, { on := 5, ground := Go.Ground.data }], guard := none }) rfl (fun K hK => ?_) ?_
  · -- 6: buildSlice
    go_simp
    have r1 := Lib.hid (rdB_two (w1091) ⟨a, b, N, 0⟩ ⟨b, a, -N, 0⟩)
    have b0_1103 := Lib.hid (Blk.alloc (C0.out) (.cells #[.int .i64 a, .int .i64 b, .int .i64 N, .int .i64 0, .int .i64 b, .int .i64 a, .int .i64 (-N), .int .i64 0] 54))
    have b1_1104 := Lib.hid (Blk.alloc (C1.out) (.cells #[.int .i64 a, .int .i64 b, .int .i64 N, .int .i64 0, .int .i64 b, .int .i64 a, .int .i64 (-N), .int .i64 0] 54))
    have b2_1105 := Lib.hid (Blk.alloc (C2.out) (.cells #[.int .i64 a, .int .i64 b, .int .i64 N, .int .i64 0, .int .i64 b, .int .i64 a, .int .i64 (-N), .int .i64 0] 54))
    have br_1106 := Lib.hid (Blk.alloc (CR.out) (.cells #[.int .i64 a, .int .i64 b, .int .i64 N, .int .i64 0, .int .i64 b, .int .i64 a, .int .i64 (-N), .int .i64 0] 54))
    have bel_1107 := Lib.hid (Below.alloc (HB1.out) ((HB1.out).size) (.cells #[.int .i64 a, .int .i64 b, .int .i64 N, .int .i64 0, .int .i64 b, .int .i64 a, .int .i64 (-N), .int .i64 0] 54))
    have rd_1108 := Lib.hid (RdB.alloc (RD1.out) (.cells #[.int .i64 a, .int .i64 b, .int .i64 N, .int .i64 0, .int .i64 b, .int .i64 a, .int .i64 (-N), .int .i64 0] 54))
    have ne1109 := Lib.hid (Nat.ne_of_lt (Blk.lt C0.out))
    have ne1110 := Lib.hid (Nat.ne_of_lt (Blk.lt C1.out))
    have ne1111 := Lib.hid (Nat.ne_of_lt (Blk.lt C2.out))
    have ne1112 := Lib.hid (Nat.ne_of_lt (Blk.lt CR.out))
    have lb1113 := Lib.hid (HB1.out.size)
    have nb_1114 := Lib.hid (Blk.new (w1091) 54 #[.int .i64 a, .int .i64 b, .int .i64 N, .int .i64 0, .int .i64 b, .int .i64 a, .int .i64 (-N), .int .i64 0])
    obtain ⟨g1099, hg1100⟩ : ∃ g, g = (w1091).heap.size := ⟨_, rfl⟩
    obtain ⟨w1101, hw1102⟩ : ∃ w', w' = (w1091).alloc (.cells #[.int .i64 a, .int .i64 b, .int .i64 N, .int .i64 0, .int .i64 b, .int .i64 a, .int .i64 (-N), .int .i64 0] 54) := ⟨_, rfl⟩
    rw [← hw1102] at b0_1103 b1_1104 b2_1105 br_1106 bel_1107 rd_1108 nb_1114 r1
    rw [← hg1100] at ne1109 ne1110 ne1111 ne1112 lb1113 nb_1114 r1
    rw [← hg1100, ← hw1102]
    clear hg1100 hw1102
    refine hK.out _ _ ⟨b0_1103.out, b1_1104.out, b2_1105.out⟩ (fun _ => ?_); clear hK K
    try simp only [Act.put, List.setIfInBounds_toArray, List.set_cons_zero, List.set_cons_succ]
    refine wpAnyH_ready (rs := [7]) (by kernel_rfl) (by simp) ?_
    refine AllReadyH.cons (o := { dst := some 27, op := Go.Op.call { callee := Go.Callee.value (Go.Operand.func 60), args := #[Go.Operand.tmp 23, Go.Operand.tmp 26], argTypes := #[22, 22] }, type := 22, pos := "graph.go:62", after := #[{ on := 3, ground := Go.Ground.data }, { on := 6, ground := Go.Ground.data }], guard := none }) rfl (fun K hK => ?_) ?_
    · -- 7: call
      go_simp
      go_at_call 60
      refine (joinedB_any A _ n c 2 2 l (tieB a b N) _ rd_1108.out r1.out (by omega)).mono ?_
      rintro e w1115 ⟨g6, rfl, ho6, hb1116⟩
      dsimp only
      have HO6 := Lib.hid ho6; clear ho6
      have b0_1117 := Lib.hid (Blk.keep (b0_1103.out) hb1116)
      have b1_1118 := Lib.hid (Blk.keep (b1_1104.out) hb1116)
      have b2_1119 := Lib.hid (Blk.keep (b2_1105.out) hb1116)
      have br_1120 := Lib.hid (Blk.keep (br_1106.out) hb1116)
      have bel_1121 := Lib.hid (Below.trans (bel_1107.out) (Below.mono hb1116 ((bel_1107.out).size)))
      have rd_1122 := Lib.hid (RdB.below (rd_1108.out) hb1116)
      have nb_1123 := Lib.hid (Blk.keep (nb_1114.out) hb1116)
      have one_1124 := Lib.hid (RdB.below (r1.out) hb1116)
      refine hK.out _ _ ⟨b0_1117.out, b1_1118.out, b2_1119.out⟩ (fun _ => ?_); clear hK K
      try simp only [Act.put, List.setIfInBounds_toArray, List.set_cons_zero, List.set_cons_succ]
      refine' wpAnyH_take (i := 8) (oi := { dst := some 28, op := Go.Op.build 70 #[(0, Go.Operand.tmp 21), (1, Go.Operand.tmp 27)], type := 70, pos := "graph.go:62", after := #[{ on := 1, ground := Go.Ground.data }, { on := 7, ground := Go.Ground.data }], guard := none }) (v := _) rfl (by kernel_rfl) (by kernel_rfl) (by kernel_rfl) (fun _ _ _ h => h) (Or.inl ⟨by rfl, ?hyR1125⟩) ⟨b0_1117.out, b1_1118.out, b2_1119.out⟩ ?reR1125
      case hyR1125 => (rintro W' ⟨hS0, hS1, hS2⟩; clear hS0 hS1 hS2; go_simp; try with_reducible rfl)
      try simp only [Act.put, List.setIfInBounds_toArray, List.set_cons_zero, List.set_cons_succ]
      refine wpAnyH_ready (rs := [9]) (by kernel_rfl) (by simp) ?_
      refine AllReadyH.cons (o := { dst := none, op := Go.Op.store 70 (Go.Operand.tmp 8) (Go.Operand.tmp 28), type := 0, pos := "graph.go:62", after := #[{ on := 8, ground := Go.Ground.data }, { on := 7, ground := Go.Ground.chain }, { on := 0, ground := Go.Ground.phase }, { on := 1, ground := Go.Ground.phase }, { on := 2, ground := Go.Ground.phase }, { on := 3, ground := Go.Ground.phase }, { on := 4, ground := Go.Ground.phase }, { on := 5, ground := Go.Ground.phase }, { on := 6, ground := Go.Ground.phase }, { on := 7, ground := Go.Ground.phase }, { on := 8, ground := Go.Ground.phase }], guard := none }) rfl (fun K hK => ?_) ?_
      · -- 9: store
        have v0 : w1115.cell? ⟨w.heap.size + 1, 0, none⟩ = some (.int .i64 0) := Blk.cell br_1120.out 0
        have v1 : w1115.cell? ⟨w.heap.size + 1, 1, none⟩ = some (.slice none 0 0) := Blk.cell br_1120.out 1
        have f0 : w1115.frozen? ⟨w.heap.size + 1, 0, none⟩ = false := Blk.frozen br_1120.out 0
        have f1 : w1115.frozen? ⟨w.heap.size + 1, 1, none⟩ = false := Blk.frozen br_1120.out 1
        go_simp
        have k1126 := Lib.hid (Blk.far (Blk.far (b0_1117.out) (p := ⟨w.heap.size + 1, 0, none⟩) (by simp; try omega) (.int .i64 p)) (p := ⟨w.heap.size + 1, 1, none⟩) (by simp; try omega) (.slice (some ⟨g6, 0, none⟩) (n + 2) (n + 2)))
        have k1127 := Lib.hid (Blk.far (Blk.far (b1_1118.out) (p := ⟨w.heap.size + 1, 0, none⟩) (by simp; try omega) (.int .i64 p)) (p := ⟨w.heap.size + 1, 1, none⟩) (by simp; try omega) (.slice (some ⟨g6, 0, none⟩) (n + 2) (n + 2)))
        have k1128 := Lib.hid (Blk.far (Blk.far (b2_1119.out) (p := ⟨w.heap.size + 1, 0, none⟩) (by simp; try omega) (.int .i64 p)) (p := ⟨w.heap.size + 1, 1, none⟩) (by simp; try omega) (.slice (some ⟨g6, 0, none⟩) (n + 2) (n + 2)))
        refine hK.out _ _ ⟨k1126.out, k1127.out, k1128.out⟩ (fun _ => ?_); clear hK K
        try simp only [Act.put, List.setIfInBounds_toArray, List.set_cons_zero, List.set_cons_succ]
        refine wpAnyH_done (by kernel_rfl) ?_ _
        go_wp2
        refine bodyPost_ret (v := .agg #[.int .i64 p, .slice (some ⟨g6, 0, none⟩) (n + 2) (n + 2)]) (by simp [results, Try.results66, go_sem, v0, v1]) rfl ?_
        refine ⟨g6, rfl, ?_, (by have hsz_ := Below.size bel_1121.out; repeat' (first | with_reducible exact bel_1121.out | with_reducible exact Below.refl _ _ | with_reducible refine Below.alloc ?_ ?_ _ | with_reducible refine Below.setCell ?_ ?_ _ | with_reducible refine Below.drew ?_ | with_reducible refine below_setRow ?_ ?_ _ | omega | (simp; done) | (simp; omega)))⟩
        exact owns_base (ownsRow_setCell_below (ownsRow_setCell_below HO6.out (a := ⟨w.heap.size + 1, 0, none⟩) (Blk.lt br_1106.out) _) (a := ⟨w.heap.size + 1, 1, none⟩) (Blk.lt br_1106.out) _) (Below.size bel_1107.out)
      exact AllReadyH.nil
    exact AllReadyH.nil
  exact AllReadyH.nil
end Go.Proofs.Ythlnialipjihdaa
