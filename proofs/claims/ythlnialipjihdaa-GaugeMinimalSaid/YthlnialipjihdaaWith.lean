/- With of gauge: a bound more. -/
import Derived.Test.YthlnialipjihdaaSolve
set_option linter.unusedSimpArgs false
set_option linter.unusedVariables false
namespace Go.Proofs.Ythlnialipjihdaa
open Go.RowKit

theorem rdB_one (w : World) (x : Bnd) : RdB (w.alloc (.cells #[.int .i64 x.f, .int .i64 x.t, .int .i64 x.m, .int .i64 x.b] 54)) (some ⟨w.heap.size, 0, none⟩) 1 1 [x] := by
  refine ⟨rfl, Nat.le_refl _, (fun h => by cases h), .inr ⟨w.heap.size, 0, rfl, by simp, fun j u hu => ?_⟩⟩
  rw [Nat.zero_add, (Blk.new w 54 #[.int .i64 x.f, .int .i64 x.t, .int .i64 x.m, .int .i64 x.b]).cell j]
  simpa [bcells, Bnd.cells] using hu

/-- A system in new memory, or an error. -/
def RetS (q p : Int) (l' : List Bnd) (w : World) (e : Ending) (w' : World) : Prop :=
  ∃ A n c, e = .returned (sysR q p A n c) ∧ (q = 0 → OwnB w' w.heap.size A n c l') ∧ Below w.heap.size w w'

theorem sysR_form (q p : Int) (A : Option Addr) (n c : Nat) : ∃ p' A' n' c', sysR q p A n c = .tuple #[.agg #[.int .i64 p', .slice A' n' c'], .int .i64 q] ∧ (q = 0 → p' = p ∧ A' = A ∧ n' = n ∧ c' = c) ∧ (q ≠ 0 → p' = 0 ∧ A' = none ∧ n' = 0 ∧ c' = 0) := by
  by_cases h : q = 0
  · subst h; exact ⟨p, A, n, c, sysR_yes p A n c, fun _ => ⟨rfl, rfl, rfl, rfl⟩, fun h => absurd rfl h⟩
  · exact ⟨0, none, 0, 0, sysR_no h p A n c, fun h' => absurd h' h, fun _ => ⟨rfl, rfl, rfl, rfl⟩⟩

def withC (p : Int) (l : List Bnd) (x : Bnd) : Int := if chk p l = 0 then chk p (l ++ [x]) else chk p l

set_option maxRecDepth 100000 in
set_option maxHeartbeats 4000000 in
theorem With_any (p f t m i : Int) (A : Option Addr) (n c : Nat) (l : List Bnd) (w : World) (hr : RdB w A n c l) (hn : n ≤ 1000) :
    Calls Try.prog 58 #[.agg #[.int .i64 p, .slice A n c], .agg #[.int .i64 f, .int .i64 t, .int .i64 m, .int .i64 i]] w (RetS (withC p l ⟨f, t, m, i⟩) p (l ++ [⟨f, t, m, i⟩]) w) := by
  have hB : Below w.heap.size w (((w.alloc (.cells #[.int .i64 p, .slice A n c] 24)).alloc (.cells #[.int .i64 f, .int .i64 t, .int .i64 m, .int .i64 i] 54)).alloc (.cells #[.int .i64 0, .slice none 0 0] 24)) := (((Below.refl _ w).alloc (Nat.le_refl _) _).alloc (by simp) _).alloc (by simp; omega) _
  have hc := checkSystem_any p A n c l _ (hr.below hB) (by unfold maxLen; omega)
  have b0 := ((Blk.new w 24 #[.int .i64 p, .slice A n c]).alloc (.cells #[.int .i64 f, .int .i64 t, .int .i64 m, .int .i64 i] 54)).alloc (.cells #[.int .i64 0, .slice none 0 0] 24)
  have b1 := (Blk.new (w.alloc (.cells #[.int .i64 p, .slice A n c] 24)) 54 #[.int .i64 f, .int .i64 t, .int .i64 m, .int .i64 i]).alloc (.cells #[.int .i64 0, .slice none 0 0] 24)
  have b2 := Blk.new ((w.alloc (.cells #[.int .i64 p, .slice A n c] 24)).alloc (.cells #[.int .i64 f, .int .i64 t, .int .i64 m, .int .i64 i] 54)) 24 #[.int .i64 0, .slice none 0 0]
  simp only [World.size_alloc] at b1 b2
  have HC := Lib.hid hc; have B0 := Lib.hid b0; have B1 := Lib.hid b1; have B2 := Lib.hid b2; have HR := Lib.hid hr; clear hc b0 b1 b2 hr
  unfold withC
  by_cases hk : chk p l = 0
  · rw [if_pos hk]
    rw [hk] at HC
    clear hk
    go_enter Try.func58, Try.ntmps58
    go_wp2_with fail
    refine HC.out.mono ?_
    rintro e w1 ⟨rfl, hb1⟩
    have hB1 := hB.trans (hb1.mono hB.size)
    have HB1 := Lib.hid hB1.drew
    have C0 := Lib.hid (B0.out.keep hb1).drew; have C1 := Lib.hid (B1.out.keep hb1).drew; have C2 := Lib.hid (B2.out.keep hb1).drew
    have RD1 := Lib.hid (HR.out.below hB1).drew
    clear hB1
    go_wp2_with fail
    refine wp_region_held_drew (S := (fun W' => Blk W' w.heap.size 24 #[.int .i64 p, .slice A n c] ∧ Blk W' (w.heap.size + 1) 54 #[.int .i64 f, .int .i64 t, .int .i64 m, .int .i64 i])) (by kernel_rfl) ⟨C0.out, C1.out⟩ (fun _ => ?_)
    obtain ⟨w1156, hw1157⟩ : ∃ w', w' = w1.drew := ⟨_, rfl⟩
    rw [← hw1157] at C0 C1 C2 HB1 RD1
    rw [← hw1157]
    clear hw1157
    refine' wpAnyH_take (i := 0) (oi := { dst := some 13, op := Go.Op.fieldAddr 24 (Go.Operand.tmp 2) 0, type := 0, pos := "gauge.go:71", after := #[], guard := none }) (v := _) rfl (by kernel_rfl) (by kernel_rfl) (by kernel_rfl) (fun _ _ _ h => h) (Or.inl ⟨by rfl, ?hyR1158⟩) ⟨C0.out, C1.out⟩ ?reR1158
    case hyR1158 => (rintro W' ⟨hS0, hS1⟩; clear hS0 hS1; go_simp; try with_reducible rfl)
    try simp only [Act.put, List.setIfInBounds_toArray, List.set_cons_zero, List.set_cons_succ]
    refine' wpAnyH_take (i := 1) (oi := { dst := some 14, op := Go.Op.load 3 (Go.Operand.tmp 13), type := 3, pos := "gauge.go:71", after := #[{ on := 0, ground := Go.Ground.data }], guard := none }) (v := _) rfl (by kernel_rfl) (by kernel_rfl) (by kernel_rfl) (fun _ _ _ h => h) (Or.inl ⟨by rfl, ?hyR1159⟩) ⟨C0.out, C1.out⟩ ?reR1159
    case hyR1159 => (rintro W' ⟨hS0, hS1⟩; have hc0 : W'.cell? ⟨w.heap.size, 0, none⟩ = some (.int .i64 p) := Blk.cell hS0 0; clear hS0 hS1; go_simp; try with_reducible rfl)
    try simp only [Act.put, List.setIfInBounds_toArray, List.set_cons_zero, List.set_cons_succ]
    refine' wpAnyH_take (i := 2) (oi := { dst := some 15, op := Go.Op.fieldAddr 24 (Go.Operand.tmp 2) 1, type := 0, pos := "gauge.go:71", after := #[], guard := none }) (v := _) rfl (by kernel_rfl) (by kernel_rfl) (by kernel_rfl) (fun _ _ _ h => h) (Or.inl ⟨by rfl, ?hyR1160⟩) ⟨C0.out, C1.out⟩ ?reR1160
    case hyR1160 => (rintro W' ⟨hS0, hS1⟩; clear hS0 hS1; go_simp; try with_reducible rfl)
    try simp only [Act.put, List.setIfInBounds_toArray, List.set_cons_zero, List.set_cons_succ]
    refine' wpAnyH_take (i := 3) (oi := { dst := some 16, op := Go.Op.load 22 (Go.Operand.tmp 15), type := 22, pos := "gauge.go:71", after := #[{ on := 2, ground := Go.Ground.data }], guard := none }) (v := _) rfl (by kernel_rfl) (by kernel_rfl) (by kernel_rfl) (fun _ _ _ h => h) (Or.inl ⟨by rfl, ?hyR1161⟩) ⟨C0.out, C1.out⟩ ?reR1161
    case hyR1161 => (rintro W' ⟨hS0, hS1⟩; have hc0 : W'.cell? ⟨w.heap.size, 1, none⟩ = some (.slice A n c) := Blk.cell hS0 1; clear hS0 hS1; go_simp; try with_reducible rfl)
    try simp only [Act.put, List.setIfInBounds_toArray, List.set_cons_zero, List.set_cons_succ]
    refine' wpAnyH_take (i := 4) (oi := { dst := some 17, op := Go.Op.load 54 (Go.Operand.tmp 3), type := 54, pos := "gauge.go:71", after := #[], guard := none }) (v := _) rfl (by kernel_rfl) (by kernel_rfl) (by kernel_rfl) (fun _ _ _ h => h) (Or.inl ⟨by rfl, ?hyR1162⟩) ⟨C0.out, C1.out⟩ ?reR1162
    case hyR1162 => (rintro W' ⟨hS0, hS1⟩; have hc0 : W'.cell? ⟨w.heap.size + 1, 0, none⟩ = some (.int .i64 f) := Blk.cell hS1 0; have hc1 : W'.cell? ⟨w.heap.size + 1, 1, none⟩ = some (.int .i64 t) := Blk.cell hS1 1; have hc2 : W'.cell? ⟨w.heap.size + 1, 2, none⟩ = some (.int .i64 m) := Blk.cell hS1 2; have hc3 : W'.cell? ⟨w.heap.size + 1, 3, none⟩ = some (.int .i64 i) := Blk.cell hS1 3; clear hS0 hS1; go_simp; try with_reducible rfl)
    try simp only [Act.put, List.setIfInBounds_toArray, List.set_cons_zero, List.set_cons_succ]
    refine wpAnyH_ready (rs := [5]) (by kernel_rfl) (by simp) ?_
    refine AllReadyH.cons (o := { dst := some 18, op := Go.Op.buildSlice 22 1 #[(0, Go.Operand.tmp 17)], type := 22, pos := "gauge.go:71", after := #[{ on := 4, ground := Go.Ground.data }], guard := none }) rfl (fun K hK => ?_) ?_
    · -- 5: buildSlice
      go_simp
      have r1 := Lib.hid (rdB_one (w1156) ⟨f, t, m, i⟩)
      have b0_1167 := Lib.hid (Blk.alloc (C0.out) (.cells #[.int .i64 f, .int .i64 t, .int .i64 m, .int .i64 i] 54))
      have b1_1168 := Lib.hid (Blk.alloc (C1.out) (.cells #[.int .i64 f, .int .i64 t, .int .i64 m, .int .i64 i] 54))
      have b2_1169 := Lib.hid (Blk.alloc (C2.out) (.cells #[.int .i64 f, .int .i64 t, .int .i64 m, .int .i64 i] 54))
      have bel_1170 := Lib.hid (Below.alloc (HB1.out) ((HB1.out).size) (.cells #[.int .i64 f, .int .i64 t, .int .i64 m, .int .i64 i] 54))
      have rd_1171 := Lib.hid (RdB.alloc (RD1.out) (.cells #[.int .i64 f, .int .i64 t, .int .i64 m, .int .i64 i] 54))
      have ne1172 := Lib.hid (Nat.ne_of_lt (Blk.lt C0.out))
      have ne1173 := Lib.hid (Nat.ne_of_lt (Blk.lt C1.out))
      have ne1174 := Lib.hid (Nat.ne_of_lt (Blk.lt C2.out))
      have lb1175 := Lib.hid (HB1.out.size)
      have nb_1176 := Lib.hid (Blk.new (w1156) 54 #[.int .i64 f, .int .i64 t, .int .i64 m, .int .i64 i])
      obtain ⟨g1163, hg1164⟩ : ∃ g, g = (w1156).heap.size := ⟨_, rfl⟩
      obtain ⟨w1165, hw1166⟩ : ∃ w', w' = (w1156).alloc (.cells #[.int .i64 f, .int .i64 t, .int .i64 m, .int .i64 i] 54) := ⟨_, rfl⟩
      rw [← hw1166] at b0_1167 b1_1168 b2_1169 bel_1170 rd_1171 nb_1176 r1
      rw [← hg1164] at ne1172 ne1173 ne1174 lb1175 nb_1176 r1
      rw [← hg1164, ← hw1166]
      clear hg1164 hw1166
      refine hK.out _ _ ⟨b0_1167.out, b1_1168.out⟩ (fun _ => ?_); clear hK K
      try simp only [Act.put, List.setIfInBounds_toArray, List.set_cons_zero, List.set_cons_succ]
      refine wpAnyH_ready (rs := [6]) (by kernel_rfl) (by simp) ?_
      refine AllReadyH.cons (o := { dst := some 19, op := Go.Op.call { callee := Go.Callee.value (Go.Operand.func 60), args := #[Go.Operand.tmp 16, Go.Operand.tmp 18], argTypes := #[22, 22] }, type := 22, pos := "gauge.go:71", after := #[{ on := 3, ground := Go.Ground.data }, { on := 5, ground := Go.Ground.data }], guard := none }) rfl (fun K hK => ?_) ?_
      · -- 6: call
        go_simp
        go_at_call 60
        refine (joinedB_any A _ n c 1 1 l [⟨f, t, m, i⟩] _ rd_1171.out r1.out (by omega)).mono ?_
        rintro e w1177 ⟨g6, rfl, ho6, hb1178⟩
        dsimp only
        have HO6 := Lib.hid ho6; clear ho6
        have b0_1179 := Lib.hid (Blk.keep (b0_1167.out) hb1178)
        have b1_1180 := Lib.hid (Blk.keep (b1_1168.out) hb1178)
        have b2_1181 := Lib.hid (Blk.keep (b2_1169.out) hb1178)
        have bel_1182 := Lib.hid (Below.trans (bel_1170.out) (Below.mono hb1178 ((bel_1170.out).size)))
        have rd_1183 := Lib.hid (RdB.below (rd_1171.out) hb1178)
        have nb_1184 := Lib.hid (Blk.keep (nb_1176.out) hb1178)
        have one_1185 := Lib.hid (RdB.below (r1.out) hb1178)
        refine hK.out _ _ ⟨b0_1179.out, b1_1180.out⟩ (fun _ => ?_); clear hK K
        try simp only [Act.put, List.setIfInBounds_toArray, List.set_cons_zero, List.set_cons_succ]
        refine wpAnyH_ready (rs := [7]) (by kernel_rfl) (by simp) ?_
        refine AllReadyH.cons (o := { dst := some 20, op := Go.Op.call { callee := Go.Callee.value (Go.Operand.func 61), args := #[Go.Operand.tmp 14, Go.Operand.tmp 19], argTypes := #[3, 22] }, type := 28, pos := "gauge.go:71", after := #[{ on := 1, ground := Go.Ground.data }, { on := 6, ground := Go.Ground.data }, { on := 6, ground := Go.Ground.chain }], guard := none }) rfl (fun K hK => ?_) ?_
        · -- 7: call
          have hrd7 := (OwnB.rd HO6.out).1
          have HRD7 := Lib.hid hrd7; clear hrd7
          go_simp
          go_at_call 61
          refine (made_any p (some ⟨g6, 0, none⟩) (n + 1) (n + 1) (l ++ [⟨f, t, m, i⟩]) _ HRD7.out (by unfold maxLen; omega)).mono ?_
          rintro e w1186 ⟨rfl, hb1187⟩
          obtain ⟨p7, A7, n7, c7, hs7, hy7, hn7⟩ := sysR_form (chk p (l ++ [⟨f, t, m, i⟩])) p (some ⟨g6, 0, none⟩) (n + 1) (n + 1)
          rw [hs7]
          have HS7 := Lib.hid hs7; have HY7 := Lib.hid hy7; have HN7 := Lib.hid hn7; clear hs7 hy7 hn7
          dsimp only
          have HO7 := Lib.hid (owns_below HO6.out hb1187)
          have b0_1188 := Lib.hid (Blk.keep (b0_1179.out) hb1187)
          have b1_1189 := Lib.hid (Blk.keep (b1_1180.out) hb1187)
          have b2_1190 := Lib.hid (Blk.keep (b2_1181.out) hb1187)
          have bel_1191 := Lib.hid (Below.trans (bel_1182.out) (Below.mono hb1187 ((bel_1182.out).size)))
          have rd_1192 := Lib.hid (RdB.below (rd_1183.out) hb1187)
          have nb_1193 := Lib.hid (Blk.keep (nb_1184.out) hb1187)
          have one_1194 := Lib.hid (RdB.below (one_1185.out) hb1187)
          refine hK.out _ _ ⟨b0_1188.out, b1_1189.out⟩ (fun _ => ?_); clear hK K
          try simp only [Act.put, List.setIfInBounds_toArray, List.set_cons_zero, List.set_cons_succ]
          refine' wpAnyH_take (i := 8) (oi := { dst := some 21, op := Go.Op.extract (Go.Operand.tmp 20) 0, type := 24, pos := "gauge.go:71", after := #[{ on := 7, ground := Go.Ground.data }], guard := none }) (v := _) rfl (by kernel_rfl) (by kernel_rfl) (by kernel_rfl) (fun _ _ _ h => h) (Or.inl ⟨by rfl, ?hyR1195⟩) ⟨b0_1188.out, b1_1189.out⟩ ?reR1195
          case hyR1195 => (rintro W' ⟨hS0, hS1⟩; clear hS0 hS1; go_simp; try with_reducible rfl)
          try simp only [Act.put, List.setIfInBounds_toArray, List.set_cons_zero, List.set_cons_succ]
          refine' wpAnyH_take (i := 9) (oi := { dst := some 22, op := Go.Op.extract (Go.Operand.tmp 20) 1, type := 27, pos := "gauge.go:71", after := #[{ on := 7, ground := Go.Ground.data }], guard := none }) (v := _) rfl (by kernel_rfl) (by kernel_rfl) (by kernel_rfl) (fun _ _ _ h => h) (Or.inl ⟨by rfl, ?hyR1196⟩) ⟨b0_1188.out, b1_1189.out⟩ ?reR1196
          case hyR1196 => (rintro W' ⟨hS0, hS1⟩; clear hS0 hS1; go_simp; try with_reducible rfl)
          try simp only [Act.put, List.setIfInBounds_toArray, List.set_cons_zero, List.set_cons_succ]
          refine wpAnyH_ready (rs := [10]) (by kernel_rfl) (by simp) ?_
          refine AllReadyH.cons (o := { dst := none, op := Go.Op.store 24 (Go.Operand.tmp 4) (Go.Operand.tmp 21), type := 0, pos := "gauge.go:71", after := #[{ on := 8, ground := Go.Ground.data }, { on := 7, ground := Go.Ground.chain }, { on := 0, ground := Go.Ground.phase }, { on := 1, ground := Go.Ground.phase }, { on := 2, ground := Go.Ground.phase }, { on := 3, ground := Go.Ground.phase }, { on := 4, ground := Go.Ground.phase }, { on := 5, ground := Go.Ground.phase }, { on := 6, ground := Go.Ground.phase }, { on := 7, ground := Go.Ground.phase }, { on := 8, ground := Go.Ground.phase }, { on := 9, ground := Go.Ground.phase }], guard := none }) rfl (fun K hK => ?_) ?_
          · -- 10: store
            have v0 : w1186.cell? ⟨w.heap.size + 1 + 1, 0, none⟩ = some (.int .i64 0) := Blk.cell b2_1190.out 0
            have v1 : w1186.cell? ⟨w.heap.size + 1 + 1, 1, none⟩ = some (.slice none 0 0) := Blk.cell b2_1190.out 1
            have f0 : w1186.frozen? ⟨w.heap.size + 1 + 1, 0, none⟩ = false := Blk.frozen b2_1190.out 0
            have f1 : w1186.frozen? ⟨w.heap.size + 1 + 1, 1, none⟩ = false := Blk.frozen b2_1190.out 1
            go_simp
            have k1197 := Lib.hid (Blk.far (Blk.far (b0_1188.out) (p := ⟨w.heap.size + 1 + 1, 0, none⟩) (by simp; omega) (.int .i64 p7)) (p := ⟨w.heap.size + 1 + 1, 1, none⟩) (by simp; omega) (.slice A7 n7 c7))
            have k1198 := Lib.hid (Blk.far (Blk.far (b1_1189.out) (p := ⟨w.heap.size + 1 + 1, 0, none⟩) (by simp) (.int .i64 p7)) (p := ⟨w.heap.size + 1 + 1, 1, none⟩) (by simp) (.slice A7 n7 c7))
            refine hK.out _ _ ⟨k1197.out, k1198.out⟩ (fun _ => ?_); clear hK K
            try simp only [Act.put, List.setIfInBounds_toArray, List.set_cons_zero, List.set_cons_succ]
            refine' wpAnyH_take (i := 11) (oi := { dst := some 5, op := Go.Op.assign (Go.Operand.tmp 22), type := 27, pos := "gauge.go:71", after := #[{ on := 9, ground := Go.Ground.data }, { on := 10, ground := Go.Ground.chain }, { on := 0, ground := Go.Ground.phase }, { on := 1, ground := Go.Ground.phase }, { on := 2, ground := Go.Ground.phase }, { on := 3, ground := Go.Ground.phase }, { on := 4, ground := Go.Ground.phase }, { on := 5, ground := Go.Ground.phase }, { on := 6, ground := Go.Ground.phase }, { on := 7, ground := Go.Ground.phase }, { on := 8, ground := Go.Ground.phase }, { on := 9, ground := Go.Ground.phase }, { on := 10, ground := Go.Ground.phase }], guard := none }) (v := _) rfl (by kernel_rfl) (by kernel_rfl) (by kernel_rfl) (fun _ _ _ h => h) (Or.inl ⟨by rfl, ?hyR1199⟩) ⟨k1197.out, k1198.out⟩ ?reR1199
            case hyR1199 => (rintro W' ⟨hS0, hS1⟩; clear hS0 hS1; go_simp; try with_reducible rfl)
            try simp only [Act.put, List.setIfInBounds_toArray, List.set_cons_zero, List.set_cons_succ]
            refine wpAnyH_done (by kernel_rfl) ?_ _
            go_wp2
            refine bodyPost_ret (v := .tuple #[.agg #[.int .i64 p7, .slice A7 n7 c7], .int .i64 (chk p (l ++ [⟨f, t, m, i⟩]))]) (by simp [results, Try.results58, go_sem, v0, v1]) rfl ?_
            refine ⟨some ⟨g6, 0, none⟩, n + 1, n + 1, (by rw [HS7.out]), fun _ => ?_, (by have hsz_ := Below.size bel_1191.out; repeat' (first | with_reducible exact bel_1191.out | with_reducible exact Below.refl _ _ | with_reducible refine Below.alloc ?_ ?_ _ | with_reducible refine Below.setCell ?_ ?_ _ | with_reducible refine Below.drew ?_ | with_reducible refine below_setRow ?_ ?_ _ | omega | (simp; done) | (simp; omega)))⟩
            exact owns_base (ownsRow_setCell_below (ownsRow_setCell_below HO7.out (a := ⟨w.heap.size + 1 + 1, 0, none⟩) (Blk.lt b2_1169.out) _) (a := ⟨w.heap.size + 1 + 1, 1, none⟩) (Blk.lt b2_1169.out) _) (Below.size bel_1170.out)
          exact AllReadyH.nil
        exact AllReadyH.nil
      exact AllReadyH.nil
    exact AllReadyH.nil
  · rw [if_neg hk]
    generalize chk p l = q at *
    have hne : (q != 0) = true := by simpa using hk
    have HK := Lib.hid hk; clear hk
    go_enter Try.func58, Try.ntmps58
    go_wp2_with fail
    refine HC.out.mono ?_
    rintro e w1 ⟨rfl, hb1⟩
    have hB1 := hB.trans (hb1.mono hB.size)
    have c2 := B2.out.keep hb1
    have v0 : w1.cell? ⟨w.heap.size + 1 + 1, 0, none⟩ = some (.int .i64 0) := c2.cell 0
    have v1 : w1.cell? ⟨w.heap.size + 1 + 1, 1, none⟩ = some (.slice none 0 0) := c2.cell 1
    have f0 : w1.frozen? ⟨w.heap.size + 1 + 1, 0, none⟩ = false := c2.frozen 0
    have f1 : w1.frozen? ⟨w.heap.size + 1 + 1, 1, none⟩ = false := c2.frozen 1
    clear c2
    go_wp2
    refine bodyPost_ret (v := .tuple #[.agg #[.int .i64 0, .slice none 0 0], .int .i64 q]) (by simp [results, Try.results58, go_sem, v0, v1]) rfl ?_
    exact ⟨none, 0, 0, by rw [sysR_no HK.out], fun h => absurd h HK.out, (by have hsz_ := Below.size hB1; repeat' (first | with_reducible exact hB1 | with_reducible exact Below.refl _ _ | with_reducible refine Below.alloc ?_ ?_ _ | with_reducible refine Below.setCell ?_ ?_ _ | with_reducible refine Below.drew ?_ | with_reducible refine below_setRow ?_ ?_ _ | omega | (simp; done) | (simp; omega)))⟩
end Go.Proofs.Ythlnialipjihdaa
