/- Tie of gauge. -/
import Derived.Test.YthlnialipjihdaaChn
import Derived.Test.YthlnialipjihdaaAttain
set_option linter.unusedSimpArgs false
set_option linter.unusedVariables false
namespace Go.Proofs.Ythlnialipjihdaa
open Go.RowKit

def tieC (p : Int) (l : List Bnd) (a b N : Int) : Int :=
  if gcode p l [a, b] = 0 then (if a = b ∨ ¬ (-1000000 ≤ N ∧ N ≤ 1000000) then 1 else chk p (l ++ tieB a b N)) else gcode p l [a, b]
set_option maxRecDepth 100000 in
set_option maxHeartbeats 4000000 in
theorem Tie_any (p a b N : Int) (A : Option Addr) (n c : Nat) (l : List Bnd) (w : World) (hr : RdB w A n c l) (hn : n ≤ maxLen) :
    Calls Try.prog 22 #[.agg #[.int .i64 p, .slice A n c], .int .i64 a, .int .i64 b, .int .i64 N] w (RetS (tieC p l a b N) p (l ++ tieB a b N) w) := by
  have hB : Below w.heap.size w ((((w.alloc (.cells #[.int .i64 p, .slice A n c] 24)).alloc (.cells #[.int .i64 0, .slice none 0 0] 24)).alloc (.cells #[.int .i64 a, .int .i64 b] 3))) := (((Below.refl _ w).alloc (Nat.le_refl _) _).alloc (by simp) _).alloc (by simp; omega) _
  have h2 := rdI_two ((w.alloc (.cells #[.int .i64 p, .slice A n c] 24)).alloc (.cells #[.int .i64 0, .slice none 0 0] 24)) a b
  have b0 := ((Blk.new w 24 #[.int .i64 p, .slice A n c]).alloc (.cells #[.int .i64 0, .slice none 0 0] 24)).alloc (.cells #[.int .i64 a, .int .i64 b] 3)
  have b2 := (Blk.new (w.alloc (.cells #[.int .i64 p, .slice A n c] 24)) 24 #[.int .i64 0, .slice none 0 0]).alloc (.cells #[.int .i64 a, .int .i64 b] 3)
  simp only [World.size_alloc] at h2 b2
  have hc := graphOf_any p A _ n c 2 2 l [a, b] _ (hr.below hB) hn h2 (by omega)
  have HC := Lib.hid hc; have HR := Lib.hid hr; have B0 := Lib.hid b0; have B2 := Lib.hid b2; clear hc hr h2 b0 b2
  unfold tieC
  by_cases hg : gcode p l [a, b] = 0
  · rw [if_pos hg]
    obtain ⟨hk, -⟩ := gcode_ok hg
    obtain ⟨hp1, hp2, hlen, -⟩ := chk_ok hk
    rw [hg, sysR_yes] at HC
    clear hg hk
    have hn2 : n ≤ 400 := by have := HR.out.len; omega
    by_cases hab : a = b
    · rw [if_pos (.inl hab)]
      have h1 : (a == b) = true := by simpa using hab
      clear hab
      go_enter Try.func22, Try.ntmps22
      go_wp2_with fail
      refine HC.out.mono ?_
      rintro e wg ⟨rfl, hb1⟩
      have hB1 := hB.trans (hb1.mono hB.size)
      have c2 := (B2.out.keep hb1).alloc (.cells #[.int .i64 p, .slice A n c] 70)
      have v0 : (wg.alloc (.cells #[.int .i64 p, .slice A n c] 70)).cell? ⟨w.heap.size + 1, 0, none⟩ = some (.int .i64 0) := c2.cell 0
      have v1 : (wg.alloc (.cells #[.int .i64 p, .slice A n c] 70)).cell? ⟨w.heap.size + 1, 1, none⟩ = some (.slice none 0 0) := c2.cell 1
      have f0 : (wg.alloc (.cells #[.int .i64 p, .slice A n c] 70)).frozen? ⟨w.heap.size + 1, 0, none⟩ = false := c2.frozen 0
      have f1 : (wg.alloc (.cells #[.int .i64 p, .slice A n c] 70)).frozen? ⟨w.heap.size + 1, 1, none⟩ = false := c2.frozen 1
      clear c2
      go_wp2
      refine bodyPost_ret (v := .tuple #[.agg #[.int .i64 0, .slice none 0 0], .int .i64 1]) (by simp [results, Try.results22, go_sem, v0, v1]) rfl ?_
      exact ⟨none, 0, 0, by rw [sysR_no (by decide)], fun h => absurd h (by decide), (by have hsz_ := Below.size hB1; repeat' (first | with_reducible exact hB1 | with_reducible exact Below.refl _ _ | with_reducible refine Below.alloc ?_ ?_ _ | with_reducible refine Below.setCell ?_ ?_ _ | with_reducible refine Below.drew ?_ | with_reducible refine below_setRow ?_ ?_ _ | omega | (simp; done) | (simp; omega)))⟩
    · have h1 : (a == b) = false := by simpa using hab
      by_cases hN : -1000000 ≤ N ∧ N ≤ 1000000
      · rw [if_neg (fun h => h.elim (fun h => hab h) (fun h => h hN))]
        have hw := fun w => isMost_yes N w hN
        have HW := Lib.hid hw; clear hw hab
        obtain ⟨hN1, hN2⟩ := hN
        go_enter Try.func22, Try.ntmps22
        go_wp2_with fail
        refine HC.out.mono ?_
        rintro e wg ⟨rfl, hb1⟩
        have hB1 := hB.trans (hb1.mono hB.size)
        have hb1s := hb1.size
        simp only [World.size_alloc] at hb1s
        have HB1 := Lib.hid (hB1.alloc hB1.size (.cells #[.int .i64 p, .slice A n c] 70)).drew
        have C0 := Lib.hid ((B0.out.keep hb1).alloc (.cells #[.int .i64 p, .slice A n c] 70)).drew
        have CR := Lib.hid ((B2.out.keep hb1).alloc (.cells #[.int .i64 p, .slice A n c] 70)).drew
        have C1 := Lib.hid (Blk.new wg 70 #[.int .i64 p, .slice A n c]).drew
        have RD1 := Lib.hid (HR.out.below (hB1.alloc hB1.size (.cells #[.int .i64 p, .slice A n c] 70))).drew
        go_wp2_with (go_at_call 65; refine (HW.out _).mono ?_; rintro e w' ⟨rfl, rfl⟩)
        clear hB1
        have hfd : ∀ (g : Nat) (w : World), (Instr.field 70 (.agg #[.int .i64 p, .slice (some ⟨g, 0, none⟩) (n + 2) (n + 2)]) 1).run Try.prog w = .ok (.slice (some ⟨g, 0, none⟩) (n + 2) (n + 2)) w := fun _ _ => by kernel_rfl
        generalize wg.alloc (.cells #[.int .i64 p, .slice A n c] 70) = W0 at *
        refine wp_region_held_drew (S := (fun W' => Blk W' w.heap.size 24 #[.int .i64 p, .slice A n c] ∧ Blk W' wg.heap.size 70 #[.int .i64 p, .slice A n c])) (by kernel_rfl) ⟨C0.out, C1.out⟩ (fun _ => ?_)
        obtain ⟨w1063, hw1064⟩ : ∃ w', w' = W0.drew := ⟨_, rfl⟩
        rw [← hw1064] at C0 C1 CR HB1 RD1
        rw [← hw1064]
        clear hw1064
        refine' wpAnyH_take (i := 0) (oi := { dst := some 33, op := Go.Op.fieldAddr 24 (Go.Operand.tmp 4) 0, type := 0, pos := "gauge.go:135", after := #[], guard := none }) (v := _) rfl (by kernel_rfl) (by kernel_rfl) (by kernel_rfl) (fun _ _ _ h => h) (Or.inl ⟨by rfl, ?hyR1065⟩) ⟨C0.out, C1.out⟩ ?reR1065
        case hyR1065 => (rintro W' ⟨hS0, hS1⟩; clear hS0 hS1; go_simp; try with_reducible rfl)
        try simp only [Act.put, List.setIfInBounds_toArray, List.set_cons_zero, List.set_cons_succ]
        refine' wpAnyH_take (i := 1) (oi := { dst := some 34, op := Go.Op.load 3 (Go.Operand.tmp 33), type := 3, pos := "gauge.go:135", after := #[{ on := 0, ground := Go.Ground.data }], guard := none }) (v := _) rfl (by kernel_rfl) (by kernel_rfl) (by kernel_rfl) (fun _ _ _ h => h) (Or.inl ⟨by rfl, ?hyR1066⟩) ⟨C0.out, C1.out⟩ ?reR1066
        case hyR1066 => (rintro W' ⟨hS0, hS1⟩; have hc0 : W'.cell? ⟨w.heap.size, 0, none⟩ = some (.int .i64 p) := Blk.cell hS0 0; clear hS0 hS1; go_simp; try with_reducible rfl)
        try simp only [Act.put, List.setIfInBounds_toArray, List.set_cons_zero, List.set_cons_succ]
        refine' wpAnyH_take (i := 2) (oi := { dst := some 35, op := Go.Op.load 70 (Go.Operand.tmp 10), type := 70, pos := "gauge.go:135", after := #[], guard := none }) (v := _) rfl (by kernel_rfl) (by kernel_rfl) (by kernel_rfl) (fun _ _ _ h => h) (Or.inl ⟨by rfl, ?hyR1067⟩) ⟨C0.out, C1.out⟩ ?reR1067
        case hyR1067 => (rintro W' ⟨hS0, hS1⟩; have hc0 : W'.cell? ⟨wg.heap.size, 0, none⟩ = some (.int .i64 p) := Blk.cell hS1 0; have hc1 : W'.cell? ⟨wg.heap.size, 1, none⟩ = some (.slice A n c) := Blk.cell hS1 1; clear hS0 hS1; go_simp; try with_reducible rfl)
        try simp only [Act.put, List.setIfInBounds_toArray, List.set_cons_zero, List.set_cons_succ]
        refine' wpAnyH_take (i := 3) (oi := { dst := some 36, op := Go.Op.move (Go.Operand.tmp 1), type := 3, pos := "gauge.go:135", after := #[], guard := none }) (v := _) rfl (by kernel_rfl) (by kernel_rfl) (by kernel_rfl) (fun _ _ _ h => h) (Or.inl ⟨by rfl, ?hyR1068⟩) ⟨C0.out, C1.out⟩ ?reR1068
        case hyR1068 => (rintro W' ⟨hS0, hS1⟩; clear hS0 hS1; go_simp; try with_reducible rfl)
        try simp only [Act.put, List.setIfInBounds_toArray, List.set_cons_zero, List.set_cons_succ]
        refine' wpAnyH_take (i := 4) (oi := { dst := some 37, op := Go.Op.move (Go.Operand.tmp 2), type := 3, pos := "gauge.go:135", after := #[], guard := none }) (v := _) rfl (by kernel_rfl) (by kernel_rfl) (by kernel_rfl) (fun _ _ _ h => h) (Or.inl ⟨by rfl, ?hyR1069⟩) ⟨C0.out, C1.out⟩ ?reR1069
        case hyR1069 => (rintro W' ⟨hS0, hS1⟩; clear hS0 hS1; go_simp; try with_reducible rfl)
        try simp only [Act.put, List.setIfInBounds_toArray, List.set_cons_zero, List.set_cons_succ]
        refine' wpAnyH_take (i := 5) (oi := { dst := some 38, op := Go.Op.move (Go.Operand.tmp 3), type := 3, pos := "gauge.go:135", after := #[], guard := none }) (v := _) rfl (by kernel_rfl) (by kernel_rfl) (by kernel_rfl) (fun _ _ _ h => h) (Or.inl ⟨by rfl, ?hyR1070⟩) ⟨C0.out, C1.out⟩ ?reR1070
        case hyR1070 => (rintro W' ⟨hS0, hS1⟩; clear hS0 hS1; go_simp; try with_reducible rfl)
        try simp only [Act.put, List.setIfInBounds_toArray, List.set_cons_zero, List.set_cons_succ]
        refine wpAnyH_ready (rs := [6]) (by kernel_rfl) (by simp) ?_
        refine AllReadyH.cons (o := { dst := some 39, op := Go.Op.call { callee := Go.Callee.value (Go.Operand.func 66), args := #[Go.Operand.tmp 35, Go.Operand.tmp 36, Go.Operand.tmp 37, Go.Operand.tmp 38], argTypes := #[70, 3, 3, 3] }, type := 70, pos := "gauge.go:135", after := #[{ on := 2, ground := Go.Ground.data }, { on := 3, ground := Go.Ground.data }, { on := 4, ground := Go.Ground.data }, { on := 5, ground := Go.Ground.data }], guard := none }) rfl (fun K hK => ?_) ?_
        · -- 6: call
          go_simp
          go_at_call 66
          refine (tied_any p a b N A n c l _ RD1.out (by omega) (by omega)).mono ?_
          rintro e w1071 ⟨g6, rfl, ho6, hb1072⟩
          dsimp only
          have HO6 := Lib.hid ho6; clear ho6
          have b0_1073 := Lib.hid (Blk.keep (C0.out) hb1072)
          have b1_1074 := Lib.hid (Blk.keep (C1.out) hb1072)
          have br_1075 := Lib.hid (Blk.keep (CR.out) hb1072)
          have bel_1076 := Lib.hid (Below.trans (HB1.out) (Below.mono hb1072 ((HB1.out).size)))
          have rd_1077 := Lib.hid (RdB.below (RD1.out) hb1072)
          refine hK.out _ _ ⟨b0_1073.out, b1_1074.out⟩ (fun _ => ?_); clear hK K
          try simp only [Act.put, List.setIfInBounds_toArray, List.set_cons_zero, List.set_cons_succ]
          refine' wpAnyH_take (i := 7) (oi := { dst := some 40, op := Go.Op.field 70 (Go.Operand.tmp 39) 1, type := 22, pos := "gauge.go:135", after := #[{ on := 6, ground := Go.Ground.data }], guard := none }) (v := _) rfl (by kernel_rfl) (by kernel_rfl) (by kernel_rfl) (fun _ _ _ h => h) (Or.inl ⟨by rfl, ?hyR1078⟩) ⟨b0_1073.out, b1_1074.out⟩ ?reR1078
          case hyR1078 => (rintro W' ⟨hS0, hS1⟩; clear hS0 hS1; go_simp; try with_reducible rfl)
          try simp only [Act.put, List.setIfInBounds_toArray, List.set_cons_zero, List.set_cons_succ]
          refine wpAnyH_ready (rs := [8]) (by kernel_rfl) (by simp) ?_
          refine AllReadyH.cons (o := { dst := some 41, op := Go.Op.call { callee := Go.Callee.value (Go.Operand.func 61), args := #[Go.Operand.tmp 34, Go.Operand.tmp 40], argTypes := #[3, 22] }, type := 28, pos := "gauge.go:135", after := #[{ on := 1, ground := Go.Ground.data }, { on := 7, ground := Go.Ground.data }, { on := 6, ground := Go.Ground.chain }], guard := none }) rfl (fun K hK => ?_) ?_
          · -- 8: call
            have hrd7 := (OwnB.rd HO6.out).1
            have HRD7 := Lib.hid hrd7; clear hrd7
            go_simp
            go_at_call 61
            refine (made_any p (some ⟨g6, 0, none⟩) (n + 2) (n + 2) (l ++ tieB a b N) _ HRD7.out (by unfold maxLen; omega)).mono ?_
            rintro e w1079 ⟨rfl, hb1080⟩
            obtain ⟨p7, A7, n7, c7, hs7, hy7, hn7⟩ := sysR_form (chk p (l ++ tieB a b N)) p (some ⟨g6, 0, none⟩) (n + 2) (n + 2)
            rw [hs7]
            have HS7 := Lib.hid hs7; have HY7 := Lib.hid hy7; have HN7 := Lib.hid hn7; clear hs7 hy7 hn7
            dsimp only
            have HO7 := Lib.hid (owns_below HO6.out hb1080)
            have b0_1081 := Lib.hid (Blk.keep (b0_1073.out) hb1080)
            have b1_1082 := Lib.hid (Blk.keep (b1_1074.out) hb1080)
            have br_1083 := Lib.hid (Blk.keep (br_1075.out) hb1080)
            have bel_1084 := Lib.hid (Below.trans (bel_1076.out) (Below.mono hb1080 ((bel_1076.out).size)))
            have rd_1085 := Lib.hid (RdB.below (rd_1077.out) hb1080)
            refine hK.out _ _ ⟨b0_1081.out, b1_1082.out⟩ (fun _ => ?_); clear hK K
            try simp only [Act.put, List.setIfInBounds_toArray, List.set_cons_zero, List.set_cons_succ]
            refine' wpAnyH_take (i := 9) (oi := { dst := some 42, op := Go.Op.extract (Go.Operand.tmp 41) 0, type := 24, pos := "gauge.go:135", after := #[{ on := 8, ground := Go.Ground.data }], guard := none }) (v := _) rfl (by kernel_rfl) (by kernel_rfl) (by kernel_rfl) (fun _ _ _ h => h) (Or.inl ⟨by rfl, ?hyR1086⟩) ⟨b0_1081.out, b1_1082.out⟩ ?reR1086
            case hyR1086 => (rintro W' ⟨hS0, hS1⟩; clear hS0 hS1; go_simp; try with_reducible rfl)
            try simp only [Act.put, List.setIfInBounds_toArray, List.set_cons_zero, List.set_cons_succ]
            refine' wpAnyH_take (i := 10) (oi := { dst := some 43, op := Go.Op.extract (Go.Operand.tmp 41) 1, type := 27, pos := "gauge.go:135", after := #[{ on := 8, ground := Go.Ground.data }], guard := none }) (v := _) rfl (by kernel_rfl) (by kernel_rfl) (by kernel_rfl) (fun _ _ _ h => h) (Or.inl ⟨by rfl, ?hyR1087⟩) ⟨b0_1081.out, b1_1082.out⟩ ?reR1087
            case hyR1087 => (rintro W' ⟨hS0, hS1⟩; clear hS0 hS1; go_simp; try with_reducible rfl)
            try simp only [Act.put, List.setIfInBounds_toArray, List.set_cons_zero, List.set_cons_succ]
            refine wpAnyH_ready (rs := [11]) (by kernel_rfl) (by simp) ?_
            refine AllReadyH.cons (o := { dst := none, op := Go.Op.store 24 (Go.Operand.tmp 8) (Go.Operand.tmp 42), type := 0, pos := "gauge.go:135", after := #[{ on := 9, ground := Go.Ground.data }, { on := 8, ground := Go.Ground.chain }, { on := 0, ground := Go.Ground.phase }, { on := 1, ground := Go.Ground.phase }, { on := 2, ground := Go.Ground.phase }, { on := 3, ground := Go.Ground.phase }, { on := 4, ground := Go.Ground.phase }, { on := 5, ground := Go.Ground.phase }, { on := 6, ground := Go.Ground.phase }, { on := 7, ground := Go.Ground.phase }, { on := 8, ground := Go.Ground.phase }, { on := 9, ground := Go.Ground.phase }, { on := 10, ground := Go.Ground.phase }], guard := none }) rfl (fun K hK => ?_) ?_
            · -- 11: store
              have v0 : w1079.cell? ⟨w.heap.size + 1, 0, none⟩ = some (.int .i64 0) := Blk.cell br_1083.out 0
              have v1 : w1079.cell? ⟨w.heap.size + 1, 1, none⟩ = some (.slice none 0 0) := Blk.cell br_1083.out 1
              have f0 : w1079.frozen? ⟨w.heap.size + 1, 0, none⟩ = false := Blk.frozen br_1083.out 0
              have f1 : w1079.frozen? ⟨w.heap.size + 1, 1, none⟩ = false := Blk.frozen br_1083.out 1
              go_simp
              have k1088 := Lib.hid (Blk.far (Blk.far (b0_1081.out) (p := ⟨w.heap.size + 1, 0, none⟩) (by first | omega | (simp; done) | (simp; omega)) (.int .i64 p7)) (p := ⟨w.heap.size + 1, 1, none⟩) (by first | omega | (simp; done) | (simp; omega)) (.slice A7 n7 c7))
              have k1089 := Lib.hid (Blk.far (Blk.far (b1_1082.out) (p := ⟨w.heap.size + 1, 0, none⟩) (by first | omega | (simp; done) | (simp; omega)) (.int .i64 p7)) (p := ⟨w.heap.size + 1, 1, none⟩) (by first | omega | (simp; done) | (simp; omega)) (.slice A7 n7 c7))
              refine hK.out _ _ ⟨k1088.out, k1089.out⟩ (fun _ => ?_); clear hK K
              try simp only [Act.put, List.setIfInBounds_toArray, List.set_cons_zero, List.set_cons_succ]
              refine' wpAnyH_take (i := 12) (oi := { dst := some 9, op := Go.Op.assign (Go.Operand.tmp 43), type := 27, pos := "gauge.go:135", after := #[{ on := 10, ground := Go.Ground.data }, { on := 11, ground := Go.Ground.chain }, { on := 0, ground := Go.Ground.phase }, { on := 1, ground := Go.Ground.phase }, { on := 2, ground := Go.Ground.phase }, { on := 3, ground := Go.Ground.phase }, { on := 4, ground := Go.Ground.phase }, { on := 5, ground := Go.Ground.phase }, { on := 6, ground := Go.Ground.phase }, { on := 7, ground := Go.Ground.phase }, { on := 8, ground := Go.Ground.phase }, { on := 9, ground := Go.Ground.phase }, { on := 10, ground := Go.Ground.phase }, { on := 11, ground := Go.Ground.phase }], guard := none }) (v := _) rfl (by kernel_rfl) (by kernel_rfl) (by kernel_rfl) (fun _ _ _ h => h) (Or.inl ⟨by rfl, ?hyR1090⟩) ⟨k1088.out, k1089.out⟩ ?reR1090
              case hyR1090 => (rintro W' ⟨hS0, hS1⟩; clear hS0 hS1; go_simp; try with_reducible rfl)
              try simp only [Act.put, List.setIfInBounds_toArray, List.set_cons_zero, List.set_cons_succ]
              refine wpAnyH_done (by kernel_rfl) ?_ _
              go_wp2
              refine bodyPost_ret (v := .tuple #[.agg #[.int .i64 p7, .slice A7 n7 c7], .int .i64 (chk p (l ++ tieB a b N))]) (by simp [results, Try.results22, go_sem, v0, v1]) rfl ?_
              refine ⟨some ⟨g6, 0, none⟩, n + 2, n + 2, (by rw [HS7.out]), fun _ => ?_, (by have hsz_ := Below.size bel_1084.out; repeat' (first | with_reducible exact bel_1084.out | with_reducible exact Below.refl _ _ | with_reducible refine Below.alloc ?_ ?_ _ | with_reducible refine Below.setCell ?_ ?_ _ | with_reducible refine Below.drew ?_ | with_reducible refine below_setRow ?_ ?_ _ | omega | (simp; done) | (simp; omega)))⟩
              exact owns_base (ownsRow_setCell_below (ownsRow_setCell_below HO7.out (a := ⟨w.heap.size + 1, 0, none⟩) (Blk.lt CR.out) _) (a := ⟨w.heap.size + 1, 1, none⟩) (Blk.lt CR.out) _) (Below.size HB1.out)
            exact AllReadyH.nil
          exact AllReadyH.nil
        exact AllReadyH.nil
      · rw [if_pos (.inr hN)]
        have hw := fun w => isMost_no N w hN
        have HW := Lib.hid hw; clear hw hN hab
        go_enter Try.func22, Try.ntmps22
        go_wp2_with fail
        refine HC.out.mono ?_
        rintro e wg ⟨rfl, hb1⟩
        have hB1 := hB.trans (hb1.mono hB.size)
        have c2 := (B2.out.keep hb1).alloc (.cells #[.int .i64 p, .slice A n c] 70)
        have v0 : (wg.alloc (.cells #[.int .i64 p, .slice A n c] 70)).cell? ⟨w.heap.size + 1, 0, none⟩ = some (.int .i64 0) := c2.cell 0
        have v1 : (wg.alloc (.cells #[.int .i64 p, .slice A n c] 70)).cell? ⟨w.heap.size + 1, 1, none⟩ = some (.slice none 0 0) := c2.cell 1
        have f0 : (wg.alloc (.cells #[.int .i64 p, .slice A n c] 70)).frozen? ⟨w.heap.size + 1, 0, none⟩ = false := c2.frozen 0
        have f1 : (wg.alloc (.cells #[.int .i64 p, .slice A n c] 70)).frozen? ⟨w.heap.size + 1, 1, none⟩ = false := c2.frozen 1
        clear c2
        go_wp2_with (go_at_call 65; refine (HW.out _).mono ?_; rintro e w' ⟨rfl, rfl⟩)
        refine bodyPost_ret (v := .tuple #[.agg #[.int .i64 0, .slice none 0 0], .int .i64 1]) (by simp [results, Try.results22, go_sem, v0, v1]) rfl ?_
        exact ⟨none, 0, 0, by rw [sysR_no (by decide)], fun h => absurd h (by decide), (by have hsz_ := Below.size hB1; repeat' (first | with_reducible exact hB1 | with_reducible exact Below.refl _ _ | with_reducible refine Below.alloc ?_ ?_ _ | with_reducible refine Below.setCell ?_ ?_ _ | with_reducible refine Below.drew ?_ | with_reducible refine below_setRow ?_ ?_ _ | omega | (simp; done) | (simp; omega)))⟩
  · rw [if_neg hg]
    generalize gcode p l [a, b] = q at *
    have hne : (q != 0) = true := by simpa using hg
    rw [sysR_no hg] at HC
    have HK := Lib.hid hg; clear hg
    go_enter Try.func22, Try.ntmps22
    go_wp2_with fail
    refine HC.out.mono ?_
    rintro e wg ⟨rfl, hb1⟩
    have hB1 := hB.trans (hb1.mono hB.size)
    have c2 := (B2.out.keep hb1).alloc (.cells #[.int .i64 0, .slice none 0 0] 70)
    have v0 : (wg.alloc (.cells #[.int .i64 0, .slice none 0 0] 70)).cell? ⟨w.heap.size + 1, 0, none⟩ = some (.int .i64 0) := c2.cell 0
    have v1 : (wg.alloc (.cells #[.int .i64 0, .slice none 0 0] 70)).cell? ⟨w.heap.size + 1, 1, none⟩ = some (.slice none 0 0) := c2.cell 1
    have f0 : (wg.alloc (.cells #[.int .i64 0, .slice none 0 0] 70)).frozen? ⟨w.heap.size + 1, 0, none⟩ = false := c2.frozen 0
    have f1 : (wg.alloc (.cells #[.int .i64 0, .slice none 0 0] 70)).frozen? ⟨w.heap.size + 1, 1, none⟩ = false := c2.frozen 1
    clear c2
    go_wp2
    refine bodyPost_ret (v := .tuple #[.agg #[.int .i64 0, .slice none 0 0], .int .i64 q]) (by simp [results, Try.results22, go_sem, v0, v1]) rfl ?_
    exact ⟨none, 0, 0, by rw [sysR_no HK.out], fun h => absurd h HK.out, (by have hsz_ := Below.size hB1; repeat' (first | with_reducible exact hB1 | with_reducible exact Below.refl _ _ | with_reducible refine Below.alloc ?_ ?_ _ | with_reducible refine Below.setCell ?_ ?_ _ | with_reducible refine Below.drew ?_ | with_reducible refine below_setRow ?_ ?_ _ | omega | (simp; done) | (simp; omega)))⟩
end Go.Proofs.Ythlnialipjihdaa
