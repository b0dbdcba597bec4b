/- The reference's tied. -/
import Derived.Test.YthlnialipjihdaaRSolve
import Derived.Test.YthlnialipjihdaaAttain
set_option linter.unusedSimpArgs false
set_option linter.unusedVariables false
namespace Go.Proofs.Ythlnialipjihdaa
open Go.RowKit

theorem blk_rdB {w : World} {g n c : Nat} {L : List Bnd} (h : Blk w g 54 (bcells L).toArray) (hn : L.length = n) (hc : n ≤ c) : RdB w (some ⟨g, 0, none⟩) n c L := by
  refine ⟨hn, hc, (fun h => by cases h), .inr ⟨g, 0, rfl, h.lt, fun j u hu => ?_⟩⟩
  rw [Nat.zero_add, h.cell j]
  simpa using hu
theorem cells_add {w : World} {g : Nat} {t : TypeId} {cs : List Value} (h : Blk w g t cs.toArray) : ∀ j u, cs[j]? = some u → w.cell? ((⟨g, 0, none⟩ : Addr).add j) = some u := fun j u hu => by
  rw [Addr.add_lit, Nat.zero_add, h.cell]
  simpa using hu

set_option maxRecDepth 100000 in
set_option maxHeartbeats 8000000 in
theorem rtied_any (p a b N : Int) (A : Option Addr) (n c : Nat) (l : List Bnd) (w : World) (hr : RdB w A n c l) (hn : n ≤ 1000) (hN : -100000000 ≤ N ∧ N ≤ 100000000) :
    Calls Try.prog 69 #[.agg #[.int .i64 p, .slice A n c], .int .i64 a, .int .i64 b, .int .i64 N] w fun e w' => ∃ B' c', e = .returned (.agg #[.int .i64 p, .slice B' (n + 2) c']) ∧ OwnB w' w.heap.size B' (n + 2) c' (l ++ tieB a b N) ∧ Below w.heap.size w w' := by
  obtain ⟨hN1, hN2⟩ := hN
  have HWR := Lib.hid (wrap_small (x := -N) (by omega) (by omega))
  obtain ⟨i0, hi0, hz0, hz1, hz2⟩ := info_parts infoB
  have HI := Lib.hid hi0; have HZ0 := Lib.hid hz0; have HZ1 := Lib.hid hz1; have HZ2 := Lib.hid hz2; clear hi0 hz0 hz1 hz2
  have hB : Below w.heap.size w ((w.alloc (.cells #[.int .i64 p, .slice A n c] 24)).alloc (.cells #[.int .i64 0, .slice none 0 0] 24)) := ((Below.refl _ w).alloc (Nat.le_refl _) _).alloc (by simp) _
  have b0 := (Blk.new w 24 #[.int .i64 p, .slice A n c]).alloc (.cells #[.int .i64 0, .slice none 0 0] 24)
  have br := Blk.new (w.alloc (.cells #[.int .i64 p, .slice A n c] 24)) 24 #[.int .i64 0, .slice none 0 0]
  simp only [World.size_alloc] at br
  have C0 := Lib.hid b0.drew; have CR := Lib.hid br.drew; have HB1 := Lib.hid hB.drew; have RD1 := Lib.hid (hr.below hB).drew
  clear b0 br hB hr
  go_enter Try.func69, Try.ntmps69
  go_wp2_with fail
  generalize (w.alloc (.cells #[.int .i64 p, .slice A n c] 24)).alloc (.cells #[.int .i64 0, .slice none 0 0] 24) = W0 at *
  refine wp_region_held_drew (S := (fun W' => Blk W' w.heap.size 24 #[.int .i64 p, .slice A n c])) (by kernel_rfl) C0.out (fun _ => ?_)
  obtain ⟨w1, hw2⟩ : ∃ w', w' = W0.drew := ⟨_, rfl⟩
  rw [← hw2] at C0 CR HB1 RD1
  rw [← hw2]
  clear hw2
  refine' wpAnyH_take (i := 0) (oi := { dst := some 9, op := Go.Op.fieldAddr 24 (Go.Operand.tmp 4) 0, type := 0, pos := "ref.go:187", after := #[], guard := none }) (v := _) rfl (by kernel_rfl) (by kernel_rfl) (by kernel_rfl) (fun _ _ _ h => h) (Or.inl ⟨by rfl, ?hyR3⟩) C0.out ?reR3
  case hyR3 => (rintro W' hS0; clear hS0; go_simp; try with_reducible rfl)
  try simp only [Act.put, List.setIfInBounds_toArray, List.set_cons_zero, List.set_cons_succ]
  refine' wpAnyH_take (i := 1) (oi := { dst := some 10, op := Go.Op.load 3 (Go.Operand.tmp 9), type := 3, pos := "ref.go:187", after := #[{ on := 0, ground := Go.Ground.data }], guard := none }) (v := _) rfl (by kernel_rfl) (by kernel_rfl) (by kernel_rfl) (fun _ _ _ h => h) (Or.inl ⟨by rfl, ?hyR4⟩) C0.out ?reR4
  case hyR4 => (rintro W' hS0; have hc0 : W'.cell? ⟨w.heap.size, 0, none⟩ = some (.int .i64 p) := Blk.cell hS0 0; clear hS0; go_simp; try with_reducible rfl)
  try simp only [Act.put, List.setIfInBounds_toArray, List.set_cons_zero, List.set_cons_succ]
  refine' wpAnyH_take (i := 2) (oi := { dst := some 11, op := Go.Op.fieldAddr 24 (Go.Operand.tmp 4) 1, type := 0, pos := "ref.go:187", after := #[], guard := none }) (v := _) rfl (by kernel_rfl) (by kernel_rfl) (by kernel_rfl) (fun _ _ _ h => h) (Or.inl ⟨by rfl, ?hyR5⟩) C0.out ?reR5
  case hyR5 => (rintro W' hS0; clear hS0; go_simp; try with_reducible rfl)
  try simp only [Act.put, List.setIfInBounds_toArray, List.set_cons_zero, List.set_cons_succ]
  refine' wpAnyH_take (i := 3) (oi := { dst := some 12, op := Go.Op.load 22 (Go.Operand.tmp 11), type := 22, pos := "ref.go:187", after := #[{ on := 2, ground := Go.Ground.data }], guard := none }) (v := _) rfl (by kernel_rfl) (by kernel_rfl) (by kernel_rfl) (fun _ _ _ h => h) (Or.inl ⟨by rfl, ?hyR6⟩) C0.out ?reR6
  case hyR6 => (rintro W' hS0; have hc0 : W'.cell? ⟨w.heap.size, 1, none⟩ = some (.slice A n c) := Blk.cell hS0 1; clear hS0; go_simp; try with_reducible rfl)
  try simp only [Act.put, List.setIfInBounds_toArray, List.set_cons_zero, List.set_cons_succ]
  refine' wpAnyH_take (i := 5) (oi := { dst := some 14, op := Go.Op.move (Go.Operand.tmp 1), type := 3, pos := "ref.go:187", after := #[], guard := none }) (v := _) rfl (by kernel_rfl) (by kernel_rfl) (by kernel_rfl) (fun _ _ _ h => h) (Or.inl ⟨by rfl, ?hyR7⟩) C0.out ?reR7
  case hyR7 => (rintro W' hS0; clear hS0; go_simp; try with_reducible rfl)
  try simp only [Act.put, List.setIfInBounds_toArray, List.set_cons_zero, List.set_cons_succ]
  refine' wpAnyH_take (i := 6) (oi := { dst := some 15, op := Go.Op.move (Go.Operand.tmp 2), type := 3, pos := "ref.go:187", after := #[], guard := none }) (v := _) rfl (by kernel_rfl) (by kernel_rfl) (by kernel_rfl) (fun _ _ _ h => h) (Or.inl ⟨by rfl, ?hyR8⟩) C0.out ?reR8
  case hyR8 => (rintro W' hS0; clear hS0; go_simp; try with_reducible rfl)
  try simp only [Act.put, List.setIfInBounds_toArray, List.set_cons_zero, List.set_cons_succ]
  refine' wpAnyH_take (i := 7) (oi := { dst := some 16, op := Go.Op.move (Go.Operand.tmp 3), type := 3, pos := "ref.go:187", after := #[], guard := none }) (v := _) rfl (by kernel_rfl) (by kernel_rfl) (by kernel_rfl) (fun _ _ _ h => h) (Or.inl ⟨by rfl, ?hyR9⟩) C0.out ?reR9
  case hyR9 => (rintro W' hS0; clear hS0; go_simp; try with_reducible rfl)
  try simp only [Act.put, List.setIfInBounds_toArray, List.set_cons_zero, List.set_cons_succ]
  refine' wpAnyH_take (i := 8) (oi := { dst := some 17, op := Go.Op.build 54 #[(0, Go.Operand.tmp 14), (1, Go.Operand.tmp 15), (2, Go.Operand.tmp 16)], type := 54, pos := "ref.go:187", after := #[{ on := 5, ground := Go.Ground.data }, { on := 6, ground := Go.Ground.data }, { on := 7, ground := Go.Ground.data }], guard := none }) (v := _) rfl (by kernel_rfl) (by kernel_rfl) (by kernel_rfl) (fun _ _ _ h => h) (Or.inl ⟨by rfl, ?hyR10⟩) C0.out ?reR10
  case hyR10 => (rintro W' hS0; clear hS0; go_simp; try with_reducible rfl)
  try simp only [Act.put, List.setIfInBounds_toArray, List.set_cons_zero, List.set_cons_succ]
  refine' wpAnyH_take (i := 9) (oi := { dst := some 18, op := Go.Op.move (Go.Operand.tmp 2), type := 3, pos := "ref.go:187", after := #[], guard := none }) (v := _) rfl (by kernel_rfl) (by kernel_rfl) (by kernel_rfl) (fun _ _ _ h => h) (Or.inl ⟨by rfl, ?hyR11⟩) C0.out ?reR11
  case hyR11 => (rintro W' hS0; clear hS0; go_simp; try with_reducible rfl)
  try simp only [Act.put, List.setIfInBounds_toArray, List.set_cons_zero, List.set_cons_succ]
  refine' wpAnyH_take (i := 10) (oi := { dst := some 19, op := Go.Op.move (Go.Operand.tmp 1), type := 3, pos := "ref.go:187", after := #[], guard := none }) (v := _) rfl (by kernel_rfl) (by kernel_rfl) (by kernel_rfl) (fun _ _ _ h => h) (Or.inl ⟨by rfl, ?hyR12⟩) C0.out ?reR12
  case hyR12 => (rintro W' hS0; clear hS0; go_simp; try with_reducible rfl)
  try simp only [Act.put, List.setIfInBounds_toArray, List.set_cons_zero, List.set_cons_succ]
  refine' wpAnyH_take (i := 11) (oi := { dst := some 20, op := Go.Op.move (Go.Operand.tmp 3), type := 3, pos := "ref.go:187", after := #[], guard := none }) (v := _) rfl (by kernel_rfl) (by kernel_rfl) (by kernel_rfl) (fun _ _ _ h => h) (Or.inl ⟨by rfl, ?hyR13⟩) C0.out ?reR13
  case hyR13 => (rintro W' hS0; clear hS0; go_simp; try with_reducible rfl)
  try simp only [Act.put, List.setIfInBounds_toArray, List.set_cons_zero, List.set_cons_succ]
  refine' wpAnyH_take (i := 12) (oi := { dst := some 21, op := Go.Op.unOp Go.UnOp.neg 3 (Go.Operand.tmp 20), type := 3, pos := "ref.go:187", after := #[{ on := 11, ground := Go.Ground.data }], guard := none }) (v := _) rfl (by kernel_rfl) (by kernel_rfl) (by kernel_rfl) (fun _ _ _ h => h) (Or.inl ⟨by rfl, ?hyR14⟩) C0.out ?reR14
  case hyR14 => (rintro W' hS0; clear hS0; go_simp; try with_reducible rfl)
  try simp only [Act.put, List.setIfInBounds_toArray, List.set_cons_zero, List.set_cons_succ]
  refine' wpAnyH_take (i := 13) (oi := { dst := some 22, op := Go.Op.build 54 #[(0, Go.Operand.tmp 18), (1, Go.Operand.tmp 19), (2, Go.Operand.tmp 21)], type := 54, pos := "ref.go:187", after := #[{ on := 9, ground := Go.Ground.data }, { on := 10, ground := Go.Ground.data }, { on := 12, ground := Go.Ground.data }], guard := none }) (v := _) rfl (by kernel_rfl) (by kernel_rfl) (by kernel_rfl) (fun _ _ _ h => h) (Or.inl ⟨by rfl, ?hyR15⟩) C0.out ?reR15
  case hyR15 => (rintro W' hS0; clear hS0; go_simp; try with_reducible rfl)
  try simp only [Act.put, List.setIfInBounds_toArray, List.set_cons_zero, List.set_cons_succ]
  refine wpAnyH_ready (rs := [4, 14]) (by kernel_rfl) (by simp) ?_
  refine AllReadyH.cons (o := { dst := some 13, op := Go.Op.call { callee := Go.Callee.value (Go.Operand.func 63), args := #[Go.Operand.tmp 12], argTypes := #[22] }, type := 22, pos := "ref.go:187", after := #[{ on := 3, ground := Go.Ground.data }], guard := none }) rfl (fun K hK => ?_) ?_
  · -- 4: call
    go_simp
    go_at_call 63
    refine (copied_any A n c l _ RD1.out (by omega)).mono ?_
    rintro e w16 ⟨Bc, dc, rfl, ho, hb17⟩
    dsimp only
    have HOC := Lib.hid (owns_base ho (Nat.succ_le_of_lt (Blk.lt CR.out))); clear ho
    have b0_18 := Lib.hid (Blk.keep (C0.out) hb17)
    have br_19 := Lib.hid (Blk.keep (CR.out) hb17)
    have bel_20 := Lib.hid (Below.trans (HB1.out) (Below.mono hb17 ((HB1.out).size)))
    have rd_21 := Lib.hid (RdB.below (RD1.out) hb17)
    refine hK.out _ _ b0_18.out (fun _ => ?_); clear hK K
    try simp only [Act.put, List.setIfInBounds_toArray, List.set_cons_zero, List.set_cons_succ]
    refine wpAnyH_ready (rs := [14]) (by kernel_rfl) (by simp) ?_
    refine AllReadyH.cons (o := { dst := some 23, op := Go.Op.buildSlice 22 2 #[(0, Go.Operand.tmp 17), (1, Go.Operand.tmp 22)], type := 22, pos := "ref.go:187", after := #[{ on := 8, ground := Go.Ground.data }, { on := 13, ground := Go.Ground.data }], guard := none }) rfl (fun K hK => ?_) ?_
    · -- 14: buildSlice
      go_simp
      rw [HWR.out]
      have b0_26 := Lib.hid (Blk.alloc (b0_18.out) (.cells #[.int .i64 a, .int .i64 b, .int .i64 N, .int .i64 0, .int .i64 b, .int .i64 a, .int .i64 (-N), .int .i64 0] 54))
      have br_27 := Lib.hid (Blk.alloc (br_19.out) (.cells #[.int .i64 a, .int .i64 b, .int .i64 N, .int .i64 0, .int .i64 b, .int .i64 a, .int .i64 (-N), .int .i64 0] 54))
      have bel_28 := Lib.hid (Below.alloc (bel_20.out) ((bel_20.out).size) (.cells #[.int .i64 a, .int .i64 b, .int .i64 N, .int .i64 0, .int .i64 b, .int .i64 a, .int .i64 (-N), .int .i64 0] 54))
      have rd_29 := Lib.hid (RdB.alloc (rd_21.out) (.cells #[.int .i64 a, .int .i64 b, .int .i64 N, .int .i64 0, .int .i64 b, .int .i64 a, .int .i64 (-N), .int .i64 0] 54))
      have cp_30 := Lib.hid (World.ownsRow.alloc (HOC.out) (.cells #[.int .i64 a, .int .i64 b, .int .i64 N, .int .i64 0, .int .i64 b, .int .i64 a, .int .i64 (-N), .int .i64 0] 54))
      have ne31 := Lib.hid (Nat.ne_of_lt (Blk.lt b0_18.out))
      have ne32 := Lib.hid (Nat.ne_of_lt (Blk.lt br_19.out))
      have lb33 := Lib.hid (bel_20.out.size)
      have nb_34 := Lib.hid (Blk.new (w16) 54 #[.int .i64 a, .int .i64 b, .int .i64 N, .int .i64 0, .int .i64 b, .int .i64 a, .int .i64 (-N), .int .i64 0])
      obtain ⟨g22, hg23⟩ : ∃ g, g = (w16).heap.size := ⟨_, rfl⟩
      obtain ⟨w24, hw25⟩ : ∃ w', w' = (w16).alloc (.cells #[.int .i64 a, .int .i64 b, .int .i64 N, .int .i64 0, .int .i64 b, .int .i64 a, .int .i64 (-N), .int .i64 0] 54) := ⟨_, rfl⟩
      rw [← hw25] at b0_26 br_27 bel_28 rd_29 cp_30 nb_34
      rw [← hg23] at ne31 ne32 lb33 nb_34
      rw [← hg23, ← hw25]
      clear hg23 hw25
      refine hK.out _ _ b0_26.out (fun _ => ?_); clear hK K
      try simp only [Act.put, List.setIfInBounds_toArray, List.set_cons_zero, List.set_cons_succ]
      refine wpAnyH_ready (rs := [15]) (by kernel_rfl) (by simp) ?_
      refine AllReadyH.cons (o := { dst := some 24, op := Go.Op.call { callee := Go.Callee.builtin Go.Builtin.append, args := #[Go.Operand.tmp 13, Go.Operand.tmp 23], argTypes := #[22, 22] }, type := 22, pos := "ref.go:187", after := #[{ on := 4, ground := Go.Ground.data }, { on := 14, ground := Go.Ground.data }, { on := 4, ground := Go.Ground.chain }], guard := none }) rfl (fun K hK => ?_) ?_
      · -- 15: call
        have hcell := cells_add (cs := bcells (tieB a b N)) (show Blk _ _ _ (bcells (tieB a b N)).toArray from nb_34.out)
        have hsz := Nat.succ_le_of_lt (Blk.lt br_27.out)
        have hlr := World.ownsRow.lt cp_30.out
        refine wp_append_own _ (.tmp 13) (.tmp 23) 22 rfl (w.heap.size + 2) 54 i0 _ 4 32 Try.underlying22 HI.out HZ0.out HZ1.out HZ2.out rfl (by omega) (.slice Bc n dc) n (bcells l) rfl cp_30.out ⟨g22, 0, none⟩ 2 2 (bcells (tieB a b N)) rfl rfl hcell (bcells_one _) (by unfold maxLen; omega) (by omega) hsz ?_
        intro v5 w5 hown5 hg5 _
        obtain ⟨B5, c5, rfl, -⟩ := own_form hown5
        have k35 := Lib.hid (blk_grown b0_26.out hg5 (fun e => by have := (hlr _ e).1; omega))
        have k36 := Lib.hid (blk_grown br_27.out hg5 (fun e => by have := (hlr _ e).1; omega))
        have k37 := Lib.hid (Below.grown bel_28.out hg5 (by omega) (fun q e => by have := (hlr q e).1; omega))
        have HO5 := Lib.hid (show OwnB w5 (w.heap.size + 2) B5 (n + 2) c5 (l ++ tieB a b N) from by unfold OwnB; rw [bcells_append]; exact hown5)
        clear hown5 hg5 hcell hsz hlr
        refine hK.out _ _ k35.out (fun _ => ?_); clear hK K
        try simp only [Act.put, List.setIfInBounds_toArray, List.set_cons_zero, List.set_cons_succ]
        refine' wpAnyH_take (i := 16) (oi := { dst := some 25, op := Go.Op.build 24 #[(0, Go.Operand.tmp 10), (1, Go.Operand.tmp 24)], type := 24, pos := "ref.go:187", after := #[{ on := 1, ground := Go.Ground.data }, { on := 15, ground := Go.Ground.data }], guard := none }) (v := _) rfl (by kernel_rfl) (by kernel_rfl) (by kernel_rfl) (fun _ _ _ h => h) (Or.inl ⟨by rfl, ?hyR38⟩) k35.out ?reR38
        case hyR38 => (rintro W' hS0; clear hS0; go_simp; try with_reducible rfl)
        try simp only [Act.put, List.setIfInBounds_toArray, List.set_cons_zero, List.set_cons_succ]
        refine wpAnyH_ready (rs := [17]) (by kernel_rfl) (by simp) ?_
        refine AllReadyH.cons (o := { dst := none, op := Go.Op.store 24 (Go.Operand.tmp 8) (Go.Operand.tmp 25), type := 0, pos := "ref.go:187", after := #[{ on := 16, ground := Go.Ground.data }, { on := 15, ground := Go.Ground.chain }, { on := 0, ground := Go.Ground.phase }, { on := 1, ground := Go.Ground.phase }, { on := 2, ground := Go.Ground.phase }, { on := 3, ground := Go.Ground.phase }, { on := 4, ground := Go.Ground.phase }, { on := 5, ground := Go.Ground.phase }, { on := 6, ground := Go.Ground.phase }, { on := 7, ground := Go.Ground.phase }, { on := 8, ground := Go.Ground.phase }, { on := 9, ground := Go.Ground.phase }, { on := 10, ground := Go.Ground.phase }, { on := 11, ground := Go.Ground.phase }, { on := 12, ground := Go.Ground.phase }, { on := 13, ground := Go.Ground.phase }, { on := 14, ground := Go.Ground.phase }, { on := 15, ground := Go.Ground.phase }, { on := 16, ground := Go.Ground.phase }], guard := none }) rfl (fun K hK => ?_) ?_
        · -- 17: store
          have v0 : w5.cell? ⟨w.heap.size + 1, 0, none⟩ = some (.int .i64 0) := Blk.cell k36.out 0
          have v1 : w5.cell? ⟨w.heap.size + 1, 1, none⟩ = some (.slice none 0 0) := Blk.cell k36.out 1
          have f0 : w5.frozen? ⟨w.heap.size + 1, 0, none⟩ = false := Blk.frozen k36.out 0
          have f1 : w5.frozen? ⟨w.heap.size + 1, 1, none⟩ = false := Blk.frozen k36.out 1
          go_simp
          have k39 := Lib.hid (Blk.far (Blk.far (k35.out) (p := ⟨w.heap.size + 1, 0, none⟩) (by simp) (.int .i64 p)) (p := ⟨w.heap.size + 1, 1, none⟩) (by simp) (.slice B5 (n + 2) c5))
          refine hK.out _ _ k39.out (fun _ => ?_); clear hK K
          try simp only [Act.put, List.setIfInBounds_toArray, List.set_cons_zero, List.set_cons_succ]
          refine wpAnyH_done (by kernel_rfl) ?_ _
          go_wp2
          refine bodyPost_ret (v := .agg #[.int .i64 p, .slice B5 (n + 2) c5]) (by simp [results, Try.results69, go_sem, v0, v1]) rfl ?_
          refine ⟨B5, c5, rfl, ?_, (Below.setCell k37.out (p := ⟨w.heap.size + 1, 0, none⟩) (by simp) _).setCell (p := ⟨w.heap.size + 1, 1, none⟩) (by simp) _⟩
          exact owns_base (ownsRow_setCell_below (ownsRow_setCell_below HO5.out (a := ⟨w.heap.size + 1, 0, none⟩) (by simp) _) (a := ⟨w.heap.size + 1, 1, none⟩) (by simp) _) (by omega)
        exact AllReadyH.nil
      exact AllReadyH.nil
    exact AllReadyH.nil
  refine AllReadyH.cons (o := { dst := some 23, op := Go.Op.buildSlice 22 2 #[(0, Go.Operand.tmp 17), (1, Go.Operand.tmp 22)], type := 22, pos := "ref.go:187", after := #[{ on := 8, ground := Go.Ground.data }, { on := 13, ground := Go.Ground.data }], guard := none }) rfl (fun K hK => ?_) ?_
  · -- 14: buildSlice
    go_simp
    rw [HWR.out]
    have b0_44 := Lib.hid (Blk.alloc (C0.out) (.cells #[.int .i64 a, .int .i64 b, .int .i64 N, .int .i64 0, .int .i64 b, .int .i64 a, .int .i64 (-N), .int .i64 0] 54))
    have br_45 := Lib.hid (Blk.alloc (CR.out) (.cells #[.int .i64 a, .int .i64 b, .int .i64 N, .int .i64 0, .int .i64 b, .int .i64 a, .int .i64 (-N), .int .i64 0] 54))
    have bel_46 := Lib.hid (Below.alloc (HB1.out) ((HB1.out).size) (.cells #[.int .i64 a, .int .i64 b, .int .i64 N, .int .i64 0, .int .i64 b, .int .i64 a, .int .i64 (-N), .int .i64 0] 54))
    have rd_47 := Lib.hid (RdB.alloc (RD1.out) (.cells #[.int .i64 a, .int .i64 b, .int .i64 N, .int .i64 0, .int .i64 b, .int .i64 a, .int .i64 (-N), .int .i64 0] 54))
    have ne48 := Lib.hid (Nat.ne_of_lt (Blk.lt C0.out))
    have ne49 := Lib.hid (Nat.ne_of_lt (Blk.lt CR.out))
    have lb50 := Lib.hid (HB1.out.size)
    have nb_51 := Lib.hid (Blk.new (w1) 54 #[.int .i64 a, .int .i64 b, .int .i64 N, .int .i64 0, .int .i64 b, .int .i64 a, .int .i64 (-N), .int .i64 0])
    obtain ⟨g40, hg41⟩ : ∃ g, g = (w1).heap.size := ⟨_, rfl⟩
    obtain ⟨w42, hw43⟩ : ∃ w', w' = (w1).alloc (.cells #[.int .i64 a, .int .i64 b, .int .i64 N, .int .i64 0, .int .i64 b, .int .i64 a, .int .i64 (-N), .int .i64 0] 54) := ⟨_, rfl⟩
    rw [← hw43] at b0_44 br_45 bel_46 rd_47 nb_51
    rw [← hg41] at ne48 ne49 lb50 nb_51
    rw [← hg41, ← hw43]
    clear hg41 hw43
    refine hK.out _ _ b0_44.out (fun _ => ?_); clear hK K
    try simp only [Act.put, List.setIfInBounds_toArray, List.set_cons_zero, List.set_cons_succ]
    refine wpAnyH_ready (rs := [4]) (by kernel_rfl) (by simp) ?_
    refine AllReadyH.cons (o := { dst := some 13, op := Go.Op.call { callee := Go.Callee.value (Go.Operand.func 63), args := #[Go.Operand.tmp 12], argTypes := #[22] }, type := 22, pos := "ref.go:187", after := #[{ on := 3, ground := Go.Ground.data }], guard := none }) rfl (fun K hK => ?_) ?_
    · -- 4: call
      go_simp
      go_at_call 63
      refine (copied_any A n c l _ rd_47.out (by omega)).mono ?_
      rintro e w52 ⟨Bc, dc, rfl, ho, hb53⟩
      dsimp only
      have HOC := Lib.hid (owns_base ho (Nat.succ_le_of_lt (Blk.lt br_45.out))); clear ho
      have b0_54 := Lib.hid (Blk.keep (b0_44.out) hb53)
      have br_55 := Lib.hid (Blk.keep (br_45.out) hb53)
      have bel_56 := Lib.hid (Below.trans (bel_46.out) (Below.mono hb53 ((bel_46.out).size)))
      have rd_57 := Lib.hid (RdB.below (rd_47.out) hb53)
      have nb_58 := Lib.hid (Blk.keep (nb_51.out) hb53)
      refine hK.out _ _ b0_54.out (fun _ => ?_); clear hK K
      try simp only [Act.put, List.setIfInBounds_toArray, List.set_cons_zero, List.set_cons_succ]
      refine wpAnyH_ready (rs := [15]) (by kernel_rfl) (by simp) ?_
      refine AllReadyH.cons (o := { dst := some 24, op := Go.Op.call { callee := Go.Callee.builtin Go.Builtin.append, args := #[Go.Operand.tmp 13, Go.Operand.tmp 23], argTypes := #[22, 22] }, type := 22, pos := "ref.go:187", after := #[{ on := 4, ground := Go.Ground.data }, { on := 14, ground := Go.Ground.data }, { on := 4, ground := Go.Ground.chain }], guard := none }) rfl (fun K hK => ?_) ?_
      · -- 15: call
        have hcell := cells_add (cs := bcells (tieB a b N)) (show Blk _ _ _ (bcells (tieB a b N)).toArray from nb_58.out)
        have hsz := Nat.succ_le_of_lt (Blk.lt br_55.out)
        have hlr := World.ownsRow.lt HOC.out
        refine wp_append_own _ (.tmp 13) (.tmp 23) 22 rfl (w.heap.size + 2) 54 i0 _ 4 32 Try.underlying22 HI.out HZ0.out HZ1.out HZ2.out rfl (by omega) (.slice Bc n dc) n (bcells l) rfl HOC.out ⟨g40, 0, none⟩ 2 2 (bcells (tieB a b N)) rfl rfl hcell (bcells_one _) (by unfold maxLen; omega) (by omega) hsz ?_
        intro v5 w5 hown5 hg5 _
        obtain ⟨B5, c5, rfl, -⟩ := own_form hown5
        have k59 := Lib.hid (blk_grown b0_54.out hg5 (fun e => by have := (hlr _ e).1; omega))
        have k60 := Lib.hid (blk_grown br_55.out hg5 (fun e => by have := (hlr _ e).1; omega))
        have k61 := Lib.hid (Below.grown bel_56.out hg5 (by omega) (fun q e => by have := (hlr q e).1; omega))
        have HO5 := Lib.hid (show OwnB w5 (w.heap.size + 2) B5 (n + 2) c5 (l ++ tieB a b N) from by unfold OwnB; rw [bcells_append]; exact hown5)
        clear hown5 hg5 hcell hsz hlr
        refine hK.out _ _ k59.out (fun _ => ?_); clear hK K
        try simp only [Act.put, List.setIfInBounds_toArray, List.set_cons_zero, List.set_cons_succ]
        refine' wpAnyH_take (i := 16) (oi := { dst := some 25, op := Go.Op.build 24 #[(0, Go.Operand.tmp 10), (1, Go.Operand.tmp 24)], type := 24, pos := "ref.go:187", after := #[{ on := 1, ground := Go.Ground.data }, { on := 15, ground := Go.Ground.data }], guard := none }) (v := _) rfl (by kernel_rfl) (by kernel_rfl) (by kernel_rfl) (fun _ _ _ h => h) (Or.inl ⟨by rfl, ?hyR62⟩) k59.out ?reR62
        case hyR62 => (rintro W' hS0; clear hS0; go_simp; try with_reducible rfl)
        try simp only [Act.put, List.setIfInBounds_toArray, List.set_cons_zero, List.set_cons_succ]
        refine wpAnyH_ready (rs := [17]) (by kernel_rfl) (by simp) ?_
        refine AllReadyH.cons (o := { dst := none, op := Go.Op.store 24 (Go.Operand.tmp 8) (Go.Operand.tmp 25), type := 0, pos := "ref.go:187", after := #[{ on := 16, ground := Go.Ground.data }, { on := 15, ground := Go.Ground.chain }, { on := 0, ground := Go.Ground.phase }, { on := 1, ground := Go.Ground.phase }, { on := 2, ground := Go.Ground.phase }, { on := 3, ground := Go.Ground.phase }, { on := 4, ground := Go.Ground.phase }, { on := 5, ground := Go.Ground.phase }, { on := 6, ground := Go.Ground.phase }, { on := 7, ground := Go.Ground.phase }, { on := 8, ground := Go.Ground.phase }, { on := 9, ground := Go.Ground.phase }, { on := 10, ground := Go.Ground.phase }, { on := 11, ground := Go.Ground.phase }, { on := 12, ground := Go.Ground.phase }, { on := 13, ground := Go.Ground.phase }, { on := 14, ground := Go.Ground.phase }, { on := 15, ground := Go.Ground.phase }, { on := 16, ground := Go.Ground.phase }], guard := none }) rfl (fun K hK => ?_) ?_
        · -- 17: store
          have v0 : w5.cell? ⟨w.heap.size + 1, 0, none⟩ = some (.int .i64 0) := Blk.cell k60.out 0
          have v1 : w5.cell? ⟨w.heap.size + 1, 1, none⟩ = some (.slice none 0 0) := Blk.cell k60.out 1
          have f0 : w5.frozen? ⟨w.heap.size + 1, 0, none⟩ = false := Blk.frozen k60.out 0
          have f1 : w5.frozen? ⟨w.heap.size + 1, 1, none⟩ = false := Blk.frozen k60.out 1
          go_simp
          have k63 := Lib.hid (Blk.far (Blk.far (k59.out) (p := ⟨w.heap.size + 1, 0, none⟩) (by simp) (.int .i64 p)) (p := ⟨w.heap.size + 1, 1, none⟩) (by simp) (.slice B5 (n + 2) c5))
          refine hK.out _ _ k63.out (fun _ => ?_); clear hK K
          try simp only [Act.put, List.setIfInBounds_toArray, List.set_cons_zero, List.set_cons_succ]
          refine wpAnyH_done (by kernel_rfl) ?_ _
          go_wp2
          refine bodyPost_ret (v := .agg #[.int .i64 p, .slice B5 (n + 2) c5]) (by simp [results, Try.results69, go_sem, v0, v1]) rfl ?_
          refine ⟨B5, c5, rfl, ?_, (Below.setCell k61.out (p := ⟨w.heap.size + 1, 0, none⟩) (by simp) _).setCell (p := ⟨w.heap.size + 1, 1, none⟩) (by simp) _⟩
          exact owns_base (ownsRow_setCell_below (ownsRow_setCell_below HO5.out (a := ⟨w.heap.size + 1, 0, none⟩) (by simp) _) (a := ⟨w.heap.size + 1, 1, none⟩) (by simp) _) (by omega)
        exact AllReadyH.nil
      exact AllReadyH.nil
    exact AllReadyH.nil
  exact AllReadyH.nil
end Go.Proofs.Ythlnialipjihdaa
