/- The reference's tied. -/
import Derived.Test.YthlnialipjihdaaRSolve
import Derived.Test.YthlnialipjihdaaAttain
set_option linter.unusedSimpArgs false
set_option linter.unusedVariables false
namespace Go.Proofs.Ythlnialipjihdaa
open Go.RowKit

theorem blk_rdB {w : World} {g n c : Nat} {L : List Bnd} (h : Blk w g 54 (bcells L).toArray) (hn : L.length = n) (hc : n ≤ c) : RdB w (some ⟨g, 0, none⟩) n c L := by
  refine ⟨hn, hc, (fun h => by cases h), .inr ⟨g, 0, rfl, h.lt, fun j u hu => ?_⟩⟩
  rw [Nat.zero_add, h.cell j]
  simpa using hu
theorem cells_add {w : World} {g : Nat} {t : TypeId} {cs : List Value} (h : Blk w g t cs.toArray) : ∀ j u, cs[j]? = some u → w.cell? ((⟨g, 0, none⟩ : Addr).add j) = some u := fun j u hu => by
  rw [Addr.add_lit, Nat.zero_add, h.cell]
  simpa using hu

set_option maxRecDepth 100000 in
set_option maxHeartbeats 8000000 in
theorem rtied_any (p a b N : Int) (A : Option Addr) (n c : Nat) (l : List Bnd) (w : World) (hr : RdB w A n c l) (hn : n ≤ 1000) (hN : -100000000 ≤ N ∧ N ≤ 100000000) :
    Calls Try.prog 69 #[.agg #[.int .i64 p, .slice A n c], .int .i64 a, .int .i64 b, .int .i64 N] w fun e w' => ∃ B' c', e = .returned (.agg #[.int .i64 p, .slice B' (n + 2) c']) ∧ OwnB w' w.heap.size B' (n + 2) c' (l ++ tieB a b N) ∧ Below w.heap.size w w' := by
  obtain ⟨hN1, hN2⟩ := hN
  have HWR := Lib.hid (wrap_small (x := -N) (by omega) (by omega))
  obtain ⟨i0, hi0, hz0, hz1, hz2⟩ := info_parts infoB
  have HI := Lib.hid hi0; have HZ0 := Lib.hid hz0; have HZ1 := Lib.hid hz1; have HZ2 := Lib.hid hz2; clear hi0 hz0 hz1 hz2
  have hB : Below w.heap.size w ((w.alloc (.cells #[.int .i64 p, .slice A n c] 24)).alloc (.cells #[.int .i64 0, .slice none 0 0] 24)) := ((Below.refl _ w).alloc (Nat.le_refl _) _).alloc (by simp) _
  have b0 := (Blk.new w 24 #[.int .i64 p, .slice A n c]).alloc (.cells #[.int .i64 0, .slice none 0 0] 24)
  have br := Blk.new (w.alloc (.cells #[.int .i64 p, .slice A n c] 24)) 24 #[.int .i64 0, .slice none 0 0]
  simp only [World.size_alloc] at br
  have C0 := Lib.hid b0.drew; have CR := Lib.hid br.drew; have HB1 := Lib.hid hB.drew; have RD1 := Lib.hid (hr.below hB).drew
  clear b0 br hB hr
  go_enter Try.func69, Try.ntmps69
  go_wp2_with fail
  generalize (w.alloc (.cells #[.int .i64 p, .slice A n c] 24)).alloc (.cells #[.int .i64 0, .slice none 0 0] 24) = W0 at *
  refine wp_region_held_drew (S := (fun W' => Blk W' w.heap.size 24 #[.int .i64 p, .slice A n c])) (by kernel_rfl) C0.out (fun _ => ?_)
  obtain ⟨w950, hw951⟩ : ∃ w', w' = W0.drew := ⟨_, rfl⟩
  rw [← hw951] at C0 CR HB1 RD1
  rw [← hw951]
  clear hw951
  refine' wpAnyH_take (i := 0) (oi := { dst := some 9, op := Go.Op.fieldAddr 24 (Go.Operand.tmp 4) 0, type := 0, pos := "ref.go:187", after := #[], guard := none }) (v := _) rfl (by kernel_rfl) (by kernel_rfl) (by kernel_rfl) (fun _ _ _ h => h) (Or.inl ⟨by rfl, ?hyR952⟩) C0.out ?reR952
  case hyR952 => (rintro W' hS0; clear hS0; go_simp; try with_reducible rfl)
  try simp only [Act.put, List.setIfInBounds_toArray, List.set_cons_zero, List.set_cons_succ]
  refine' wpAnyH_take (i := 1) (oi := { dst := some 10, op := Go.Op.load 3 (Go.Operand.tmp 9), type := 3, pos := "ref.go:187", after := #[{ on := 0, ground := Go.Ground.data }], guard := none }) (v := _) rfl (by kernel_rfl) (by kernel_rfl) (by kernel_rfl) (fun _ _ _ h => h) (Or.inl ⟨by rfl, ?hyR953⟩) C0.out ?reR953
  case hyR953 => (rintro W' hS0; have hc0 : W'.cell? ⟨w.heap.size, 0, none⟩ = some (.int .i64 p) := Blk.cell hS0 0; clear hS0; go_simp; try with_reducible rfl)
  try simp only [Act.put, List.setIfInBounds_toArray, List.set_cons_zero, List.set_cons_succ]
  refine' wpAnyH_take (i := 2) (oi := { dst := some 11, op := Go.Op.fieldAddr 24 (Go.Operand.tmp 4) 1, type := 0, pos := "ref.go:187", after := #[], guard := none }) (v := _) rfl (by kernel_rfl) (by kernel_rfl) (by kernel_rfl) (fun _ _ _ h => h) (Or.inl ⟨by rfl, ?hyR954⟩) C0.out ?reR954
  case hyR954 => (rintro W' hS0; clear hS0; go_simp; try with_reducible rfl)
  try simp only [Act.put, List.setIfInBounds_toArray, List.set_cons_zero, List.set_cons_succ]
  refine' wpAnyH_take (i := 3) (oi := { dst := some 12, op := Go.Op.load 22 (Go.Operand.tmp 11), type := 22, pos := "ref.go:187", after := #[{ on := 2, ground := Go.Ground.data }], guard := none }) (v := _) rfl (by kernel_rfl) (by kernel_rfl) (by kernel_rfl) (fun _ _ _ h => h) (Or.inl ⟨by rfl, ?hyR955⟩) C0.out ?reR955
  case hyR955 => (rintro W' hS0; have hc0 : W'.cell? ⟨w.heap.size, 1, none⟩ = some (.slice A n c) := Blk.cell hS0 1; clear hS0; go_simp; try with_reducible rfl)
  try simp only [Act.put, List.setIfInBounds_toArray, List.set_cons_zero, List.set_cons_succ]
  refine' wpAnyH_take (i := 5) (oi := { dst := some 14, op := Go.Op.move (Go.Operand.tmp 1), type := 3, pos := "ref.go:187", after := #[], guard := none }) (v := _) rfl (by kernel_rfl) (by kernel_rfl) (by kernel_rfl) (fun _ _ _ h => h) (Or.inl ⟨by rfl, ?hyR956⟩) C0.out ?reR956
  case hyR956 => (rintro W' hS0; clear hS0; go_simp; try with_reducible rfl)
  try simp only [Act.put, List.setIfInBounds_toArray, List.set_cons_zero, List.set_cons_succ]
  refine' wpAnyH_take (i := 6) (oi := { dst := some 15, op := Go.Op.move (Go.Operand.tmp 2), type := 3, pos := "ref.go:187", after := #[], guard := none }) (v := _) rfl (by kernel_rfl) (by kernel_rfl) (by kernel_rfl) (fun _ _ _ h => h) (Or.inl ⟨by rfl, ?hyR957⟩) C0.out ?reR957
  case hyR957 => (rintro W' hS0; clear hS0; go_simp; try with_reducible rfl)
  try simp only [Act.put, List.setIfInBounds_toArray, List.set_cons_zero, List.set_cons_succ]
  refine' wpAnyH_take (i := 7) (oi := { dst := some 16, op := Go.Op.move (Go.Operand.tmp 3), type := 3, pos := "ref.go:187", after := #[], guard := none }) (v := _) rfl (by kernel_rfl) (by kernel_rfl) (by kernel_rfl) (fun _ _ _ h => h) (Or.inl ⟨by rfl, ?hyR958⟩) C0.out ?reR958
  case hyR958 => (rintro W' hS0; clear hS0; go_simp; try with_reducible rfl)
  try simp only [Act.put, List.setIfInBounds_toArray, List.set_cons_zero, List.set_cons_succ]
  refine' wpAnyH_take (i := 8) (oi := { dst := some 17, op := Go.Op.build 54 #[(0, Go.Operand.tmp 14), (1, Go.Operand.tmp 15), (2, Go.Operand.tmp 16)], type := 54, pos := "ref.go:187", after := #[{ on := 5, ground := Go.Ground.data }, { on := 6, ground := Go.Ground.data }, { on := 7, ground := Go.Ground.data }], guard := none }) (v := _) rfl (by kernel_rfl) (by kernel_rfl) (by kernel_rfl) (fun _ _ _ h => h) (Or.inl ⟨by rfl, ?hyR959⟩) C0.out ?reR959
  case hyR959 => (rintro W' hS0; clear hS0; go_simp; try with_reducible rfl)
  try simp only [Act.put, List.setIfInBounds_toArray, List.set_cons_zero, List.set_cons_succ]
  refine' wpAnyH_take (i := 9) (oi := { dst := some 18, op := Go.Op.move (Go.Operand.tmp 2), type := 3, pos := "ref.go:187", after := #[], guard := none }) (v := _) rfl (by kernel_rfl) (by kernel_rfl) (by kernel_rfl) (fun _ _ _ h => h) (Or.inl ⟨by rfl, ?hyR960⟩) C0.out ?reR960
  case hyR960 => (rintro W' hS0; clear hS0; go_simp; try with_reducible rfl)
  try simp only [Act.put, List.setIfInBounds_toArray, List.set_cons_zero, List.set_cons_succ]
  refine' wpAnyH_take (i := 10) (oi := { dst := some 19, op := Go.Op.move (Go.Operand.tmp 1), type := 3, pos := "ref.go:187", after := #[], guard := none }) (v := _) rfl (by kernel_rfl) (by kernel_rfl) (by kernel_rfl) (fun _ _ _ h => h) (Or.inl ⟨by rfl, ?hyR961⟩) C0.out ?reR961
  case hyR961 => (rintro W' hS0; clear hS0; go_simp; try with_reducible rfl)
  try simp only [Act.put, List.setIfInBounds_toArray, List.set_cons_zero, List.set_cons_succ]
  refine' wpAnyH_take (i := 11) (oi := { dst := some 20, op := Go.Op.move (Go.Operand.tmp 3), type := 3, pos := "ref.go:187", after := #[], guard := none }) (v := _) rfl (by kernel_rfl) (by kernel_rfl) (by kernel_rfl) (fun _ _ _ h => h) (Or.inl ⟨by rfl, ?hyR962⟩) C0.out ?reR962
  case hyR962 => (rintro W' hS0; clear hS0; go_simp; try with_reducible rfl)
  try simp only [Act.put, List.setIfInBounds_toArray, List.set_cons_zero, List.set_cons_succ]
  refine' wpAnyH_take (i := 12) (oi := { dst := some 21, op := Go.Op.unOp Go.UnOp.neg 3 (Go.Operand.tmp 20), type := 3, pos := "ref.go:187", after := #[{ on := 11, ground := Go.Ground.data }], guard := none }) (v := _) rfl (by kernel_rfl) (by kernel_rfl) (by kernel_rfl) (fun _ _ _ h => h) (Or.inl ⟨by rfl, ?hyR963⟩) C0.out ?reR963
  case hyR963 => (rintro W' hS0; clear hS0; go_simp; try with_reducible rfl)
  try simp only [Act.put, List.setIfInBounds_toArray, List.set_cons_zero, List.set_cons_succ]
  refine' wpAnyH_take (i := 13) (oi := { dst := some 22, op := Go.Op.build 54 #[(0, Go.Operand.tmp 18), (1, Go.Operand.tmp 19), (2, Go.Operand.tmp 21)], type := 54, pos := "ref.go:187", after := #[{ on := 9, ground := Go.Ground.data }, { on := 10, ground := Go.Ground.data }, { on := 12, ground := Go.Ground.data }], guard := none }) (v := _) rfl (by kernel_rfl) (by kernel_rfl) (by kernel_rfl) (fun _ _ _ h => h) (Or.inl ⟨by rfl, ?hyR964⟩) C0.out ?reR964
  case hyR964 => (rintro W' hS0; clear hS0; go_simp; try with_reducible rfl)
  try simp only [Act.put, List.setIfInBounds_toArray, List.set_cons_zero, List.set_cons_succ]
  refine wpAnyH_ready (rs := [4, 14]) (by kernel_rfl) (by simp) ?_
  refine AllReadyH.cons (o := { dst := some 13, op := Go.Op.call { callee := Go.Callee.value (Go.Operand.func 63), args := #[Go.Operand.tmp 12], argTypes := #[22] }, type := 22, pos := "ref.go:187", after := #[{ on := 3, ground := Go.Ground.data }], guard := none }) rfl (fun K hK => ?_) ?_
  · -- 4: call
    go_simp
    go_at_call 63
    refine (copied_any A n c l _ RD1.out (by omega)).mono ?_
    rintro e w965 ⟨Bc, dc, rfl, ho, hb966⟩
    dsimp only
    have HOC := Lib.hid (owns_base ho (Nat.succ_le_of_lt (Blk.lt CR.out))); clear ho
    have b0_967 := Lib.hid (Blk.keep (C0.out) hb966)
    have br_968 := Lib.hid (Blk.keep (CR.out) hb966)
    have bel_969 := Lib.hid (Below.trans (HB1.out) (Below.mono hb966 ((HB1.out).size)))
    have rd_970 := Lib.hid (RdB.below (RD1.out) hb966)
    refine hK.out _ _ b0_967.out (fun _ => ?_); clear hK K
    try simp only [Act.put, List.setIfInBounds_toArray, List.set_cons_zero, List.set_cons_succ]
    refine wpAnyH_ready (rs := [14]) (by kernel_rfl) (by simp) ?_
    refine AllReadyH.cons (o := { dst := some 23, op := Go.Op.buildSlice 22 2 #[(0, Go.Operand.tmp 17), (1, Go.Operand.tmp 22)], type := 22, pos := "ref.go:187", after := #[{ on := 8, ground := Go.Ground.data }, { on := 13, ground := Go.Ground.data }], guard := none }) rfl (fun K hK => ?_) ?_
    · -- 14: buildSlice
      go_simp
      rw [HWR.out]
      have b0_975 := Lib.hid (Blk.alloc (b0_967.out) (.cells #[.int .i64 a, .int .i64 b, .int .i64 N, .int .i64 0, .int .i64 b, .int .i64 a, .int .i64 (-N), .int .i64 0] 54))
      have br_976 := Lib.hid (Blk.alloc (br_968.out) (.cells #[.int .i64 a, .int .i64 b, .int .i64 N, .int .i64 0, .int .i64 b, .int .i64 a, .int .i64 (-N), .int .i64 0] 54))
      have bel_977 := Lib.hid (Below.alloc (bel_969.out) ((bel_969.out).size) (.cells #[.int .i64 a, .int .i64 b, .int .i64 N, .int .i64 0, .int .i64 b, .int .i64 a, .int .i64 (-N), .int .i64 0] 54))
      have rd_978 := Lib.hid (RdB.alloc (rd_970.out) (.cells #[.int .i64 a, .int .i64 b, .int .i64 N, .int .i64 0, .int .i64 b, .int .i64 a, .int .i64 (-N), .int .i64 0] 54))
      have cp_979 := Lib.hid (World.ownsRow.alloc (HOC.out) (.cells #[.int .i64 a, .int .i64 b, .int .i64 N, .int .i64 0, .int .i64 b, .int .i64 a, .int .i64 (-N), .int .i64 0] 54))
      have ne980 := Lib.hid (Nat.ne_of_lt (Blk.lt b0_967.out))
      have ne981 := Lib.hid (Nat.ne_of_lt (Blk.lt br_968.out))
      have lb982 := Lib.hid (bel_969.out.size)
      have nb_983 := Lib.hid (Blk.new (w965) 54 #[.int .i64 a, .int .i64 b, .int .i64 N, .int .i64 0, .int .i64 b, .int .i64 a, .int .i64 (-N), .int .i64 0])
      obtain ⟨g971, hg972⟩ : ∃ g, g = (w965).heap.size := ⟨_, rfl⟩
      obtain ⟨w973, hw974⟩ : ∃ w', w' = (w965).alloc (.cells #[.int .i64 a, .int .i64 b, .int .i64 N, .int .i64 0, .int .i64 b, .int .i64 a, .int .i64 (-N), .int .i64 0] 54) := ⟨_, rfl⟩
      rw [← hw974] at b0_975 br_976 bel_977 rd_978 cp_979 nb_983
      rw [← hg972] at ne980 ne981 lb982 nb_983
      rw [← hg972, ← hw974]
      clear hg972 hw974
      refine hK.out _ _ b0_975.out (fun _ => ?_); clear hK K
      try simp only [Act.put, List.setIfInBounds_toArray, List.set_cons_zero, List.set_cons_succ]
      refine wpAnyH_ready (rs := [15]) (by kernel_rfl) (by simp) ?_
      refine AllReadyH.cons (o := { dst := some 24, op := Go.Op.call { callee := Go.Callee.builtin Go.Builtin.append, args := #[Go.Operand.tmp 13, Go.Operand.tmp 23], argTypes := #[22, 22] }, type := 22, pos := "ref.go:187", after := #[{ on := 4, ground := Go.Ground.data }, { on := 14, ground := Go.Ground.data }, { on := 4, ground := Go.Ground.chain }], guard := none }) rfl (fun K hK => ?_) ?_
      · -- 15: call
        have hcell := cells_add (cs := bcells (tieB a b N)) (show Blk _ _ _ (bcells (tieB a b N)).toArray from nb_983.out)
        have hsz := Nat.succ_le_of_lt (Blk.lt br_976.out)
        have hlr := World.ownsRow.lt cp_979.out
        refine wp_append_own _ (.tmp 13) (.tmp 23) 22 rfl (w.heap.size + 2) 54 i0 _ 4 32 Try.underlying22 HI.out HZ0.out HZ1.out HZ2.out rfl (by omega) (.slice Bc n dc) n (bcells l) rfl cp_979.out ⟨g971, 0, none⟩ 2 2 (bcells (tieB a b N)) rfl rfl hcell (bcells_one _) (by unfold maxLen; omega) (by omega) hsz ?_
        intro v5 w5 hown5 hg5 _
        obtain ⟨B5, c5, rfl, -⟩ := own_form hown5
        have k984 := Lib.hid (blk_grown b0_975.out hg5 (fun e => by have := (hlr _ e).1; omega))
        have k985 := Lib.hid (blk_grown br_976.out hg5 (fun e => by have := (hlr _ e).1; omega))
        have k986 := Lib.hid (Below.grown bel_977.out hg5 (by omega) (fun q e => by have := (hlr q e).1; omega))
        have HO5 := Lib.hid (show OwnB w5 (w.heap.size + 2) B5 (n + 2) c5 (l ++ tieB a b N) from by unfold OwnB; rw [bcells_append]; exact hown5)
        clear hown5 hg5 hcell hsz hlr
        refine hK.out _ _ k984.out (fun _ => ?_); clear hK K
        try simp only [Act.put, List.setIfInBounds_toArray, List.set_cons_zero, List.set_cons_succ]
        refine' wpAnyH_take (i := 16) (oi := { dst := some 25, op := Go.Op.build 24 #[(0, Go.Operand.tmp 10), (1, Go.Operand.tmp 24)], type := 24, pos := "ref.go:187", after := #[{ on := 1, ground := Go.Ground.data }, { on := 15, ground := Go.Ground.data }], guard := none }) (v := _) rfl (by kernel_rfl) (by kernel_rfl) (by kernel_rfl) (fun _ _ _ h => h) (Or.inl ⟨by rfl, ?hyR987⟩) k984.out ?reR987
        case hyR987 => (rintro W' hS0; clear hS0; go_simp; try with_reducible rfl)
        try simp only [Act.put, List.setIfInBounds_toArray, List.set_cons_zero, List.set_cons_succ]
        refine wpAnyH_ready (rs := [17]) (by kernel_rfl) (by simp) ?_
        refine AllReadyH.cons (o := { dst := none, op := Go.Op.store 24 (Go.Operand.tmp 8) (Go.Operand.tmp 25), type := 0, pos := "ref.go:187", after := #[{ on := 16, ground := Go.Ground.data }, { on := 15, ground := Go.Ground.chain }, { on := 0, ground := Go.Ground.phase }, { on := 1, ground := Go.Ground.phase }, { on := 2, ground := Go.Ground.phase }, { on := 3, ground := Go.Ground.phase }, { on := 4, ground := Go.Ground.phase }, { on := 5, ground := Go.Ground.phase }, { on := 6, ground := Go.Ground.phase }, { on := 7, ground := Go.Ground.phase }, { on := 8, ground := Go.Ground.phase }, { on := 9, ground := Go.Ground.phase }, { on := 10, ground := Go.Ground.phase }, { on := 11, ground := Go.Ground.phase }, { on := 12, ground := Go.Ground.phase }, { on := 13, ground := Go.Ground.phase }, { on := 14, ground := Go.Ground.phase }, { on := 15, ground := Go.Ground.phase }, { on := 16, ground := Go.Ground.phase }], guard := none }) rfl (fun K hK => ?_) ?_
        · -- 17: store
          have v0 : w5.cell? ⟨w.heap.size + 1, 0, none⟩ = some (.int .i64 0) := Blk.cell k985.out 0
          have v1 : w5.cell? ⟨w.heap.size + 1, 1, none⟩ = some (.slice none 0 0) := Blk.cell k985.out 1
          have f0 : w5.frozen? ⟨w.heap.size + 1, 0, none⟩ = false := Blk.frozen k985.out 0
          have f1 : w5.frozen? ⟨w.heap.size + 1, 1, none⟩ = false := Blk.frozen k985.out 1
          go_simp
          have k988 := Lib.hid (Blk.far (Blk.far (k984.out) (p := ⟨w.heap.size + 1, 0, none⟩) (by simp) (.int .i64 p)) (p := ⟨w.heap.size + 1, 1, none⟩) (by simp) (.slice B5 (n + 2) c5))
          refine hK.out _ _ k988.out (fun _ => ?_); clear hK K
          try simp only [Act.put, List.setIfInBounds_toArray, List.set_cons_zero, List.set_cons_succ]
          refine wpAnyH_done (by kernel_rfl) ?_ _
          go_wp2
          refine bodyPost_ret (v := .agg #[.int .i64 p, .slice B5 (n + 2) c5]) (by simp [results, Try.results69, go_sem, v0, v1]) rfl ?_
          refine ⟨B5, c5, rfl, ?_, (Below.setCell k986.out (p := ⟨w.heap.size + 1, 0, none⟩) (by simp) _).setCell (p := ⟨w.heap.size + 1, 1, none⟩) (by simp) _⟩
          exact owns_base (ownsRow_setCell_below (ownsRow_setCell_below HO5.out (a := ⟨w.heap.size + 1, 0, none⟩) (by simp) _) (a := ⟨w.heap.size + 1, 1, none⟩) (by simp) _) (by omega)
        exact AllReadyH.nil
      exact AllReadyH.nil
    exact AllReadyH.nil
  refine AllReadyH.cons (o := { dst := some 23, op := Go.Op.buildSlice 22 2 #[(0, Go.Operand.tmp 17), (1, Go.Operand.tmp 22)], type := 22, pos := "ref.go:187", after := #[{ on := 8, ground := Go.Ground.data }, { on := 13, ground := Go.Ground.data }], guard := none }) rfl (fun K hK => ?_) ?_
  · -- 14: buildSlice
    go_simp
    rw [HWR.out]
    have b0_993 := Lib.hid (Blk.alloc (C0.out) (.cells #[.int .i64 a, .int .i64 b, .int .i64 N, .int .i64 0, .int .i64 b, .int .i64 a, .int .i64 (-N), .int .i64 0] 54))
    have br_994 := Lib.hid (Blk.alloc (CR.out) (.cells #[.int .i64 a, .int .i64 b, .int .i64 N, .int .i64 0, .int .i64 b, .int .i64 a, .int .i64 (-N), .int .i64 0] 54))
    have bel_995 := Lib.hid (Below.alloc (HB1.out) ((HB1.out).size) (.cells #[.int .i64 a, .int .i64 b, .int .i64 N, .int .i64 0, .int .i64 b, .int .i64 a, .int .i64 (-N), .int .i64 0] 54))
    have rd_996 := Lib.hid (RdB.alloc (RD1.out) (.cells #[.int .i64 a, .int .i64 b, .int .i64 N, .int .i64 0, .int .i64 b, .int .i64 a, .int .i64 (-N), .int .i64 0] 54))
    have ne997 := Lib.hid (Nat.ne_of_lt (Blk.lt C0.out))
    have ne998 := Lib.hid (Nat.ne_of_lt (Blk.lt CR.out))
    have lb999 := Lib.hid (HB1.out.size)
    have nb_1000 := Lib.hid (Blk.new (w950) 54 #[.int .i64 a, .int .i64 b, .int .i64 N, .int .i64 0, .int .i64 b, .int .i64 a, .int .i64 (-N), .int .i64 0])
    obtain ⟨g989, hg990⟩ : ∃ g, g = (w950).heap.size := ⟨_, rfl⟩
    obtain ⟨w991, hw992⟩ : ∃ w', w' = (w950).alloc (.cells #[.int .i64 a, .int .i64 b, .int .i64 N, .int .i64 0, .int .i64 b, .int .i64 a, .int .i64 (-N), .int .i64 0] 54) := ⟨_, rfl⟩
    rw [← hw992] at b0_993 br_994 bel_995 rd_996 nb_1000
    rw [← hg990] at ne997 ne998 lb999 nb_1000
    rw [← hg990, ← hw992]
    clear hg990 hw992
    refine hK.out _ _ b0_993.out (fun _ => ?_); clear hK K
    try simp only [Act.put, List.setIfInBounds_toArray, List.set_cons_zero, List.set_cons_succ]
    refine wpAnyH_ready (rs := [4]) (by kernel_rfl) (by simp) ?_
    refine AllReadyH.cons (o := { dst := some 13, op := Go.Op.call { callee := Go.Callee.value (Go.Operand.func 63), args := #[Go.Operand.tmp 12], argTypes := #[22] }, type := 22, pos := "ref.go:187", after := #[{ on := 3, ground := Go.Ground.data }], guard := none }) rfl (fun K hK => ?_) ?_
    · -- 4: call
      go_simp
      go_at_call 63
      refine (copied_any A n c l _ rd_996.out (by omega)).mono ?_
      rintro e w1001 ⟨Bc, dc, rfl, ho, hb1002⟩
      dsimp only
      have HOC := Lib.hid (owns_base ho (Nat.succ_le_of_lt (Blk.lt br_994.out))); clear ho
      have b0_1003 := Lib.hid (Blk.keep (b0_993.out) hb1002)
      have br_1004 := Lib.hid (Blk.keep (br_994.out) hb1002)
      have bel_1005 := Lib.hid (Below.trans (bel_995.out) (Below.mono hb1002 ((bel_995.out).size)))
      have rd_1006 := Lib.hid (RdB.below (rd_996.out) hb1002)
      have nb_1007 := Lib.hid (Blk.keep (nb_1000.out) hb1002)
      refine hK.out _ _ b0_1003.out (fun _ => ?_); clear hK K
      try simp only [Act.put, List.setIfInBounds_toArray, List.set_cons_zero, List.set_cons_succ]
      refine wpAnyH_ready (rs := [15]) (by kernel_rfl) (by simp) ?_
      refine AllReadyH.cons (o := { dst := some 24, op := Go.Op.call { callee := Go.Callee.builtin Go.Builtin.append, args := #[Go.Operand.tmp 13, Go.Operand.tmp 23], argTypes := #[22, 22] }, type := 22, pos := "ref.go:187", after := #[{ on := 4, ground := Go.Ground.data }, { on := 14, ground := Go.Ground.data }, { on := 4, ground := Go.Ground.chain }], guard := none }) rfl (fun K hK => ?_) ?_
      · -- 15: call
        have hcell := cells_add (cs := bcells (tieB a b N)) (show Blk _ _ _ (bcells (tieB a b N)).toArray from nb_1007.out)
        have hsz := Nat.succ_le_of_lt (Blk.lt br_1004.out)
        have hlr := World.ownsRow.lt HOC.out
        refine wp_append_own _ (.tmp 13) (.tmp 23) 22 rfl (w.heap.size + 2) 54 i0 _ 4 32 Try.underlying22 HI.out HZ0.out HZ1.out HZ2.out rfl (by omega) (.slice Bc n dc) n (bcells l) rfl HOC.out ⟨g989, 0, none⟩ 2 2 (bcells (tieB a b N)) rfl rfl hcell (bcells_one _) (by unfold maxLen; omega) (by omega) hsz ?_
        intro v5 w5 hown5 hg5 _
        obtain ⟨B5, c5, rfl, -⟩ := own_form hown5
        have k1008 := Lib.hid (blk_grown b0_1003.out hg5 (fun e => by have := (hlr _ e).1; omega))
        have k1009 := Lib.hid (blk_grown br_1004.out hg5 (fun e => by have := (hlr _ e).1; omega))
        have k1010 := Lib.hid (Below.grown bel_1005.out hg5 (by omega) (fun q e => by have := (hlr q e).1; omega))
        have HO5 := Lib.hid (show OwnB w5 (w.heap.size + 2) B5 (n + 2) c5 (l ++ tieB a b N) from by unfold OwnB; rw [bcells_append]; exact hown5)
        clear hown5 hg5 hcell hsz hlr
        refine hK.out _ _ k1008.out (fun _ => ?_); clear hK K
        try simp only [Act.put, List.setIfInBounds_toArray, List.set_cons_zero, List.set_cons_succ]
        refine' wpAnyH_take (i := 16) (oi := { dst := some 25, op := Go.Op.build 24 #[(0, Go.Operand.tmp 10), (1, Go.Operand.tmp 24)], type := 24, pos := "ref.go:187", after := #[{ on := 1, ground := Go.Ground.data }, { on := 15, ground := Go.Ground.data }], guard := none }) (v := _) rfl (by kernel_rfl) (by kernel_rfl) (by kernel_rfl) (fun _ _ _ h => h) (Or.inl ⟨by rfl, ?hyR1011⟩) k1008.out ?reR1011
        case hyR1011 => (rintro W' hS0; clear hS0; go_simp; try with_reducible rfl)
        try simp only [Act.put, List.setIfInBounds_toArray, List.set_cons_zero, List.set_cons_succ]
        refine wpAnyH_ready (rs := [17]) (by kernel_rfl) (by simp) ?_
        refine AllReadyH.cons (o := { dst := none, op := Go.Op.store 24 (Go.Operand.tmp 8) (Go.Operand.tmp 25), type := 0, pos := "ref.go:187", after := #[{ on := 16, ground := Go.Ground.data }, { on := 15, ground := Go.Ground.chain }, { on := 0, ground := Go.Ground.phase }, { on := 1, ground := Go.Ground.phase }, { on := 2, ground := Go.Ground.phase }, { on := 3, ground := Go.Ground.phase }, { on := 4, ground := Go.Ground.phase }, { on := 5, ground := Go.Ground.phase }, { on := 6, ground := Go.Ground.phase }, { on := 7, ground := Go.Ground.phase }, { on := 8, ground := Go.Ground.phase }, { on := 9, ground := Go.Ground.phase }, { on := 10, ground := Go.Ground.phase }, { on := 11, ground := Go.Ground.phase }, { on := 12, ground := Go.Ground.phase }, { on := 13, ground := Go.Ground.phase }, { on := 14, ground := Go.Ground.phase }, { on := 15, ground := Go.Ground.phase }, { on := 16, ground := Go.Ground.phase }], guard := none }) rfl (fun K hK => ?_) ?_
        · -- 17: store
          have v0 : w5.cell? ⟨w.heap.size + 1, 0, none⟩ = some (.int .i64 0) := Blk.cell k1009.out 0
          have v1 : w5.cell? ⟨w.heap.size + 1, 1, none⟩ = some (.slice none 0 0) := Blk.cell k1009.out 1
          have f0 : w5.frozen? ⟨w.heap.size + 1, 0, none⟩ = false := Blk.frozen k1009.out 0
          have f1 : w5.frozen? ⟨w.heap.size + 1, 1, none⟩ = false := Blk.frozen k1009.out 1
          go_simp
          have k1012 := Lib.hid (Blk.far (Blk.far (k1008.out) (p := ⟨w.heap.size + 1, 0, none⟩) (by simp) (.int .i64 p)) (p := ⟨w.heap.size + 1, 1, none⟩) (by simp) (.slice B5 (n + 2) c5))
          refine hK.out _ _ k1012.out (fun _ => ?_); clear hK K
          try simp only [Act.put, List.setIfInBounds_toArray, List.set_cons_zero, List.set_cons_succ]
          refine wpAnyH_done (by kernel_rfl) ?_ _
          go_wp2
          refine bodyPost_ret (v := .agg #[.int .i64 p, .slice B5 (n + 2) c5]) (by simp [results, Try.results69, go_sem, v0, v1]) rfl ?_
          refine ⟨B5, c5, rfl, ?_, (Below.setCell k1010.out (p := ⟨w.heap.size + 1, 0, none⟩) (by simp) _).setCell (p := ⟨w.heap.size + 1, 1, none⟩) (by simp) _⟩
          exact owns_base (ownsRow_setCell_below (ownsRow_setCell_below HO5.out (a := ⟨w.heap.size + 1, 0, none⟩) (by simp) _) (a := ⟨w.heap.size + 1, 1, none⟩) (by simp) _) (by omega)
        exact AllReadyH.nil
      exact AllReadyH.nil
    exact AllReadyH.nil
  exact AllReadyH.nil
end Go.Proofs.Ythlnialipjihdaa
