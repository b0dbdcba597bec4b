/- The reference's less and with: a list without an element, an ascending list with one. -/
import Derived.Test.YthlnialipjihdaaSums
import Derived.Test.YthlnialipjihdaaIdz
import Derived.Deep.AppendSrc
set_option linter.unusedSimpArgs false
set_option linter.unusedVariables false
namespace Go.Proofs.Ythlnialipjihdaa
open Go.RowKit

theorem wp_slice {P : Program} {w : World} {o : Oper} {a : Act} {K : Act → World → Prop} {Q : Exit → Act → World → Prop} (t : TypeId) (x : Operand) (lo hi mx : Option Operand) (ho : o.op = .slice t x lo hi mx) (v : Value)
    (hrun : (Instr.sliceAt t (a.eval x) (lo.map a.eval) (hi.map a.eval) (mx.map a.eval)).run P w = .ok v w) (h : K (a.put o.dst v) w) : o.wp P a w K Q := by
  unfold Oper.wp execOp
  simp only [ho, Sem.run_bind, hrun, Result.andThen_ok]
  exact h

theorem exec_slice {P : Program} {r : Operand → Value} {o : Oper} {w : World} (t : TypeId) (x : Operand) (lo hi mx : Option Operand) (ho : o.op = .slice t x lo hi mx) (v : Value)
    (hrun : (Instr.sliceAt t (r x) (lo.map r) (hi.map r) (mx.map r)).run P w = .ok v w) : (execOp r o).run P w = .ok (.value v) w := by
  unfold execOp
  simp only [ho, Sem.run_bind, hrun, Result.andThen_ok]
  rfl
theorem ret_slice {B : Option Addr} {m m' c : Nat} (h : m = m') : Ending.returned (.slice B m c) = .returned (.slice B m' c) := by rw [h]

set_option maxRecDepth 100000 in
theorem head_slice (b o n c i : Nat) (hi : i ≤ c) (w : World) : (Instr.sliceAt 33 (.slice (some ⟨b, o, none⟩) n c) none (some (.int .i64 (i : Int))) none).run Try.prog w = .ok (.slice (some ⟨b, o, none⟩) i c) w := by
  have he : Try.prog.elem 33 = 3 := by kernel_rfl
  have hu : Try.prog.underlying 33 = some (.slice (Try.prog.elem 33)) := by rw [he]; exact Try.underlying33
  have hs : ∀ w, (sizeOf (Try.prog.elem 33)).run Try.prog w = .ok 1 w := fun w => by rw [he]; kernel_rfl
  rw [run_sliceAt_slice (h := hu), run_slice_h _ _ _ _ _ hu .i64 (i : Int) (by omega) (by omega), hs]
  simp [Result.andThen_ok, sliced, add_flat]
set_option maxRecDepth 100000 in
theorem tail_slice (b o n c i : Nat) (hi : i ≤ n) (w : World) : (Instr.sliceAt 33 (.slice (some ⟨b, o, none⟩) n c) (some (.int .i64 (i : Int))) none none).run Try.prog w = .ok (.slice (some ⟨b, if c = i then o else o + i, none⟩) (n - i) (c - i)) w := by
  have he : Try.prog.elem 33 = 3 := by kernel_rfl
  have hu : Try.prog.underlying 33 = some (.slice (Try.prog.elem 33)) := by rw [he]; exact Try.underlying33
  have hs : ∀ w, (sizeOf (Try.prog.elem 33)).run Try.prog w = .ok 1 w := fun w => by rw [he]; kernel_rfl
  rw [run_sliceAt_slice (h := hu), run_slice_l _ _ _ _ _ hu .i64 (i : Int) (by omega) (by omega), hs]
  simp only [Result.andThen_ok, sliced, Int.toNat_natCast, Nat.mul_one]
  by_cases hc : c = i
  · rw [if_pos hc, if_pos hc]
  · rw [if_neg hc, if_neg hc, Option.map_some, add_flat]
theorem head_cells {w : World} {b o n c : Nat} {L : List Int} (h : RdI w (some ⟨b, o, none⟩) n c L) (i : Nat) : ∀ j u, ((L.take i).map (Value.int .i64))[j]? = some u → w.cell? ((⟨b, o, none⟩ : Addr).add j) = some u := fun j u hu => by
  rw [add_flat]
  rw [List.getElem?_map, List.getElem?_take] at hu
  split at hu
  · obtain ⟨x, hx, rfl⟩ := Option.map_eq_some_iff.1 hu
    exact (rdI_at h hx).1
  · cases hu
theorem tail_cells {w : World} {b o n c : Nat} {L : List Int} (h : RdI w (some ⟨b, o, none⟩) n c L) (i : Nat) : ∀ j u, ((L.drop i).map (Value.int .i64))[j]? = some u → w.cell? ((⟨b, if c = i then o else o + i, none⟩ : Addr).add j) = some u := fun j u hu => by
  rw [add_flat]
  rw [List.getElem?_map, List.getElem?_drop] at hu
  obtain ⟨x, hx, rfl⟩ := Option.map_eq_some_iff.1 hu
  have hj := (List.getElem?_eq_some_iff.1 hx).1
  have := h.len
  have := h.cap
  rw [if_neg (by omega), Nat.add_assoc]
  exact (rdI_at h hx).1

set_option maxRecDepth 100000 in
set_option maxHeartbeats 4000000 in
theorem less_any (A : Option Addr) (n c i : Nat) (L : List Int) (w : World) (hr : RdI w A n c L) (hi : i < n) (hn : n ≤ 1000) :
    Calls Try.prog 92 #[.slice A n c, .int .i64 (i : Int)] w fun e w' => ∃ B d, e = .returned (.slice B (n - 1) d) ∧ OwnI w' w.heap.size B (n - 1) d (L.eraseIdx i) ∧ Below w.heap.size w w' := by
  have hln := hr.len
  have hcp := hr.cap
  obtain ⟨b, o, rfl⟩ := rdI_some hr (List.getElem?_eq_getElem (show i < L.length by omega))
  obtain ⟨i0, hi0, hz0, hz1, hz2⟩ := info_parts infoI
  have HI := Lib.hid hi0; have HZ0 := Lib.hid hz0; have HZ1 := Lib.hid hz1; have HZ2 := Lib.hid hz2; clear hi0 hz0 hz1 hz2
  have HS3 := Lib.hid (head_slice b o n c i (by omega))
  have hs8 := tail_slice b o n c (i + 1) (by omega)
  have htc := fun w' (h : RdI w' (some ⟨b, o, none⟩) n c L) => tail_cells h (i + 1)
  generalize (if c = i + 1 then o else o + (i + 1)) = ot at hs8 htc
  rw [show (((i + 1 : Nat) : Int)) = (i : Int) + 1 from by omega] at hs8
  have HS8 := Lib.hid hs8; have HTC := Lib.hid htc; clear hs8 htc
  have HWR := Lib.hid (wrap_small (x := (i : Int) + 1) (by omega) (by omega))
  have HR := Lib.hid hr; have HLN := Lib.hid hln; have KE := Lib.hid (Below.drew (Below.refl w.heap.size w)); clear hr
  go_enter Try.func92, Try.ntmps92
  go_wp2_with fail
  refine wp_region_any (by kernel_rfl) ?_
  change wpAny _ _ _ _ _ _ _ (World.drew _)
  obtain ⟨w1, hw2⟩ : ∃ w', w' = w.drew := ⟨_, rfl⟩
  rw [← hw2] at KE
  rw [← hw2]
  clear hw2
  refine' wpAny_take (i := 1) (oi := { dst := some 6, op := Go.Op.move (Go.Operand.tmp 0), type := 33, pos := "ref.go:458", after := #[], guard := none }) (v := _) rfl (by kernel_rfl) (by kernel_rfl) (by kernel_rfl) (fun _ _ _ h => h) (Or.inl ⟨by rfl, ?hyR3⟩)  ?reR3
  case hyR3 => ((intro w); go_simp; try with_reducible rfl)
  try simp only [Act.put, List.setIfInBounds_toArray, List.set_cons_zero, List.set_cons_succ]
  refine' wpAny_take (i := 2) (oi := { dst := some 7, op := Go.Op.move (Go.Operand.tmp 1), type := 3, pos := "ref.go:458", after := #[], guard := none }) (v := _) rfl (by kernel_rfl) (by kernel_rfl) (by kernel_rfl) (fun _ _ _ h => h) (Or.inl ⟨by rfl, ?hyR4⟩)  ?reR4
  case hyR4 => ((intro w); go_simp; try with_reducible rfl)
  try simp only [Act.put, List.setIfInBounds_toArray, List.set_cons_zero, List.set_cons_succ]
  refine' wpAny_take (i := 3) (oi := { dst := some 8, op := Go.Op.slice 33 (Go.Operand.tmp 6) none (some (Go.Operand.tmp 7)) none, type := 33, pos := "ref.go:458", after := #[{ on := 1, ground := Go.Ground.data }, { on := 2, ground := Go.Ground.data }], guard := none }) (v := _) rfl (by kernel_rfl) (by kernel_rfl) (by kernel_rfl) (fun _ _ _ h => h) (Or.inl ⟨by rfl, ?hyR5⟩)  ?reR5
  case hyR5 => (intro w; refine (exec_slice (w := w) 33 (.tmp 6) none (some (.tmp 7)) none (by rfl) (.slice (some ⟨b, o, none⟩) i c) (HS3.out w)).trans ?_; with_reducible rfl)
  try simp only [Act.put, List.setIfInBounds_toArray, List.set_cons_zero, List.set_cons_succ]
  refine' wpAny_take (i := 5) (oi := { dst := some 10, op := Go.Op.move (Go.Operand.tmp 0), type := 33, pos := "ref.go:458", after := #[], guard := none }) (v := _) rfl (by kernel_rfl) (by kernel_rfl) (by kernel_rfl) (fun _ _ _ h => h) (Or.inl ⟨by rfl, ?hyR6⟩)  ?reR6
  case hyR6 => ((intro w); go_simp; try with_reducible rfl)
  try simp only [Act.put, List.setIfInBounds_toArray, List.set_cons_zero, List.set_cons_succ]
  refine' wpAny_take (i := 6) (oi := { dst := some 11, op := Go.Op.move (Go.Operand.tmp 1), type := 3, pos := "ref.go:458", after := #[], guard := none }) (v := _) rfl (by kernel_rfl) (by kernel_rfl) (by kernel_rfl) (fun _ _ _ h => h) (Or.inl ⟨by rfl, ?hyR7⟩)  ?reR7
  case hyR7 => ((intro w); go_simp; try with_reducible rfl)
  try simp only [Act.put, List.setIfInBounds_toArray, List.set_cons_zero, List.set_cons_succ]
  refine' wpAny_take (i := 7) (oi := { dst := some 12, op := Go.Op.binOp Go.BinOp.add 3 (Go.Operand.tmp 11) (Go.Operand.const (Go.Value.int Go.IntKind.i64 1)) 3, type := 3, pos := "ref.go:458", after := #[{ on := 6, ground := Go.Ground.data }], guard := none }) (v := _) rfl (by kernel_rfl) (by kernel_rfl) (by kernel_rfl) (fun _ _ _ h => h) (Or.inl ⟨by rfl, ?hyR8⟩)  ?reR8
  case hyR8 => ((intro w); go_simp; try with_reducible rfl)
  try simp only [Act.put, List.setIfInBounds_toArray, List.set_cons_zero, List.set_cons_succ]
  refine' wpAny_take (i := 8) (oi := { dst := some 13, op := Go.Op.slice 33 (Go.Operand.tmp 10) (some (Go.Operand.tmp 12)) none none, type := 33, pos := "ref.go:458", after := #[{ on := 5, ground := Go.Ground.data }, { on := 7, ground := Go.Ground.data }], guard := none }) (v := _) rfl (by kernel_rfl) (by kernel_rfl) (by kernel_rfl) (fun _ _ _ h => h) (Or.inl ⟨by rfl, ?hyR9⟩)  ?reR9
  case hyR9 => (intro w; (try rw [HWR.out]); refine (exec_slice (w := w) 33 (.tmp 10) (some (.tmp 12)) none none (by rfl) (.slice (some ⟨b, ot, none⟩) (n - (i + 1)) (c - (i + 1))) (HS8.out w)).trans ?_; with_reducible rfl)
  try simp only [Act.put, List.setIfInBounds_toArray, List.set_cons_zero, List.set_cons_succ]
  refine wpAny_ready (rs := [0]) (by kernel_rfl) (by simp) ?_
  refine AllReady.cons (o := { dst := some 5, op := Go.Op.buildSlice 33 0 #[], type := 33, pos := "ref.go:458", after := #[], guard := none }) rfl (fun K hK => ?_) ?_
  · -- 0: buildSlice
    go_simp
    have hr_ : ((w1).alloc (.cells #[] 3)).ownsRow (w1).heap.size 3 1 (.slice (some ⟨(w1).heap.size, 0, none⟩) 0 0) 0 [] := World.ownsRow_lit (w1) #[] 0 (Nat.le_refl _) (by unfold maxLen; omega) rfl
    have OE := Lib.hid hr_; clear hr_
    have bel_14 := Lib.hid (Below.alloc (KE.out) ((KE.out).size) (.cells #[] 3))
    have lb15 := Lib.hid (KE.out.size)
    have e_16 := Lib.hid (Blk.new (w1) 3 #[])
    obtain ⟨g10, hg11⟩ : ∃ g, g = (w1).heap.size := ⟨_, rfl⟩
    obtain ⟨w12, hw13⟩ : ∃ w', w' = (w1).alloc (.cells #[] 3) := ⟨_, rfl⟩
    rw [← hw13] at bel_14 e_16 OE
    rw [← hg11] at lb15 e_16 OE
    rw [← hg11, ← hw13]
    clear hg11 hw13
    have OE2 := Lib.hid (owns_base OE.out lb15.out)
    refine hK _ _ ?_; clear hK K
    try simp only [Act.put, List.setIfInBounds_toArray, List.set_cons_zero, List.set_cons_succ]
    refine wpAny_ready (rs := [4]) (by kernel_rfl) (by simp) ?_
    refine AllReady.cons (o := { dst := some 9, op := Go.Op.call { callee := Go.Callee.builtin Go.Builtin.append, args := #[Go.Operand.tmp 5, Go.Operand.tmp 8], argTypes := #[33, 33] }, type := 33, pos := "ref.go:458", after := #[{ on := 0, ground := Go.Ground.data }, { on := 3, ground := Go.Ground.data }], guard := none }) rfl (fun K hK => ?_) ?_
    · -- 4: call
      have hcl := head_cells (HR.out.below bel_14.out) i
      have hlr := World.ownsRow.lt OE2.out
      refine wp_append_own _ (.tmp 5) (.tmp 8) 33 rfl w.heap.size 3 i0 _ 1 8 Try.underlying33 HI.out HZ0.out HZ1.out HZ2.out rfl (by omega) (.slice (some ⟨g10, 0, none⟩) 0 0) 0 ([]) rfl OE2.out ⟨b, o, none⟩ (i) (c) ((L.take i).map (Value.int .i64)) rfl (by rw [List.length_map, List.length_take, HLN.out]; omega) hcl (ints_one2 _) (by unfold maxLen; omega) (by omega) (Below.size bel_14.out) ?_
      intro v5 w_v5 hown_ hg_ _
      obtain ⟨Bv5, cv5, rfl, -⟩ := own_form hown_
      have k17 := Lib.hid (Below.grown bel_14.out hg_ (Below.size bel_14.out) (fun q e => (hlr q e).1))
      try simp only [Nat.zero_add, List.nil_append] at hown_
      try rw [Nat.zero_add]
      have O5 := Lib.hid hown_
      clear hown_ hg_ hcl hlr
      refine hK _ _ ?_; clear hK K
      try simp only [Act.put, List.setIfInBounds_toArray, List.set_cons_zero, List.set_cons_succ]
      refine wpAny_ready (rs := [9]) (by kernel_rfl) (by simp) ?_
      refine AllReady.cons (o := { dst := some 14, op := Go.Op.call { callee := Go.Callee.builtin Go.Builtin.append, args := #[Go.Operand.tmp 9, Go.Operand.tmp 13], argTypes := #[33, 33] }, type := 33, pos := "ref.go:458", after := #[{ on := 4, ground := Go.Ground.data }, { on := 8, ground := Go.Ground.data }, { on := 4, ground := Go.Ground.chain }], guard := none }) rfl (fun K hK => ?_) ?_
      · -- 9: call
        have hcl := HTC.out _ (HR.out.below k17.out)
        have hlr := World.ownsRow.lt O5.out
        refine wp_append_own _ (.tmp 9) (.tmp 13) 33 rfl w.heap.size 3 i0 _ 1 8 Try.underlying33 HI.out HZ0.out HZ1.out HZ2.out rfl (by omega) (.slice Bv5 i cv5) i ((L.take i).map (Value.int .i64)) rfl O5.out ⟨b, ot, none⟩ (n - (i + 1)) (c - (i + 1)) ((L.drop (i + 1)).map (Value.int .i64)) rfl (by rw [List.length_map, List.length_drop, HLN.out]; omega) hcl (ints_one2 _) (by unfold maxLen; omega) (by omega) (Below.size k17.out) ?_
        intro v6 w_v6 hown_ hg_ _
        obtain ⟨Bv6, cv6, rfl, -⟩ := own_form hown_
        have k18 := Lib.hid (Below.grown k17.out hg_ (Below.size k17.out) (fun q e => (hlr q e).1))
        try simp only [Nat.zero_add, List.nil_append] at hown_
        try rw [Nat.zero_add]
        have O6 := Lib.hid hown_
        clear hown_ hg_ hcl hlr
        refine hK _ _ ?_; clear hK K
        try simp only [Act.put, List.setIfInBounds_toArray, List.set_cons_zero, List.set_cons_succ]
        refine' wpAny_take (i := 10) (oi := { dst := some 4, op := Go.Op.assign (Go.Operand.tmp 14), type := 33, pos := "ref.go:458", after := #[{ on := 9, ground := Go.Ground.data }, { on := 9, ground := Go.Ground.chain }, { on := 0, ground := Go.Ground.phase }, { on := 1, ground := Go.Ground.phase }, { on := 2, ground := Go.Ground.phase }, { on := 3, ground := Go.Ground.phase }, { on := 4, ground := Go.Ground.phase }, { on := 5, ground := Go.Ground.phase }, { on := 6, ground := Go.Ground.phase }, { on := 7, ground := Go.Ground.phase }, { on := 8, ground := Go.Ground.phase }, { on := 9, ground := Go.Ground.phase }], guard := none }) (v := _) rfl (by kernel_rfl) (by kernel_rfl) (by kernel_rfl) (fun _ _ _ h => h) (Or.inl ⟨by rfl, ?hyR19⟩)  ?reR19
        case hyR19 => ((intro w); go_simp; try with_reducible rfl)
        try simp only [Act.put, List.setIfInBounds_toArray, List.set_cons_zero, List.set_cons_succ]
        refine wpAny_done (by kernel_rfl) ?_ _
        go_wp2
        go_ret
        refine ⟨Bv6, cv6, ret_slice (by omega), ?_, k18.out⟩
        · have h := O6.out
          rw [← List.map_append, ← List.eraseIdx_eq_take_drop_succ, show i + (n - (i + 1)) = n - 1 from by omega] at h
          exact h
      exact AllReady.nil
    exact AllReady.nil
  exact AllReady.nil

theorem insU_same {v : Int} : ∀ {L : List Int} {q : Nat}, (∀ x ∈ L.take q, x < v) → L[q]? = some v → insU v L = L
  | [], q, _, h => by simp at h
  | y :: r, 0, _, h => by
    rw [List.getElem?_cons_zero] at h; injection h with h; subst h
    unfold insU; rw [if_neg (Int.lt_irrefl _), if_pos rfl]
  | y :: r, q + 1, hl, h => by
    have hy := hl y (by rw [List.take_succ_cons]; exact List.mem_cons_self ..)
    unfold insU
    rw [if_neg (by omega), if_neg (by omega), insU_same (fun x hx => hl x (by rw [List.take_succ_cons]; exact List.mem_cons_of_mem _ hx)) (by rw [List.getElem?_cons_succ] at h; exact h)]
theorem insU_at {v : Int} : ∀ {L : List Int} {q : Nat}, q ≤ L.length → (∀ x ∈ L.take q, x < v) → (∀ x, L[q]? = some x → v < x) → insU v L = L.take q ++ v :: L.drop q
  | [], q, _, _, _ => by simp [insU]
  | y :: r, 0, _, _, h => by
    have := h y (by simp)
    unfold insU; rw [if_pos this]; rfl
  | y :: r, q + 1, hq, hl, h => by
    have hy := hl y (by rw [List.take_succ_cons]; exact List.mem_cons_self ..)
    unfold insU
    rw [if_neg (by omega), if_neg (by omega), insU_at (by simp at hq; omega) (fun x hx => hl x (by rw [List.take_succ_cons]; exact List.mem_cons_of_mem _ hx)) (fun x hx => h x (by rw [List.getElem?_cons_succ]; exact hx))]
    rfl

theorem wp_append_none {P : Program} (w : World) {o : Oper} {a : Act} {K : Act → World → Prop} {Q : Exit → Act → World → Prop} (s x : Operand) (t : TypeId)
    (ho : o.op = .call { callee := .builtin .append, args := #[s, x], argTypes := #[t, t] }) (e : TypeId) (i : TypeInfo) (ht : P.underlying t = some (.slice e)) (hi : P.info? e = some i)
    (g n c cx : Nat) (hs : a.eval s = .slice (some ⟨g, 0, none⟩) n c) (hx : a.eval x = .slice none 0 cx) (hle : n ≤ c) (h : K (a.put o.dst (.slice (some ⟨g, 0, none⟩) n c)) w) : o.wp P a w K Q := by
  have hr := run_append_room_src (P := P) w t t o.type e i ht hi g 0 n c (.slice none 0 cx) 0 [] (Src.ofNil w ht cx) (by omega) (by simp) (by simp)
  unfold Oper.wp execOp
  simp only [ho, resolve, invoke, builtin, Sem.run_bind, Sem.run_pure, Result.andThen_ok, List.map_toArray, List.map_cons, List.map_nil, hs, hx, hr]
  exact h
set_option maxRecDepth 100000 in
theorem nil_head (w : World) : (Instr.sliceAt 33 (.slice none 0 0) none (some (.int .i64 0)) none).run Try.prog w = .ok (.slice none 0 0) w := by
  have he : Try.prog.elem 33 = 3 := by kernel_rfl
  have hu : Try.prog.underlying 33 = some (.slice (Try.prog.elem 33)) := by rw [he]; exact Try.underlying33
  have hs : ∀ w, (sizeOf (Try.prog.elem 33)).run Try.prog w = .ok 1 w := fun w => by rw [he]; kernel_rfl
  rw [run_sliceAt_slice (h := hu), run_slice_h _ _ _ _ _ hu .i64 0 (by omega) (by omega), hs]
  simp [Result.andThen_ok, sliced]
set_option maxRecDepth 100000 in
theorem nil_tail (w : World) : (Instr.sliceAt 33 (.slice none 0 0) (some (.int .i64 0)) none none).run Try.prog w = .ok (.slice none 0 0) w := by
  have he : Try.prog.elem 33 = 3 := by kernel_rfl
  have hu : Try.prog.underlying 33 = some (.slice (Try.prog.elem 33)) := by rw [he]; exact Try.underlying33
  have hs : ∀ w, (sizeOf (Try.prog.elem 33)).run Try.prog w = .ok 1 w := fun w => by rw [he]; kernel_rfl
  rw [run_sliceAt_slice (h := hu), run_slice_l _ _ _ _ _ hu .i64 0 (by omega) (by omega), hs]
  simp [Result.andThen_ok, sliced]
theorem one_cells {w : World} {g : Nat} {v : Int} (h : Blk w g 3 #[.int .i64 v]) : ∀ j u, ([Value.int .i64 v])[j]? = some u → w.cell? ((⟨g, 0, none⟩ : Addr).add j) = some u := fun j u hu => by
  rw [add_flat, Nat.zero_add, h.cell]
  simpa using hu

set_option maxRecDepth 100000 in
set_option maxHeartbeats 4000000 in
theorem with_nil (base : Nat) (v : Int) (w : World) (hbase : base ≤ w.heap.size) :
    Calls Try.prog 116 #[.slice none 0 0, .int .i64 v] w fun e w' => ∃ B m d, e = .returned (.slice B m d) ∧ OwnI w' base B m d (insU v []) ∧ Below w.heap.size w w' := by
  obtain ⟨i0, hi0, hz0, hz1, hz2⟩ := info_parts infoI
  have HI := Lib.hid hi0; have HZ0 := Lib.hid hz0; have HZ1 := Lib.hid hz1; have HZ2 := Lib.hid hz2; clear hi0 hz0 hz1 hz2
  have KE := Lib.hid (Below.drew (Below.refl w.heap.size w))
  go_enter Try.func116, Try.ntmps116
  go_wp2
  go_loopw [5] (fun i wr => i = .int .i64 0 ∧ w = wr) (fun _ _ => 0)
  case atStart => exact ⟨rfl, rfl⟩
  case round =>
    obtain ⟨rfl, rfl⟩ := hrel
    go_wp2_with fail
    refine wp_region_any (by kernel_rfl) ?_
    change wpAny _ _ _ _ _ _ _ (World.drew _)
    obtain ⟨w20, hw21⟩ : ∃ w', w' = w.drew := ⟨_, rfl⟩
    rw [← hw21] at KE
    rw [← hw21]
    clear hw21
    refine' wpAny_take (i := 1) (oi := { dst := some 34, op := Go.Op.move (Go.Operand.tmp 0), type := 33, pos := "ref.go:140", after := #[], guard := none }) (v := _) rfl (by kernel_rfl) (by kernel_rfl) (by kernel_rfl) (fun _ _ _ h => h) (Or.inl ⟨by rfl, ?hyR22⟩)  ?reR22
    case hyR22 => ((intro w); go_simp; try with_reducible rfl)
    try simp only [Act.put, List.setIfInBounds_toArray, List.set_cons_zero, List.set_cons_succ]
    refine' wpAny_take (i := 2) (oi := { dst := some 35, op := Go.Op.move (Go.Operand.tmp 5), type := 3, pos := "ref.go:140", after := #[], guard := none }) (v := _) rfl (by kernel_rfl) (by kernel_rfl) (by kernel_rfl) (fun _ _ _ h => h) (Or.inl ⟨by rfl, ?hyR23⟩)  ?reR23
    case hyR23 => ((intro w); go_simp; try with_reducible rfl)
    try simp only [Act.put, List.setIfInBounds_toArray, List.set_cons_zero, List.set_cons_succ]
    refine' wpAny_take (i := 3) (oi := { dst := some 36, op := Go.Op.slice 33 (Go.Operand.tmp 34) none (some (Go.Operand.tmp 35)) none, type := 33, pos := "ref.go:140", after := #[{ on := 1, ground := Go.Ground.data }, { on := 2, ground := Go.Ground.data }], guard := none }) (v := _) rfl (by kernel_rfl) (by kernel_rfl) (by kernel_rfl) (fun _ _ _ h => h) (Or.inl ⟨by rfl, ?hyR24⟩)  ?reR24
    case hyR24 => (intro w; refine (exec_slice (w := w) 33 (.tmp 34) none (some (.tmp 35)) none (by rfl) (.slice none 0 0) (nil_head w)).trans ?_; with_reducible rfl)
    try simp only [Act.put, List.setIfInBounds_toArray, List.set_cons_zero, List.set_cons_succ]
    refine' wpAny_take (i := 5) (oi := { dst := some 38, op := Go.Op.move (Go.Operand.tmp 1), type := 3, pos := "ref.go:140", after := #[], guard := none }) (v := _) rfl (by kernel_rfl) (by kernel_rfl) (by kernel_rfl) (fun _ _ _ h => h) (Or.inl ⟨by rfl, ?hyR25⟩)  ?reR25
    case hyR25 => ((intro w); go_simp; try with_reducible rfl)
    try simp only [Act.put, List.setIfInBounds_toArray, List.set_cons_zero, List.set_cons_succ]
    refine' wpAny_take (i := 8) (oi := { dst := some 41, op := Go.Op.move (Go.Operand.tmp 0), type := 33, pos := "ref.go:140", after := #[], guard := none }) (v := _) rfl (by kernel_rfl) (by kernel_rfl) (by kernel_rfl) (fun _ _ _ h => h) (Or.inl ⟨by rfl, ?hyR26⟩)  ?reR26
    case hyR26 => ((intro w); go_simp; try with_reducible rfl)
    try simp only [Act.put, List.setIfInBounds_toArray, List.set_cons_zero, List.set_cons_succ]
    refine' wpAny_take (i := 9) (oi := { dst := some 42, op := Go.Op.move (Go.Operand.tmp 5), type := 3, pos := "ref.go:140", after := #[], guard := none }) (v := _) rfl (by kernel_rfl) (by kernel_rfl) (by kernel_rfl) (fun _ _ _ h => h) (Or.inl ⟨by rfl, ?hyR27⟩)  ?reR27
    case hyR27 => ((intro w); go_simp; try with_reducible rfl)
    try simp only [Act.put, List.setIfInBounds_toArray, List.set_cons_zero, List.set_cons_succ]
    refine' wpAny_take (i := 10) (oi := { dst := some 43, op := Go.Op.slice 33 (Go.Operand.tmp 41) (some (Go.Operand.tmp 42)) none none, type := 33, pos := "ref.go:140", after := #[{ on := 8, ground := Go.Ground.data }, { on := 9, ground := Go.Ground.data }], guard := none }) (v := _) rfl (by kernel_rfl) (by kernel_rfl) (by kernel_rfl) (fun _ _ _ h => h) (Or.inl ⟨by rfl, ?hyR28⟩)  ?reR28
    case hyR28 => (intro w; refine (exec_slice (w := w) 33 (.tmp 41) (some (.tmp 42)) none none (by rfl) (.slice none 0 0) (nil_tail w)).trans ?_; with_reducible rfl)
    try simp only [Act.put, List.setIfInBounds_toArray, List.set_cons_zero, List.set_cons_succ]
    refine wpAny_ready (rs := [0, 6]) (by kernel_rfl) (by simp) ?_
    refine AllReady.cons (o := { dst := some 33, op := Go.Op.buildSlice 33 0 #[], type := 33, pos := "ref.go:140", after := #[], guard := none }) rfl (fun K hK => ?_) ?_
    · -- 0: buildSlice
      go_simp
      have hr_ : ((w20).alloc (.cells #[] 3)).ownsRow (w20).heap.size 3 1 (.slice (some ⟨(w20).heap.size, 0, none⟩) 0 0) 0 [] := World.ownsRow_lit (w20) #[] 0 (Nat.le_refl _) (by unfold maxLen; omega) rfl
      have OE := Lib.hid hr_; clear hr_
      have bel_33 := Lib.hid (Below.alloc (KE.out) ((KE.out).size) (.cells #[] 3))
      have lb34 := Lib.hid (KE.out.size)
      have e_35 := Lib.hid (Blk.new (w20) 3 #[])
      obtain ⟨g29, hg30⟩ : ∃ g, g = (w20).heap.size := ⟨_, rfl⟩
      obtain ⟨w31, hw32⟩ : ∃ w', w' = (w20).alloc (.cells #[] 3) := ⟨_, rfl⟩
      rw [← hw32] at bel_33 e_35 OE
      rw [← hg30] at lb34 e_35 OE
      rw [← hg30, ← hw32]
      clear hg30 hw32
      have OE2 := Lib.hid (owns_base OE.out lb34.out)
      refine hK _ _ ?_; clear hK K
      try simp only [Act.put, List.setIfInBounds_toArray, List.set_cons_zero, List.set_cons_succ]
      refine wpAny_ready (rs := [4, 6]) (by kernel_rfl) (by simp) ?_
      refine AllReady.cons (o := { dst := some 37, op := Go.Op.call { callee := Go.Callee.builtin Go.Builtin.append, args := #[Go.Operand.tmp 33, Go.Operand.tmp 36], argTypes := #[33, 33] }, type := 33, pos := "ref.go:140", after := #[{ on := 0, ground := Go.Ground.data }, { on := 3, ground := Go.Ground.data }], guard := none }) rfl (fun K hK => ?_) ?_
      · -- 4: call
        refine wp_append_none _ (.tmp 33) (.tmp 36) 33 rfl 3 i0 Try.underlying33 HI.out g29 0 0 0 rfl rfl (Nat.le_refl _) ?_
        refine hK _ _ ?_; clear hK K
        try simp only [Act.put, List.setIfInBounds_toArray, List.set_cons_zero, List.set_cons_succ]
        refine wpAny_ready (rs := [6]) (by kernel_rfl) (by simp) ?_
        refine AllReady.cons (o := { dst := some 39, op := Go.Op.buildSlice 33 1 #[(0, Go.Operand.tmp 38)], type := 33, pos := "ref.go:140", after := #[{ on := 5, ground := Go.Ground.data }], guard := none }) rfl (fun K hK => ?_) ?_
        · -- 6: buildSlice
          go_simp
          have NLO := Lib.hid (fun (y : Nat) (e : (Value.slice (some ⟨g29, 0, none⟩) 0 0).ownBlock = some y) => show y < (w31).heap.size from (World.ownsRow.lt OE2.out y e).2)
          have bel_40 := Lib.hid (Below.alloc (bel_33.out) ((bel_33.out).size) (.cells #[.int .i64 v] 3))
          have cp_41 := Lib.hid (World.ownsRow.alloc (OE2.out) (.cells #[.int .i64 v] 3))
          have lb42 := Lib.hid (bel_33.out.size)
          have nb_43 := Lib.hid (Blk.new (w31) 3 #[.int .i64 v])
          obtain ⟨g36, hg37⟩ : ∃ g, g = (w31).heap.size := ⟨_, rfl⟩
          obtain ⟨w38, hw39⟩ : ∃ w', w' = (w31).alloc (.cells #[.int .i64 v] 3) := ⟨_, rfl⟩
          rw [← hw39] at bel_40 cp_41 nb_43
          rw [← hg37] at lb42 nb_43 NLO
          rw [← hg37, ← hw39]
          clear hg37 hw39
          have NEN := Lib.hid (fun (y : Nat) (e : (Value.slice (some ⟨g29, 0, none⟩) 0 0).ownBlock = some y) => show y ≠ g36 from Nat.ne_of_lt (NLO.out y e)); clear NLO
          refine hK _ _ ?_; clear hK K
          try simp only [Act.put, List.setIfInBounds_toArray, List.set_cons_zero, List.set_cons_succ]
          refine wpAny_ready (rs := [7]) (by kernel_rfl) (by simp) ?_
          refine AllReady.cons (o := { dst := some 40, op := Go.Op.call { callee := Go.Callee.builtin Go.Builtin.append, args := #[Go.Operand.tmp 37, Go.Operand.tmp 39], argTypes := #[33, 33] }, type := 33, pos := "ref.go:140", after := #[{ on := 4, ground := Go.Ground.data }, { on := 6, ground := Go.Ground.data }, { on := 4, ground := Go.Ground.chain }], guard := none }) rfl (fun K hK => ?_) ?_
          · -- 7: call
            have hcl := one_cells nb_43.out
            have hlr := World.ownsRow.lt cp_41.out
            refine wp_append_own _ (.tmp 37) (.tmp 39) 33 rfl w.heap.size 3 i0 _ 1 8 Try.underlying33 HI.out HZ0.out HZ1.out HZ2.out rfl (by omega) (.slice (some ⟨g29, 0, none⟩) 0 0) 0 ([]) rfl cp_41.out ⟨g36, 0, none⟩ (1) (1) ([Value.int .i64 v]) rfl rfl hcl (by simp [Value.oneCell']) (by unfold maxLen; omega) (by omega) (Below.size bel_40.out) ?_
            intro v6 w_v6 hown_ hg_ _
            obtain ⟨Bv6, cv6, rfl, -⟩ := own_form hown_
            have k44 := Lib.hid (Below.grown bel_40.out hg_ (Below.size bel_40.out) (fun q e => (hlr q e).1))
            try simp only [Nat.zero_add, List.nil_append] at hown_
            try rw [Nat.zero_add]
            have O6 := Lib.hid hown_
            clear hown_ hg_ hcl hlr
            refine hK _ _ ?_; clear hK K
            try simp only [Act.put, List.setIfInBounds_toArray, List.set_cons_zero, List.set_cons_succ]
            refine wpAny_ready (rs := [11]) (by kernel_rfl) (by simp) ?_
            refine AllReady.cons (o := { dst := some 44, op := Go.Op.call { callee := Go.Callee.builtin Go.Builtin.append, args := #[Go.Operand.tmp 40, Go.Operand.tmp 43], argTypes := #[33, 33] }, type := 33, pos := "ref.go:140", after := #[{ on := 7, ground := Go.Ground.data }, { on := 10, ground := Go.Ground.data }, { on := 7, ground := Go.Ground.chain }], guard := none }) rfl (fun K hK => ?_) ?_
            · -- 11: call
              obtain ⟨g6, hg6, -⟩ := own_some2 O6.out (by omega)
              subst hg6
              refine wp_append_none _ (.tmp 40) (.tmp 43) 33 rfl 3 i0 Try.underlying33 HI.out g6 1 cv6 0 rfl rfl (OwnI.rd (show OwnI _ w.heap.size (some ⟨g6, 0, none⟩) 1 cv6 [v] from O6.out)).1.cap ?_
              refine hK _ _ ?_; clear hK K
              try simp only [Act.put, List.setIfInBounds_toArray, List.set_cons_zero, List.set_cons_succ]
              refine' wpAny_take (i := 12) (oi := { dst := some 4, op := Go.Op.assign (Go.Operand.tmp 44), type := 33, pos := "ref.go:140", after := #[{ on := 11, ground := Go.Ground.data }, { on := 11, ground := Go.Ground.chain }, { on := 0, ground := Go.Ground.phase }, { on := 1, ground := Go.Ground.phase }, { on := 2, ground := Go.Ground.phase }, { on := 3, ground := Go.Ground.phase }, { on := 4, ground := Go.Ground.phase }, { on := 5, ground := Go.Ground.phase }, { on := 6, ground := Go.Ground.phase }, { on := 7, ground := Go.Ground.phase }, { on := 8, ground := Go.Ground.phase }, { on := 9, ground := Go.Ground.phase }, { on := 10, ground := Go.Ground.phase }, { on := 11, ground := Go.Ground.phase }], guard := none }) (v := _) rfl (by kernel_rfl) (by kernel_rfl) (by kernel_rfl) (fun _ _ _ h => h) (Or.inl ⟨by rfl, ?hyR45⟩)  ?reR45
              case hyR45 => ((intro w); go_simp; try with_reducible rfl)
              try simp only [Act.put, List.setIfInBounds_toArray, List.set_cons_zero, List.set_cons_succ]
              refine wpAny_done (by kernel_rfl) ?_ _
              go_wp2
              go_ret
              exact ⟨some ⟨g6, 0, none⟩, 1, cv6, rfl, owns_base O6.out hbase, k44.out⟩
            exact AllReady.nil
          exact AllReady.nil
        exact AllReady.nil
      refine AllReady.cons (o := { dst := some 39, op := Go.Op.buildSlice 33 1 #[(0, Go.Operand.tmp 38)], type := 33, pos := "ref.go:140", after := #[{ on := 5, ground := Go.Ground.data }], guard := none }) rfl (fun K hK => ?_) ?_
      · -- 6: buildSlice
        go_simp
        have NLO := Lib.hid (fun (y : Nat) (e : (Value.slice (some ⟨g29, 0, none⟩) 0 0).ownBlock = some y) => show y < (w31).heap.size from (World.ownsRow.lt OE2.out y e).2)
        have bel_50 := Lib.hid (Below.alloc (bel_33.out) ((bel_33.out).size) (.cells #[.int .i64 v] 3))
        have cp_51 := Lib.hid (World.ownsRow.alloc (OE2.out) (.cells #[.int .i64 v] 3))
        have lb52 := Lib.hid (bel_33.out.size)
        have nb_53 := Lib.hid (Blk.new (w31) 3 #[.int .i64 v])
        obtain ⟨g46, hg47⟩ : ∃ g, g = (w31).heap.size := ⟨_, rfl⟩
        obtain ⟨w48, hw49⟩ : ∃ w', w' = (w31).alloc (.cells #[.int .i64 v] 3) := ⟨_, rfl⟩
        rw [← hw49] at bel_50 cp_51 nb_53
        rw [← hg47] at lb52 nb_53 NLO
        rw [← hg47, ← hw49]
        clear hg47 hw49
        have NEN := Lib.hid (fun (y : Nat) (e : (Value.slice (some ⟨g29, 0, none⟩) 0 0).ownBlock = some y) => show y ≠ g46 from Nat.ne_of_lt (NLO.out y e)); clear NLO
        refine hK _ _ ?_; clear hK K
        try simp only [Act.put, List.setIfInBounds_toArray, List.set_cons_zero, List.set_cons_succ]
        refine wpAny_ready (rs := [4]) (by kernel_rfl) (by simp) ?_
        refine AllReady.cons (o := { dst := some 37, op := Go.Op.call { callee := Go.Callee.builtin Go.Builtin.append, args := #[Go.Operand.tmp 33, Go.Operand.tmp 36], argTypes := #[33, 33] }, type := 33, pos := "ref.go:140", after := #[{ on := 0, ground := Go.Ground.data }, { on := 3, ground := Go.Ground.data }], guard := none }) rfl (fun K hK => ?_) ?_
        · -- 4: call
          refine wp_append_none _ (.tmp 33) (.tmp 36) 33 rfl 3 i0 Try.underlying33 HI.out g29 0 0 0 rfl rfl (Nat.le_refl _) ?_
          refine hK _ _ ?_; clear hK K
          try simp only [Act.put, List.setIfInBounds_toArray, List.set_cons_zero, List.set_cons_succ]
          refine wpAny_ready (rs := [7]) (by kernel_rfl) (by simp) ?_
          refine AllReady.cons (o := { dst := some 40, op := Go.Op.call { callee := Go.Callee.builtin Go.Builtin.append, args := #[Go.Operand.tmp 37, Go.Operand.tmp 39], argTypes := #[33, 33] }, type := 33, pos := "ref.go:140", after := #[{ on := 4, ground := Go.Ground.data }, { on := 6, ground := Go.Ground.data }, { on := 4, ground := Go.Ground.chain }], guard := none }) rfl (fun K hK => ?_) ?_
          · -- 7: call
            have hcl := one_cells nb_53.out
            have hlr := World.ownsRow.lt cp_51.out
            refine wp_append_own _ (.tmp 37) (.tmp 39) 33 rfl w.heap.size 3 i0 _ 1 8 Try.underlying33 HI.out HZ0.out HZ1.out HZ2.out rfl (by omega) (.slice (some ⟨g29, 0, none⟩) 0 0) 0 ([]) rfl cp_51.out ⟨g46, 0, none⟩ (1) (1) ([Value.int .i64 v]) rfl rfl hcl (by simp [Value.oneCell']) (by unfold maxLen; omega) (by omega) (Below.size bel_50.out) ?_
            intro v6 w_v6 hown_ hg_ _
            obtain ⟨Bv6, cv6, rfl, -⟩ := own_form hown_
            have k54 := Lib.hid (Below.grown bel_50.out hg_ (Below.size bel_50.out) (fun q e => (hlr q e).1))
            try simp only [Nat.zero_add, List.nil_append] at hown_
            try rw [Nat.zero_add]
            have O6 := Lib.hid hown_
            clear hown_ hg_ hcl hlr
            refine hK _ _ ?_; clear hK K
            try simp only [Act.put, List.setIfInBounds_toArray, List.set_cons_zero, List.set_cons_succ]
            refine wpAny_ready (rs := [11]) (by kernel_rfl) (by simp) ?_
            refine AllReady.cons (o := { dst := some 44, op := Go.Op.call { callee := Go.Callee.builtin Go.Builtin.append, args := #[Go.Operand.tmp 40, Go.Operand.tmp 43], argTypes := #[33, 33] }, type := 33, pos := "ref.go:140", after := #[{ on := 7, ground := Go.Ground.data }, { on := 10, ground := Go.Ground.data }, { on := 7, ground := Go.Ground.chain }], guard := none }) rfl (fun K hK => ?_) ?_
            · -- 11: call
              obtain ⟨g6, hg6, -⟩ := own_some2 O6.out (by omega)
              subst hg6
              refine wp_append_none _ (.tmp 40) (.tmp 43) 33 rfl 3 i0 Try.underlying33 HI.out g6 1 cv6 0 rfl rfl (OwnI.rd (show OwnI _ w.heap.size (some ⟨g6, 0, none⟩) 1 cv6 [v] from O6.out)).1.cap ?_
              refine hK _ _ ?_; clear hK K
              try simp only [Act.put, List.setIfInBounds_toArray, List.set_cons_zero, List.set_cons_succ]
              refine' wpAny_take (i := 12) (oi := { dst := some 4, op := Go.Op.assign (Go.Operand.tmp 44), type := 33, pos := "ref.go:140", after := #[{ on := 11, ground := Go.Ground.data }, { on := 11, ground := Go.Ground.chain }, { on := 0, ground := Go.Ground.phase }, { on := 1, ground := Go.Ground.phase }, { on := 2, ground := Go.Ground.phase }, { on := 3, ground := Go.Ground.phase }, { on := 4, ground := Go.Ground.phase }, { on := 5, ground := Go.Ground.phase }, { on := 6, ground := Go.Ground.phase }, { on := 7, ground := Go.Ground.phase }, { on := 8, ground := Go.Ground.phase }, { on := 9, ground := Go.Ground.phase }, { on := 10, ground := Go.Ground.phase }, { on := 11, ground := Go.Ground.phase }], guard := none }) (v := _) rfl (by kernel_rfl) (by kernel_rfl) (by kernel_rfl) (fun _ _ _ h => h) (Or.inl ⟨by rfl, ?hyR55⟩)  ?reR55
              case hyR55 => ((intro w); go_simp; try with_reducible rfl)
              try simp only [Act.put, List.setIfInBounds_toArray, List.set_cons_zero, List.set_cons_succ]
              refine wpAny_done (by kernel_rfl) ?_ _
              go_wp2
              go_ret
              exact ⟨some ⟨g6, 0, none⟩, 1, cv6, rfl, owns_base O6.out hbase, k54.out⟩
            exact AllReady.nil
          exact AllReady.nil
        exact AllReady.nil
      exact AllReady.nil
    refine AllReady.cons (o := { dst := some 39, op := Go.Op.buildSlice 33 1 #[(0, Go.Operand.tmp 38)], type := 33, pos := "ref.go:140", after := #[{ on := 5, ground := Go.Ground.data }], guard := none }) rfl (fun K hK => ?_) ?_
    · -- 6: buildSlice
      go_simp
      have bel_60 := Lib.hid (Below.alloc (KE.out) ((KE.out).size) (.cells #[.int .i64 v] 3))
      have lb61 := Lib.hid (KE.out.size)
      have nb_62 := Lib.hid (Blk.new (w20) 3 #[.int .i64 v])
      obtain ⟨g56, hg57⟩ : ∃ g, g = (w20).heap.size := ⟨_, rfl⟩
      obtain ⟨w58, hw59⟩ : ∃ w', w' = (w20).alloc (.cells #[.int .i64 v] 3) := ⟨_, rfl⟩
      rw [← hw59] at bel_60 nb_62
      rw [← hg57] at lb61 nb_62
      rw [← hg57, ← hw59]
      clear hg57 hw59
      refine hK _ _ ?_; clear hK K
      try simp only [Act.put, List.setIfInBounds_toArray, List.set_cons_zero, List.set_cons_succ]
      refine wpAny_ready (rs := [0]) (by kernel_rfl) (by simp) ?_
      refine AllReady.cons (o := { dst := some 33, op := Go.Op.buildSlice 33 0 #[], type := 33, pos := "ref.go:140", after := #[], guard := none }) rfl (fun K hK => ?_) ?_
      · -- 0: buildSlice
        go_simp
        have hr_ : ((w58).alloc (.cells #[] 3)).ownsRow (w58).heap.size 3 1 (.slice (some ⟨(w58).heap.size, 0, none⟩) 0 0) 0 [] := World.ownsRow_lit (w58) #[] 0 (Nat.le_refl _) (by unfold maxLen; omega) rfl
        have OE := Lib.hid hr_; clear hr_
        have bel_67 := Lib.hid (Below.alloc (bel_60.out) ((bel_60.out).size) (.cells #[] 3))
        have nb_68 := Lib.hid (Blk.alloc (nb_62.out) (.cells #[] 3))
        have lb69 := Lib.hid (bel_60.out.size)
        have ne70 := Lib.hid (Nat.ne_of_lt (Blk.lt nb_62.out))
        have e_71 := Lib.hid (Blk.new (w58) 3 #[])
        obtain ⟨g63, hg64⟩ : ∃ g, g = (w58).heap.size := ⟨_, rfl⟩
        obtain ⟨w65, hw66⟩ : ∃ w', w' = (w58).alloc (.cells #[] 3) := ⟨_, rfl⟩
        rw [← hw66] at bel_67 nb_68 e_71 OE
        rw [← hg64] at lb69 ne70 e_71 OE
        rw [← hg64, ← hw66]
        clear hg64 hw66
        have OE2 := Lib.hid (owns_base OE.out lb69.out)
        have NEN := Lib.hid (fun (y : Nat) (e : (Value.slice (some ⟨g63, 0, none⟩) 0 0).ownBlock = some y) => show y ≠ g56 from by (cases e; exact Ne.symm ne70.out))
        refine hK _ _ ?_; clear hK K
        try simp only [Act.put, List.setIfInBounds_toArray, List.set_cons_zero, List.set_cons_succ]
        refine wpAny_ready (rs := [4]) (by kernel_rfl) (by simp) ?_
        refine AllReady.cons (o := { dst := some 37, op := Go.Op.call { callee := Go.Callee.builtin Go.Builtin.append, args := #[Go.Operand.tmp 33, Go.Operand.tmp 36], argTypes := #[33, 33] }, type := 33, pos := "ref.go:140", after := #[{ on := 0, ground := Go.Ground.data }, { on := 3, ground := Go.Ground.data }], guard := none }) rfl (fun K hK => ?_) ?_
        · -- 4: call
          refine wp_append_none _ (.tmp 33) (.tmp 36) 33 rfl 3 i0 Try.underlying33 HI.out g63 0 0 0 rfl rfl (Nat.le_refl _) ?_
          refine hK _ _ ?_; clear hK K
          try simp only [Act.put, List.setIfInBounds_toArray, List.set_cons_zero, List.set_cons_succ]
          refine wpAny_ready (rs := [7]) (by kernel_rfl) (by simp) ?_
          refine AllReady.cons (o := { dst := some 40, op := Go.Op.call { callee := Go.Callee.builtin Go.Builtin.append, args := #[Go.Operand.tmp 37, Go.Operand.tmp 39], argTypes := #[33, 33] }, type := 33, pos := "ref.go:140", after := #[{ on := 4, ground := Go.Ground.data }, { on := 6, ground := Go.Ground.data }, { on := 4, ground := Go.Ground.chain }], guard := none }) rfl (fun K hK => ?_) ?_
          · -- 7: call
            have hcl := one_cells nb_68.out
            have hlr := World.ownsRow.lt OE2.out
            refine wp_append_own _ (.tmp 37) (.tmp 39) 33 rfl w.heap.size 3 i0 _ 1 8 Try.underlying33 HI.out HZ0.out HZ1.out HZ2.out rfl (by omega) (.slice (some ⟨g63, 0, none⟩) 0 0) 0 ([]) rfl OE2.out ⟨g56, 0, none⟩ (1) (1) ([Value.int .i64 v]) rfl rfl hcl (by simp [Value.oneCell']) (by unfold maxLen; omega) (by omega) (Below.size bel_67.out) ?_
            intro v6 w_v6 hown_ hg_ _
            obtain ⟨Bv6, cv6, rfl, -⟩ := own_form hown_
            have k72 := Lib.hid (Below.grown bel_67.out hg_ (Below.size bel_67.out) (fun q e => (hlr q e).1))
            try simp only [Nat.zero_add, List.nil_append] at hown_
            try rw [Nat.zero_add]
            have O6 := Lib.hid hown_
            clear hown_ hg_ hcl hlr
            refine hK _ _ ?_; clear hK K
            try simp only [Act.put, List.setIfInBounds_toArray, List.set_cons_zero, List.set_cons_succ]
            refine wpAny_ready (rs := [11]) (by kernel_rfl) (by simp) ?_
            refine AllReady.cons (o := { dst := some 44, op := Go.Op.call { callee := Go.Callee.builtin Go.Builtin.append, args := #[Go.Operand.tmp 40, Go.Operand.tmp 43], argTypes := #[33, 33] }, type := 33, pos := "ref.go:140", after := #[{ on := 7, ground := Go.Ground.data }, { on := 10, ground := Go.Ground.data }, { on := 7, ground := Go.Ground.chain }], guard := none }) rfl (fun K hK => ?_) ?_
            · -- 11: call
              obtain ⟨g6, hg6, -⟩ := own_some2 O6.out (by omega)
              subst hg6
              refine wp_append_none _ (.tmp 40) (.tmp 43) 33 rfl 3 i0 Try.underlying33 HI.out g6 1 cv6 0 rfl rfl (OwnI.rd (show OwnI _ w.heap.size (some ⟨g6, 0, none⟩) 1 cv6 [v] from O6.out)).1.cap ?_
              refine hK _ _ ?_; clear hK K
              try simp only [Act.put, List.setIfInBounds_toArray, List.set_cons_zero, List.set_cons_succ]
              refine' wpAny_take (i := 12) (oi := { dst := some 4, op := Go.Op.assign (Go.Operand.tmp 44), type := 33, pos := "ref.go:140", after := #[{ on := 11, ground := Go.Ground.data }, { on := 11, ground := Go.Ground.chain }, { on := 0, ground := Go.Ground.phase }, { on := 1, ground := Go.Ground.phase }, { on := 2, ground := Go.Ground.phase }, { on := 3, ground := Go.Ground.phase }, { on := 4, ground := Go.Ground.phase }, { on := 5, ground := Go.Ground.phase }, { on := 6, ground := Go.Ground.phase }, { on := 7, ground := Go.Ground.phase }, { on := 8, ground := Go.Ground.phase }, { on := 9, ground := Go.Ground.phase }, { on := 10, ground := Go.Ground.phase }, { on := 11, ground := Go.Ground.phase }], guard := none }) (v := _) rfl (by kernel_rfl) (by kernel_rfl) (by kernel_rfl) (fun _ _ _ h => h) (Or.inl ⟨by rfl, ?hyR73⟩)  ?reR73
              case hyR73 => ((intro w); go_simp; try with_reducible rfl)
              try simp only [Act.put, List.setIfInBounds_toArray, List.set_cons_zero, List.set_cons_succ]
              refine wpAny_done (by kernel_rfl) ?_ _
              go_wp2
              go_ret
              exact ⟨some ⟨g6, 0, none⟩, 1, cv6, rfl, owns_base O6.out hbase, k72.out⟩
            exact AllReady.nil
          exact AllReady.nil
        exact AllReady.nil
      exact AllReady.nil
    exact AllReady.nil

set_option maxRecDepth 100000 in
set_option maxHeartbeats 8000000 in
theorem with_some (base : Nat) (A : Option Addr) (n c : Nat) (L : List Int) (v : Int) (w : World) (hbase : base ≤ w.heap.size) (ho : OwnI w base A n c L) (hn1 : 1 ≤ n) (hn : n ≤ 1000) :
    Calls Try.prog 116 #[.slice A n c, .int .i64 v] w fun e w' => ∃ B m d, e = .returned (.slice B m d) ∧ OwnI w' base B m d (insU v L) ∧ Below w.heap.size w w' := by
  have hr := (OwnI.rd ho).1
  have hln := hr.len
  have hcp := hr.cap
  obtain ⟨b, o, rfl⟩ := rdI_some hr (List.getElem?_eq_getElem (show 0 < L.length by omega))
  obtain ⟨i0, hi0, hz0, hz1, hz2⟩ := info_parts infoI
  have HI := Lib.hid hi0; have HZ0 := Lib.hid hz0; have HZ1 := Lib.hid hz1; have HZ2 := Lib.hid hz2; clear hi0 hz0 hz1 hz2
  have HR := Lib.hid hr; have HO := Lib.hid ho; have HLN := Lib.hid hln; have KE := Lib.hid (Below.drew (Below.refl w.heap.size w)); clear hr ho
  go_enter Try.func116, Try.ntmps116
  go_wp2
  go_loopw [5] (fun i wr => ∃ q : Nat, q ≤ n ∧ i = .int .i64 q ∧ (∀ x ∈ L.take q, x < v) ∧ w = wr) (fun i _ => n - (intOf i).toNat)
  case atStart => exact ⟨0, Nat.zero_le _, rfl, by simp, (by first | rfl | trivial)⟩
  case round =>
    obtain ⟨q, hq, rfl, hall, rfl⟩ := hrel
    have HALL := Lib.hid hall; clear hall
    have hrest : (∀ x, L[q]? = some x → v < x) → insU v L = L.take q ++ v :: L.drop q := fun h => insU_at (by omega) HALL.out h
    have HREST := Lib.hid hrest; clear hrest
    have HS3 := Lib.hid (head_slice b o n c q (by omega))
    have hs8 := tail_slice b o n c q (by omega)
    have htc := fun w' (h : RdI w' (some ⟨b, o, none⟩) n c L) => tail_cells h q
    generalize (if c = q then o else o + q) = ot at hs8 htc
    have HS8 := Lib.hid hs8; have HTC := Lib.hid htc; clear hs8 htc
    by_cases hqn : q < n
    · have hqn' : (q : Int) < n := by omega
      obtain ⟨x, hx⟩ : ∃ x, L[q]? = some x := ⟨L[q]'(by omega), List.getElem?_eq_getElem _⟩
      obtain ⟨ca, cl⟩ := rdI_at HR.out hx
      have HX := Lib.hid hx; clear hx
      by_cases h1 : x < v
      · have d1 : decide (x < v) = true := decide_eq_true h1
        go_wp2
        go_roundw
        case rel => exact ⟨q + 1, by omega, by go_num, fun y hy => by (rw [List.take_add_one, HX.out] at hy; rcases List.mem_append.1 hy with h | h; exact HALL.out y h; simp at h; omega), (by first | rfl | trivial)⟩
        case measure => simp [intOf]; omega
      · have d1 : decide (x < v) = false := decide_eq_false h1
        by_cases h2 : x = v
        · subst h2
          have d2 : (x == x) = true := beq_self_eq_true x
          have e := insU_same HALL.out HX.out
          have HEQ := Lib.hid e; clear e
          go_wp2
          go_ret
          exact ⟨_, n, c, rfl, by rw [HEQ.out]; exact HO.out, Below.refl _ _⟩
        · have d2 : (x == v) = false := beq_eq_false_iff_ne.2 h2
          have d3 : decide (x = v) = false := decide_eq_false h2
          have HINS := Lib.hid (HREST.out (fun y hy => by rw [HX.out] at hy; injection hy with hy; omega))
          go_wp2_with fail
          clear ca cl d1 d2 d3
          refine wp_region_any (by kernel_rfl) ?_
          change wpAny _ _ _ _ _ _ _ (World.drew _)
          obtain ⟨w74, hw75⟩ : ∃ w', w' = w.drew := ⟨_, rfl⟩
          rw [← hw75] at KE
          rw [← hw75]
          clear hw75
          refine' wpAny_take (i := 1) (oi := { dst := some 34, op := Go.Op.move (Go.Operand.tmp 0), type := 33, pos := "ref.go:140", after := #[], guard := none }) (v := _) rfl (by kernel_rfl) (by kernel_rfl) (by kernel_rfl) (fun _ _ _ h => h) (Or.inl ⟨by rfl, ?hyR76⟩)  ?reR76
          case hyR76 => ((intro w); go_simp; try with_reducible rfl)
          try simp only [Act.put, List.setIfInBounds_toArray, List.set_cons_zero, List.set_cons_succ]
          refine' wpAny_take (i := 2) (oi := { dst := some 35, op := Go.Op.move (Go.Operand.tmp 5), type := 3, pos := "ref.go:140", after := #[], guard := none }) (v := _) rfl (by kernel_rfl) (by kernel_rfl) (by kernel_rfl) (fun _ _ _ h => h) (Or.inl ⟨by rfl, ?hyR77⟩)  ?reR77
          case hyR77 => ((intro w); go_simp; try with_reducible rfl)
          try simp only [Act.put, List.setIfInBounds_toArray, List.set_cons_zero, List.set_cons_succ]
          refine' wpAny_take (i := 3) (oi := { dst := some 36, op := Go.Op.slice 33 (Go.Operand.tmp 34) none (some (Go.Operand.tmp 35)) none, type := 33, pos := "ref.go:140", after := #[{ on := 1, ground := Go.Ground.data }, { on := 2, ground := Go.Ground.data }], guard := none }) (v := _) rfl (by kernel_rfl) (by kernel_rfl) (by kernel_rfl) (fun _ _ _ h => h) (Or.inl ⟨by rfl, ?hyR78⟩)  ?reR78
          case hyR78 => (intro w; refine (exec_slice (w := w) 33 (.tmp 34) none (some (.tmp 35)) none (by rfl) (.slice (some ⟨b, o, none⟩) q c) (HS3.out w)).trans ?_; with_reducible rfl)
          try simp only [Act.put, List.setIfInBounds_toArray, List.set_cons_zero, List.set_cons_succ]
          refine' wpAny_take (i := 5) (oi := { dst := some 38, op := Go.Op.move (Go.Operand.tmp 1), type := 3, pos := "ref.go:140", after := #[], guard := none }) (v := _) rfl (by kernel_rfl) (by kernel_rfl) (by kernel_rfl) (fun _ _ _ h => h) (Or.inl ⟨by rfl, ?hyR79⟩)  ?reR79
          case hyR79 => ((intro w); go_simp; try with_reducible rfl)
          try simp only [Act.put, List.setIfInBounds_toArray, List.set_cons_zero, List.set_cons_succ]
          refine' wpAny_take (i := 8) (oi := { dst := some 41, op := Go.Op.move (Go.Operand.tmp 0), type := 33, pos := "ref.go:140", after := #[], guard := none }) (v := _) rfl (by kernel_rfl) (by kernel_rfl) (by kernel_rfl) (fun _ _ _ h => h) (Or.inl ⟨by rfl, ?hyR80⟩)  ?reR80
          case hyR80 => ((intro w); go_simp; try with_reducible rfl)
          try simp only [Act.put, List.setIfInBounds_toArray, List.set_cons_zero, List.set_cons_succ]
          refine' wpAny_take (i := 9) (oi := { dst := some 42, op := Go.Op.move (Go.Operand.tmp 5), type := 3, pos := "ref.go:140", after := #[], guard := none }) (v := _) rfl (by kernel_rfl) (by kernel_rfl) (by kernel_rfl) (fun _ _ _ h => h) (Or.inl ⟨by rfl, ?hyR81⟩)  ?reR81
          case hyR81 => ((intro w); go_simp; try with_reducible rfl)
          try simp only [Act.put, List.setIfInBounds_toArray, List.set_cons_zero, List.set_cons_succ]
          refine' wpAny_take (i := 10) (oi := { dst := some 43, op := Go.Op.slice 33 (Go.Operand.tmp 41) (some (Go.Operand.tmp 42)) none none, type := 33, pos := "ref.go:140", after := #[{ on := 8, ground := Go.Ground.data }, { on := 9, ground := Go.Ground.data }], guard := none }) (v := _) rfl (by kernel_rfl) (by kernel_rfl) (by kernel_rfl) (fun _ _ _ h => h) (Or.inl ⟨by rfl, ?hyR82⟩)  ?reR82
          case hyR82 => (intro w; refine (exec_slice (w := w) 33 (.tmp 41) (some (.tmp 42)) none none (by rfl) (.slice (some ⟨b, ot, none⟩) (n - q) (c - q)) (HS8.out w)).trans ?_; with_reducible rfl)
          try simp only [Act.put, List.setIfInBounds_toArray, List.set_cons_zero, List.set_cons_succ]
          refine wpAny_ready (rs := [0, 6]) (by kernel_rfl) (by simp) ?_
          refine AllReady.cons (o := { dst := some 33, op := Go.Op.buildSlice 33 0 #[], type := 33, pos := "ref.go:140", after := #[], guard := none }) rfl (fun K hK => ?_) ?_
          · -- 0: buildSlice
            go_simp
            have hr_ : ((w74).alloc (.cells #[] 3)).ownsRow (w74).heap.size 3 1 (.slice (some ⟨(w74).heap.size, 0, none⟩) 0 0) 0 [] := World.ownsRow_lit (w74) #[] 0 (Nat.le_refl _) (by unfold maxLen; omega) rfl
            have OE := Lib.hid hr_; clear hr_
            have bel_87 := Lib.hid (Below.alloc (KE.out) ((KE.out).size) (.cells #[] 3))
            have lb88 := Lib.hid (KE.out.size)
            have e_89 := Lib.hid (Blk.new (w74) 3 #[])
            obtain ⟨g83, hg84⟩ : ∃ g, g = (w74).heap.size := ⟨_, rfl⟩
            obtain ⟨w85, hw86⟩ : ∃ w', w' = (w74).alloc (.cells #[] 3) := ⟨_, rfl⟩
            rw [← hw86] at bel_87 e_89 OE
            rw [← hg84] at lb88 e_89 OE
            rw [← hg84, ← hw86]
            clear hg84 hw86
            have OE2 := Lib.hid (owns_base OE.out lb88.out)
            refine hK _ _ ?_; clear hK K
            try simp only [Act.put, List.setIfInBounds_toArray, List.set_cons_zero, List.set_cons_succ]
            refine wpAny_ready (rs := [4, 6]) (by kernel_rfl) (by simp) ?_
            refine AllReady.cons (o := { dst := some 37, op := Go.Op.call { callee := Go.Callee.builtin Go.Builtin.append, args := #[Go.Operand.tmp 33, Go.Operand.tmp 36], argTypes := #[33, 33] }, type := 33, pos := "ref.go:140", after := #[{ on := 0, ground := Go.Ground.data }, { on := 3, ground := Go.Ground.data }], guard := none }) rfl (fun K hK => ?_) ?_
            · -- 4: call
              have hcl := head_cells (HR.out.below bel_87.out) q
              have hlr := World.ownsRow.lt OE2.out
              refine wp_append_own _ (.tmp 33) (.tmp 36) 33 rfl w.heap.size 3 i0 _ 1 8 Try.underlying33 HI.out HZ0.out HZ1.out HZ2.out rfl (by omega) (.slice (some ⟨g83, 0, none⟩) 0 0) 0 ([]) rfl OE2.out ⟨b, o, none⟩ (q) (c) ((L.take q).map (Value.int .i64)) rfl (by rw [List.length_map, List.length_take, HLN.out]; omega) hcl (ints_one2 _) (by unfold maxLen; omega) (by omega) (Below.size bel_87.out) ?_
              intro v5 w_v5 hown_ hg_ _
              obtain ⟨Bv5, cv5, rfl, -⟩ := own_form hown_
              have k90 := Lib.hid (Below.grown bel_87.out hg_ (Below.size bel_87.out) (fun q e => (hlr q e).1))
              try simp only [Nat.zero_add, List.nil_append] at hown_
              try rw [Nat.zero_add]
              have O5 := Lib.hid hown_
              clear hown_ hg_ hcl hlr
              refine hK _ _ ?_; clear hK K
              try simp only [Act.put, List.setIfInBounds_toArray, List.set_cons_zero, List.set_cons_succ]
              refine wpAny_ready (rs := [6]) (by kernel_rfl) (by simp) ?_
              refine AllReady.cons (o := { dst := some 39, op := Go.Op.buildSlice 33 1 #[(0, Go.Operand.tmp 38)], type := 33, pos := "ref.go:140", after := #[{ on := 5, ground := Go.Ground.data }], guard := none }) rfl (fun K hK => ?_) ?_
              · -- 6: buildSlice
                go_simp
                have NLO := Lib.hid (fun (y : Nat) (e : (Value.slice Bv5 q cv5).ownBlock = some y) => show y < (w_v5).heap.size from (World.ownsRow.lt O5.out y e).2)
                have bel_95 := Lib.hid (Below.alloc (k90.out) ((k90.out).size) (.cells #[.int .i64 v] 3))
                have cp_96 := Lib.hid (World.ownsRow.alloc (O5.out) (.cells #[.int .i64 v] 3))
                have lb97 := Lib.hid (k90.out.size)
                have nb_98 := Lib.hid (Blk.new (w_v5) 3 #[.int .i64 v])
                obtain ⟨g91, hg92⟩ : ∃ g, g = (w_v5).heap.size := ⟨_, rfl⟩
                obtain ⟨w93, hw94⟩ : ∃ w', w' = (w_v5).alloc (.cells #[.int .i64 v] 3) := ⟨_, rfl⟩
                rw [← hw94] at bel_95 cp_96 nb_98
                rw [← hg92] at lb97 nb_98 NLO
                rw [← hg92, ← hw94]
                clear hg92 hw94
                have NEN := Lib.hid (fun (y : Nat) (e : (Value.slice Bv5 q cv5).ownBlock = some y) => show y ≠ g91 from Nat.ne_of_lt (NLO.out y e)); clear NLO
                refine hK _ _ ?_; clear hK K
                try simp only [Act.put, List.setIfInBounds_toArray, List.set_cons_zero, List.set_cons_succ]
                refine wpAny_ready (rs := [7]) (by kernel_rfl) (by simp) ?_
                refine AllReady.cons (o := { dst := some 40, op := Go.Op.call { callee := Go.Callee.builtin Go.Builtin.append, args := #[Go.Operand.tmp 37, Go.Operand.tmp 39], argTypes := #[33, 33] }, type := 33, pos := "ref.go:140", after := #[{ on := 4, ground := Go.Ground.data }, { on := 6, ground := Go.Ground.data }, { on := 4, ground := Go.Ground.chain }], guard := none }) rfl (fun K hK => ?_) ?_
                · -- 7: call
                  have hcl := one_cells nb_98.out
                  have hlr := World.ownsRow.lt cp_96.out
                  refine wp_append_own _ (.tmp 37) (.tmp 39) 33 rfl w.heap.size 3 i0 _ 1 8 Try.underlying33 HI.out HZ0.out HZ1.out HZ2.out rfl (by omega) (.slice Bv5 q cv5) q ((L.take q).map (Value.int .i64)) rfl cp_96.out ⟨g91, 0, none⟩ (1) (1) ([Value.int .i64 v]) rfl rfl hcl (by simp [Value.oneCell']) (by unfold maxLen; omega) (by omega) (Below.size bel_95.out) ?_
                  intro v6 w_v6 hown_ hg_ _
                  obtain ⟨Bv6, cv6, rfl, -⟩ := own_form hown_
                  have k99 := Lib.hid (Below.grown bel_95.out hg_ (Below.size bel_95.out) (fun q e => (hlr q e).1))
                  try simp only [Nat.zero_add, List.nil_append] at hown_
                  try rw [Nat.zero_add]
                  have O6 := Lib.hid hown_
                  clear hown_ hg_ hcl hlr
                  refine hK _ _ ?_; clear hK K
                  try simp only [Act.put, List.setIfInBounds_toArray, List.set_cons_zero, List.set_cons_succ]
                  refine wpAny_ready (rs := [11]) (by kernel_rfl) (by simp) ?_
                  refine AllReady.cons (o := { dst := some 44, op := Go.Op.call { callee := Go.Callee.builtin Go.Builtin.append, args := #[Go.Operand.tmp 40, Go.Operand.tmp 43], argTypes := #[33, 33] }, type := 33, pos := "ref.go:140", after := #[{ on := 7, ground := Go.Ground.data }, { on := 10, ground := Go.Ground.data }, { on := 7, ground := Go.Ground.chain }], guard := none }) rfl (fun K hK => ?_) ?_
                  · -- 11: call
                    have hcl := HTC.out _ (HR.out.below k99.out)
                    have hlr := World.ownsRow.lt O6.out
                    refine wp_append_own _ (.tmp 40) (.tmp 43) 33 rfl w.heap.size 3 i0 _ 1 8 Try.underlying33 HI.out HZ0.out HZ1.out HZ2.out rfl (by omega) (.slice Bv6 (q + 1) cv6) (q + 1) (((L.take q).map (Value.int .i64)) ++ [Value.int .i64 v]) rfl O6.out ⟨b, ot, none⟩ (n - q) (c - q) ((L.drop q).map (Value.int .i64)) rfl (by rw [List.length_map, List.length_drop, HLN.out]; omega) hcl (ints_one2 _) (by unfold maxLen; omega) (by omega) (Below.size k99.out) ?_
                    intro v8 w_v8 hown_ hg_ _
                    obtain ⟨Bv8, cv8, rfl, -⟩ := own_form hown_
                    have k100 := Lib.hid (Below.grown k99.out hg_ (Below.size k99.out) (fun q e => (hlr q e).1))
                    try simp only [Nat.zero_add, List.nil_append] at hown_
                    try rw [Nat.zero_add]
                    have O8 := Lib.hid hown_
                    clear hown_ hg_ hcl hlr
                    refine hK _ _ ?_; clear hK K
                    try simp only [Act.put, List.setIfInBounds_toArray, List.set_cons_zero, List.set_cons_succ]
                    refine' wpAny_take (i := 12) (oi := { dst := some 4, op := Go.Op.assign (Go.Operand.tmp 44), type := 33, pos := "ref.go:140", after := #[{ on := 11, ground := Go.Ground.data }, { on := 11, ground := Go.Ground.chain }, { on := 0, ground := Go.Ground.phase }, { on := 1, ground := Go.Ground.phase }, { on := 2, ground := Go.Ground.phase }, { on := 3, ground := Go.Ground.phase }, { on := 4, ground := Go.Ground.phase }, { on := 5, ground := Go.Ground.phase }, { on := 6, ground := Go.Ground.phase }, { on := 7, ground := Go.Ground.phase }, { on := 8, ground := Go.Ground.phase }, { on := 9, ground := Go.Ground.phase }, { on := 10, ground := Go.Ground.phase }, { on := 11, ground := Go.Ground.phase }], guard := none }) (v := _) rfl (by kernel_rfl) (by kernel_rfl) (by kernel_rfl) (fun _ _ _ h => h) (Or.inl ⟨by rfl, ?hyR101⟩)  ?reR101
                    case hyR101 => ((intro w); go_simp; try with_reducible rfl)
                    try simp only [Act.put, List.setIfInBounds_toArray, List.set_cons_zero, List.set_cons_succ]
                    refine wpAny_done (by kernel_rfl) ?_ _
                    go_wp2
                    go_ret
                    refine ⟨Bv8, _, cv8, ret_slice rfl, ?_, k100.out⟩
                    have h := owns_base O8.out hbase
                    rw [← List.map_singleton (f := Value.int .i64), ← List.map_append, ← List.map_append, List.append_assoc, List.singleton_append, ← HINS.out] at h
                    exact h
                  exact AllReady.nil
                exact AllReady.nil
              exact AllReady.nil
            refine AllReady.cons (o := { dst := some 39, op := Go.Op.buildSlice 33 1 #[(0, Go.Operand.tmp 38)], type := 33, pos := "ref.go:140", after := #[{ on := 5, ground := Go.Ground.data }], guard := none }) rfl (fun K hK => ?_) ?_
            · -- 6: buildSlice
              go_simp
              have NLO := Lib.hid (fun (y : Nat) (e : (Value.slice (some ⟨g83, 0, none⟩) 0 0).ownBlock = some y) => show y < (w85).heap.size from (World.ownsRow.lt OE2.out y e).2)
              have bel_106 := Lib.hid (Below.alloc (bel_87.out) ((bel_87.out).size) (.cells #[.int .i64 v] 3))
              have cp_107 := Lib.hid (World.ownsRow.alloc (OE2.out) (.cells #[.int .i64 v] 3))
              have lb108 := Lib.hid (bel_87.out.size)
              have nb_109 := Lib.hid (Blk.new (w85) 3 #[.int .i64 v])
              obtain ⟨g102, hg103⟩ : ∃ g, g = (w85).heap.size := ⟨_, rfl⟩
              obtain ⟨w104, hw105⟩ : ∃ w', w' = (w85).alloc (.cells #[.int .i64 v] 3) := ⟨_, rfl⟩
              rw [← hw105] at bel_106 cp_107 nb_109
              rw [← hg103] at lb108 nb_109 NLO
              rw [← hg103, ← hw105]
              clear hg103 hw105
              have NEN := Lib.hid (fun (y : Nat) (e : (Value.slice (some ⟨g83, 0, none⟩) 0 0).ownBlock = some y) => show y ≠ g102 from Nat.ne_of_lt (NLO.out y e)); clear NLO
              refine hK _ _ ?_; clear hK K
              try simp only [Act.put, List.setIfInBounds_toArray, List.set_cons_zero, List.set_cons_succ]
              refine wpAny_ready (rs := [4]) (by kernel_rfl) (by simp) ?_
              refine AllReady.cons (o := { dst := some 37, op := Go.Op.call { callee := Go.Callee.builtin Go.Builtin.append, args := #[Go.Operand.tmp 33, Go.Operand.tmp 36], argTypes := #[33, 33] }, type := 33, pos := "ref.go:140", after := #[{ on := 0, ground := Go.Ground.data }, { on := 3, ground := Go.Ground.data }], guard := none }) rfl (fun K hK => ?_) ?_
              · -- 4: call
                have hcl := head_cells (HR.out.below bel_106.out) q
                have hlr := World.ownsRow.lt cp_107.out
                refine wp_append_own _ (.tmp 33) (.tmp 36) 33 rfl w.heap.size 3 i0 _ 1 8 Try.underlying33 HI.out HZ0.out HZ1.out HZ2.out rfl (by omega) (.slice (some ⟨g83, 0, none⟩) 0 0) 0 ([]) rfl cp_107.out ⟨b, o, none⟩ (q) (c) ((L.take q).map (Value.int .i64)) rfl (by rw [List.length_map, List.length_take, HLN.out]; omega) hcl (ints_one2 _) (by unfold maxLen; omega) (by omega) (Below.size bel_106.out) ?_
                intro v5 w_v5 hown_ hg_ _
                obtain ⟨Bv5, cv5, rfl, -⟩ := own_form hown_
                have k110 := Lib.hid (Below.grown bel_106.out hg_ (Below.size bel_106.out) (fun q e => (hlr q e).1))
                try simp only [Nat.zero_add, List.nil_append] at hown_
                try rw [Nat.zero_add]
                have O5 := Lib.hid hown_
                have k111 := Lib.hid (blk_grown nb_109.out hg_ (fun e => NEN.out _ e rfl))
                clear hown_ hg_ hcl hlr
                refine hK _ _ ?_; clear hK K
                try simp only [Act.put, List.setIfInBounds_toArray, List.set_cons_zero, List.set_cons_succ]
                refine wpAny_ready (rs := [7]) (by kernel_rfl) (by simp) ?_
                refine AllReady.cons (o := { dst := some 40, op := Go.Op.call { callee := Go.Callee.builtin Go.Builtin.append, args := #[Go.Operand.tmp 37, Go.Operand.tmp 39], argTypes := #[33, 33] }, type := 33, pos := "ref.go:140", after := #[{ on := 4, ground := Go.Ground.data }, { on := 6, ground := Go.Ground.data }, { on := 4, ground := Go.Ground.chain }], guard := none }) rfl (fun K hK => ?_) ?_
                · -- 7: call
                  have hcl := one_cells k111.out
                  have hlr := World.ownsRow.lt O5.out
                  refine wp_append_own _ (.tmp 37) (.tmp 39) 33 rfl w.heap.size 3 i0 _ 1 8 Try.underlying33 HI.out HZ0.out HZ1.out HZ2.out rfl (by omega) (.slice Bv5 q cv5) q ((L.take q).map (Value.int .i64)) rfl O5.out ⟨g102, 0, none⟩ (1) (1) ([Value.int .i64 v]) rfl rfl hcl (by simp [Value.oneCell']) (by unfold maxLen; omega) (by omega) (Below.size k110.out) ?_
                  intro v6 w_v6 hown_ hg_ _
                  obtain ⟨Bv6, cv6, rfl, -⟩ := own_form hown_
                  have k112 := Lib.hid (Below.grown k110.out hg_ (Below.size k110.out) (fun q e => (hlr q e).1))
                  try simp only [Nat.zero_add, List.nil_append] at hown_
                  try rw [Nat.zero_add]
                  have O6 := Lib.hid hown_
                  clear hown_ hg_ hcl hlr
                  refine hK _ _ ?_; clear hK K
                  try simp only [Act.put, List.setIfInBounds_toArray, List.set_cons_zero, List.set_cons_succ]
                  refine wpAny_ready (rs := [11]) (by kernel_rfl) (by simp) ?_
                  refine AllReady.cons (o := { dst := some 44, op := Go.Op.call { callee := Go.Callee.builtin Go.Builtin.append, args := #[Go.Operand.tmp 40, Go.Operand.tmp 43], argTypes := #[33, 33] }, type := 33, pos := "ref.go:140", after := #[{ on := 7, ground := Go.Ground.data }, { on := 10, ground := Go.Ground.data }, { on := 7, ground := Go.Ground.chain }], guard := none }) rfl (fun K hK => ?_) ?_
                  · -- 11: call
                    have hcl := HTC.out _ (HR.out.below k112.out)
                    have hlr := World.ownsRow.lt O6.out
                    refine wp_append_own _ (.tmp 40) (.tmp 43) 33 rfl w.heap.size 3 i0 _ 1 8 Try.underlying33 HI.out HZ0.out HZ1.out HZ2.out rfl (by omega) (.slice Bv6 (q + 1) cv6) (q + 1) (((L.take q).map (Value.int .i64)) ++ [Value.int .i64 v]) rfl O6.out ⟨b, ot, none⟩ (n - q) (c - q) ((L.drop q).map (Value.int .i64)) rfl (by rw [List.length_map, List.length_drop, HLN.out]; omega) hcl (ints_one2 _) (by unfold maxLen; omega) (by omega) (Below.size k112.out) ?_
                    intro v8 w_v8 hown_ hg_ _
                    obtain ⟨Bv8, cv8, rfl, -⟩ := own_form hown_
                    have k113 := Lib.hid (Below.grown k112.out hg_ (Below.size k112.out) (fun q e => (hlr q e).1))
                    try simp only [Nat.zero_add, List.nil_append] at hown_
                    try rw [Nat.zero_add]
                    have O8 := Lib.hid hown_
                    clear hown_ hg_ hcl hlr
                    refine hK _ _ ?_; clear hK K
                    try simp only [Act.put, List.setIfInBounds_toArray, List.set_cons_zero, List.set_cons_succ]
                    refine' wpAny_take (i := 12) (oi := { dst := some 4, op := Go.Op.assign (Go.Operand.tmp 44), type := 33, pos := "ref.go:140", after := #[{ on := 11, ground := Go.Ground.data }, { on := 11, ground := Go.Ground.chain }, { on := 0, ground := Go.Ground.phase }, { on := 1, ground := Go.Ground.phase }, { on := 2, ground := Go.Ground.phase }, { on := 3, ground := Go.Ground.phase }, { on := 4, ground := Go.Ground.phase }, { on := 5, ground := Go.Ground.phase }, { on := 6, ground := Go.Ground.phase }, { on := 7, ground := Go.Ground.phase }, { on := 8, ground := Go.Ground.phase }, { on := 9, ground := Go.Ground.phase }, { on := 10, ground := Go.Ground.phase }, { on := 11, ground := Go.Ground.phase }], guard := none }) (v := _) rfl (by kernel_rfl) (by kernel_rfl) (by kernel_rfl) (fun _ _ _ h => h) (Or.inl ⟨by rfl, ?hyR114⟩)  ?reR114
                    case hyR114 => ((intro w); go_simp; try with_reducible rfl)
                    try simp only [Act.put, List.setIfInBounds_toArray, List.set_cons_zero, List.set_cons_succ]
                    refine wpAny_done (by kernel_rfl) ?_ _
                    go_wp2
                    go_ret
                    refine ⟨Bv8, _, cv8, ret_slice rfl, ?_, k113.out⟩
                    have h := owns_base O8.out hbase
                    rw [← List.map_singleton (f := Value.int .i64), ← List.map_append, ← List.map_append, List.append_assoc, List.singleton_append, ← HINS.out] at h
                    exact h
                  exact AllReady.nil
                exact AllReady.nil
              exact AllReady.nil
            exact AllReady.nil
          refine AllReady.cons (o := { dst := some 39, op := Go.Op.buildSlice 33 1 #[(0, Go.Operand.tmp 38)], type := 33, pos := "ref.go:140", after := #[{ on := 5, ground := Go.Ground.data }], guard := none }) rfl (fun K hK => ?_) ?_
          · -- 6: buildSlice
            go_simp
            have bel_119 := Lib.hid (Below.alloc (KE.out) ((KE.out).size) (.cells #[.int .i64 v] 3))
            have lb120 := Lib.hid (KE.out.size)
            have nb_121 := Lib.hid (Blk.new (w74) 3 #[.int .i64 v])
            obtain ⟨g115, hg116⟩ : ∃ g, g = (w74).heap.size := ⟨_, rfl⟩
            obtain ⟨w117, hw118⟩ : ∃ w', w' = (w74).alloc (.cells #[.int .i64 v] 3) := ⟨_, rfl⟩
            rw [← hw118] at bel_119 nb_121
            rw [← hg116] at lb120 nb_121
            rw [← hg116, ← hw118]
            clear hg116 hw118
            refine hK _ _ ?_; clear hK K
            try simp only [Act.put, List.setIfInBounds_toArray, List.set_cons_zero, List.set_cons_succ]
            refine wpAny_ready (rs := [0]) (by kernel_rfl) (by simp) ?_
            refine AllReady.cons (o := { dst := some 33, op := Go.Op.buildSlice 33 0 #[], type := 33, pos := "ref.go:140", after := #[], guard := none }) rfl (fun K hK => ?_) ?_
            · -- 0: buildSlice
              go_simp
              have hr_ : ((w117).alloc (.cells #[] 3)).ownsRow (w117).heap.size 3 1 (.slice (some ⟨(w117).heap.size, 0, none⟩) 0 0) 0 [] := World.ownsRow_lit (w117) #[] 0 (Nat.le_refl _) (by unfold maxLen; omega) rfl
              have OE := Lib.hid hr_; clear hr_
              have bel_126 := Lib.hid (Below.alloc (bel_119.out) ((bel_119.out).size) (.cells #[] 3))
              have nb_127 := Lib.hid (Blk.alloc (nb_121.out) (.cells #[] 3))
              have lb128 := Lib.hid (bel_119.out.size)
              have ne129 := Lib.hid (Nat.ne_of_lt (Blk.lt nb_121.out))
              have e_130 := Lib.hid (Blk.new (w117) 3 #[])
              obtain ⟨g122, hg123⟩ : ∃ g, g = (w117).heap.size := ⟨_, rfl⟩
              obtain ⟨w124, hw125⟩ : ∃ w', w' = (w117).alloc (.cells #[] 3) := ⟨_, rfl⟩
              rw [← hw125] at bel_126 nb_127 e_130 OE
              rw [← hg123] at lb128 ne129 e_130 OE
              rw [← hg123, ← hw125]
              clear hg123 hw125
              have OE2 := Lib.hid (owns_base OE.out lb128.out)
              have NEN := Lib.hid (fun (y : Nat) (e : (Value.slice (some ⟨g122, 0, none⟩) 0 0).ownBlock = some y) => show y ≠ g115 from by (cases e; exact Ne.symm ne129.out))
              refine hK _ _ ?_; clear hK K
              try simp only [Act.put, List.setIfInBounds_toArray, List.set_cons_zero, List.set_cons_succ]
              refine wpAny_ready (rs := [4]) (by kernel_rfl) (by simp) ?_
              refine AllReady.cons (o := { dst := some 37, op := Go.Op.call { callee := Go.Callee.builtin Go.Builtin.append, args := #[Go.Operand.tmp 33, Go.Operand.tmp 36], argTypes := #[33, 33] }, type := 33, pos := "ref.go:140", after := #[{ on := 0, ground := Go.Ground.data }, { on := 3, ground := Go.Ground.data }], guard := none }) rfl (fun K hK => ?_) ?_
              · -- 4: call
                have hcl := head_cells (HR.out.below bel_126.out) q
                have hlr := World.ownsRow.lt OE2.out
                refine wp_append_own _ (.tmp 33) (.tmp 36) 33 rfl w.heap.size 3 i0 _ 1 8 Try.underlying33 HI.out HZ0.out HZ1.out HZ2.out rfl (by omega) (.slice (some ⟨g122, 0, none⟩) 0 0) 0 ([]) rfl OE2.out ⟨b, o, none⟩ (q) (c) ((L.take q).map (Value.int .i64)) rfl (by rw [List.length_map, List.length_take, HLN.out]; omega) hcl (ints_one2 _) (by unfold maxLen; omega) (by omega) (Below.size bel_126.out) ?_
                intro v5 w_v5 hown_ hg_ _
                obtain ⟨Bv5, cv5, rfl, -⟩ := own_form hown_
                have k131 := Lib.hid (Below.grown bel_126.out hg_ (Below.size bel_126.out) (fun q e => (hlr q e).1))
                try simp only [Nat.zero_add, List.nil_append] at hown_
                try rw [Nat.zero_add]
                have O5 := Lib.hid hown_
                have k132 := Lib.hid (blk_grown nb_127.out hg_ (fun e => NEN.out _ e rfl))
                clear hown_ hg_ hcl hlr
                refine hK _ _ ?_; clear hK K
                try simp only [Act.put, List.setIfInBounds_toArray, List.set_cons_zero, List.set_cons_succ]
                refine wpAny_ready (rs := [7]) (by kernel_rfl) (by simp) ?_
                refine AllReady.cons (o := { dst := some 40, op := Go.Op.call { callee := Go.Callee.builtin Go.Builtin.append, args := #[Go.Operand.tmp 37, Go.Operand.tmp 39], argTypes := #[33, 33] }, type := 33, pos := "ref.go:140", after := #[{ on := 4, ground := Go.Ground.data }, { on := 6, ground := Go.Ground.data }, { on := 4, ground := Go.Ground.chain }], guard := none }) rfl (fun K hK => ?_) ?_
                · -- 7: call
                  have hcl := one_cells k132.out
                  have hlr := World.ownsRow.lt O5.out
                  refine wp_append_own _ (.tmp 37) (.tmp 39) 33 rfl w.heap.size 3 i0 _ 1 8 Try.underlying33 HI.out HZ0.out HZ1.out HZ2.out rfl (by omega) (.slice Bv5 q cv5) q ((L.take q).map (Value.int .i64)) rfl O5.out ⟨g115, 0, none⟩ (1) (1) ([Value.int .i64 v]) rfl rfl hcl (by simp [Value.oneCell']) (by unfold maxLen; omega) (by omega) (Below.size k131.out) ?_
                  intro v6 w_v6 hown_ hg_ _
                  obtain ⟨Bv6, cv6, rfl, -⟩ := own_form hown_
                  have k133 := Lib.hid (Below.grown k131.out hg_ (Below.size k131.out) (fun q e => (hlr q e).1))
                  try simp only [Nat.zero_add, List.nil_append] at hown_
                  try rw [Nat.zero_add]
                  have O6 := Lib.hid hown_
                  clear hown_ hg_ hcl hlr
                  refine hK _ _ ?_; clear hK K
                  try simp only [Act.put, List.setIfInBounds_toArray, List.set_cons_zero, List.set_cons_succ]
                  refine wpAny_ready (rs := [11]) (by kernel_rfl) (by simp) ?_
                  refine AllReady.cons (o := { dst := some 44, op := Go.Op.call { callee := Go.Callee.builtin Go.Builtin.append, args := #[Go.Operand.tmp 40, Go.Operand.tmp 43], argTypes := #[33, 33] }, type := 33, pos := "ref.go:140", after := #[{ on := 7, ground := Go.Ground.data }, { on := 10, ground := Go.Ground.data }, { on := 7, ground := Go.Ground.chain }], guard := none }) rfl (fun K hK => ?_) ?_
                  · -- 11: call
                    have hcl := HTC.out _ (HR.out.below k133.out)
                    have hlr := World.ownsRow.lt O6.out
                    refine wp_append_own _ (.tmp 40) (.tmp 43) 33 rfl w.heap.size 3 i0 _ 1 8 Try.underlying33 HI.out HZ0.out HZ1.out HZ2.out rfl (by omega) (.slice Bv6 (q + 1) cv6) (q + 1) (((L.take q).map (Value.int .i64)) ++ [Value.int .i64 v]) rfl O6.out ⟨b, ot, none⟩ (n - q) (c - q) ((L.drop q).map (Value.int .i64)) rfl (by rw [List.length_map, List.length_drop, HLN.out]; omega) hcl (ints_one2 _) (by unfold maxLen; omega) (by omega) (Below.size k133.out) ?_
                    intro v8 w_v8 hown_ hg_ _
                    obtain ⟨Bv8, cv8, rfl, -⟩ := own_form hown_
                    have k134 := Lib.hid (Below.grown k133.out hg_ (Below.size k133.out) (fun q e => (hlr q e).1))
                    try simp only [Nat.zero_add, List.nil_append] at hown_
                    try rw [Nat.zero_add]
                    have O8 := Lib.hid hown_
                    clear hown_ hg_ hcl hlr
                    refine hK _ _ ?_; clear hK K
                    try simp only [Act.put, List.setIfInBounds_toArray, List.set_cons_zero, List.set_cons_succ]
                    refine' wpAny_take (i := 12) (oi := { dst := some 4, op := Go.Op.assign (Go.Operand.tmp 44), type := 33, pos := "ref.go:140", after := #[{ on := 11, ground := Go.Ground.data }, { on := 11, ground := Go.Ground.chain }, { on := 0, ground := Go.Ground.phase }, { on := 1, ground := Go.Ground.phase }, { on := 2, ground := Go.Ground.phase }, { on := 3, ground := Go.Ground.phase }, { on := 4, ground := Go.Ground.phase }, { on := 5, ground := Go.Ground.phase }, { on := 6, ground := Go.Ground.phase }, { on := 7, ground := Go.Ground.phase }, { on := 8, ground := Go.Ground.phase }, { on := 9, ground := Go.Ground.phase }, { on := 10, ground := Go.Ground.phase }, { on := 11, ground := Go.Ground.phase }], guard := none }) (v := _) rfl (by kernel_rfl) (by kernel_rfl) (by kernel_rfl) (fun _ _ _ h => h) (Or.inl ⟨by rfl, ?hyR135⟩)  ?reR135
                    case hyR135 => ((intro w); go_simp; try with_reducible rfl)
                    try simp only [Act.put, List.setIfInBounds_toArray, List.set_cons_zero, List.set_cons_succ]
                    refine wpAny_done (by kernel_rfl) ?_ _
                    go_wp2
                    go_ret
                    refine ⟨Bv8, _, cv8, ret_slice rfl, ?_, k134.out⟩
                    have h := owns_base O8.out hbase
                    rw [← List.map_singleton (f := Value.int .i64), ← List.map_append, ← List.map_append, List.append_assoc, List.singleton_append, ← HINS.out] at h
                    exact h
                  exact AllReady.nil
                exact AllReady.nil
              exact AllReady.nil
            exact AllReady.nil
          exact AllReady.nil
    · have hq1 : ¬ (q : Int) < n := by omega
      have hq2 : decide ((q : Int) < n) = false := decide_eq_false hq1
      have HINS := Lib.hid (HREST.out (fun y hy => by have := (List.getElem?_eq_some_iff.1 hy).1; omega))
      go_wp2_with fail
      refine wp_region_any (by kernel_rfl) ?_
      change wpAny _ _ _ _ _ _ _ (World.drew _)
      obtain ⟨w136, hw137⟩ : ∃ w', w' = w.drew := ⟨_, rfl⟩
      rw [← hw137] at KE
      rw [← hw137]
      clear hw137
      refine' wpAny_take (i := 1) (oi := { dst := some 34, op := Go.Op.move (Go.Operand.tmp 0), type := 33, pos := "ref.go:140", after := #[], guard := none }) (v := _) rfl (by kernel_rfl) (by kernel_rfl) (by kernel_rfl) (fun _ _ _ h => h) (Or.inl ⟨by rfl, ?hyR138⟩)  ?reR138
      case hyR138 => ((intro w); go_simp; try with_reducible rfl)
      try simp only [Act.put, List.setIfInBounds_toArray, List.set_cons_zero, List.set_cons_succ]
      refine' wpAny_take (i := 2) (oi := { dst := some 35, op := Go.Op.move (Go.Operand.tmp 5), type := 3, pos := "ref.go:140", after := #[], guard := none }) (v := _) rfl (by kernel_rfl) (by kernel_rfl) (by kernel_rfl) (fun _ _ _ h => h) (Or.inl ⟨by rfl, ?hyR139⟩)  ?reR139
      case hyR139 => ((intro w); go_simp; try with_reducible rfl)
      try simp only [Act.put, List.setIfInBounds_toArray, List.set_cons_zero, List.set_cons_succ]
      refine' wpAny_take (i := 3) (oi := { dst := some 36, op := Go.Op.slice 33 (Go.Operand.tmp 34) none (some (Go.Operand.tmp 35)) none, type := 33, pos := "ref.go:140", after := #[{ on := 1, ground := Go.Ground.data }, { on := 2, ground := Go.Ground.data }], guard := none }) (v := _) rfl (by kernel_rfl) (by kernel_rfl) (by kernel_rfl) (fun _ _ _ h => h) (Or.inl ⟨by rfl, ?hyR140⟩)  ?reR140
      case hyR140 => (intro w; refine (exec_slice (w := w) 33 (.tmp 34) none (some (.tmp 35)) none (by rfl) (.slice (some ⟨b, o, none⟩) q c) (HS3.out w)).trans ?_; with_reducible rfl)
      try simp only [Act.put, List.setIfInBounds_toArray, List.set_cons_zero, List.set_cons_succ]
      refine' wpAny_take (i := 5) (oi := { dst := some 38, op := Go.Op.move (Go.Operand.tmp 1), type := 3, pos := "ref.go:140", after := #[], guard := none }) (v := _) rfl (by kernel_rfl) (by kernel_rfl) (by kernel_rfl) (fun _ _ _ h => h) (Or.inl ⟨by rfl, ?hyR141⟩)  ?reR141
      case hyR141 => ((intro w); go_simp; try with_reducible rfl)
      try simp only [Act.put, List.setIfInBounds_toArray, List.set_cons_zero, List.set_cons_succ]
      refine' wpAny_take (i := 8) (oi := { dst := some 41, op := Go.Op.move (Go.Operand.tmp 0), type := 33, pos := "ref.go:140", after := #[], guard := none }) (v := _) rfl (by kernel_rfl) (by kernel_rfl) (by kernel_rfl) (fun _ _ _ h => h) (Or.inl ⟨by rfl, ?hyR142⟩)  ?reR142
      case hyR142 => ((intro w); go_simp; try with_reducible rfl)
      try simp only [Act.put, List.setIfInBounds_toArray, List.set_cons_zero, List.set_cons_succ]
      refine' wpAny_take (i := 9) (oi := { dst := some 42, op := Go.Op.move (Go.Operand.tmp 5), type := 3, pos := "ref.go:140", after := #[], guard := none }) (v := _) rfl (by kernel_rfl) (by kernel_rfl) (by kernel_rfl) (fun _ _ _ h => h) (Or.inl ⟨by rfl, ?hyR143⟩)  ?reR143
      case hyR143 => ((intro w); go_simp; try with_reducible rfl)
      try simp only [Act.put, List.setIfInBounds_toArray, List.set_cons_zero, List.set_cons_succ]
      refine' wpAny_take (i := 10) (oi := { dst := some 43, op := Go.Op.slice 33 (Go.Operand.tmp 41) (some (Go.Operand.tmp 42)) none none, type := 33, pos := "ref.go:140", after := #[{ on := 8, ground := Go.Ground.data }, { on := 9, ground := Go.Ground.data }], guard := none }) (v := _) rfl (by kernel_rfl) (by kernel_rfl) (by kernel_rfl) (fun _ _ _ h => h) (Or.inl ⟨by rfl, ?hyR144⟩)  ?reR144
      case hyR144 => (intro w; refine (exec_slice (w := w) 33 (.tmp 41) (some (.tmp 42)) none none (by rfl) (.slice (some ⟨b, ot, none⟩) (n - q) (c - q)) (HS8.out w)).trans ?_; with_reducible rfl)
      try simp only [Act.put, List.setIfInBounds_toArray, List.set_cons_zero, List.set_cons_succ]
      refine wpAny_ready (rs := [0, 6]) (by kernel_rfl) (by simp) ?_
      refine AllReady.cons (o := { dst := some 33, op := Go.Op.buildSlice 33 0 #[], type := 33, pos := "ref.go:140", after := #[], guard := none }) rfl (fun K hK => ?_) ?_
      · -- 0: buildSlice
        go_simp
        have hr_ : ((w136).alloc (.cells #[] 3)).ownsRow (w136).heap.size 3 1 (.slice (some ⟨(w136).heap.size, 0, none⟩) 0 0) 0 [] := World.ownsRow_lit (w136) #[] 0 (Nat.le_refl _) (by unfold maxLen; omega) rfl
        have OE := Lib.hid hr_; clear hr_
        have bel_149 := Lib.hid (Below.alloc (KE.out) ((KE.out).size) (.cells #[] 3))
        have lb150 := Lib.hid (KE.out.size)
        have e_151 := Lib.hid (Blk.new (w136) 3 #[])
        obtain ⟨g145, hg146⟩ : ∃ g, g = (w136).heap.size := ⟨_, rfl⟩
        obtain ⟨w147, hw148⟩ : ∃ w', w' = (w136).alloc (.cells #[] 3) := ⟨_, rfl⟩
        rw [← hw148] at bel_149 e_151 OE
        rw [← hg146] at lb150 e_151 OE
        rw [← hg146, ← hw148]
        clear hg146 hw148
        have OE2 := Lib.hid (owns_base OE.out lb150.out)
        refine hK _ _ ?_; clear hK K
        try simp only [Act.put, List.setIfInBounds_toArray, List.set_cons_zero, List.set_cons_succ]
        refine wpAny_ready (rs := [4, 6]) (by kernel_rfl) (by simp) ?_
        refine AllReady.cons (o := { dst := some 37, op := Go.Op.call { callee := Go.Callee.builtin Go.Builtin.append, args := #[Go.Operand.tmp 33, Go.Operand.tmp 36], argTypes := #[33, 33] }, type := 33, pos := "ref.go:140", after := #[{ on := 0, ground := Go.Ground.data }, { on := 3, ground := Go.Ground.data }], guard := none }) rfl (fun K hK => ?_) ?_
        · -- 4: call
          have hcl := head_cells (HR.out.below bel_149.out) q
          have hlr := World.ownsRow.lt OE2.out
          refine wp_append_own _ (.tmp 33) (.tmp 36) 33 rfl w.heap.size 3 i0 _ 1 8 Try.underlying33 HI.out HZ0.out HZ1.out HZ2.out rfl (by omega) (.slice (some ⟨g145, 0, none⟩) 0 0) 0 ([]) rfl OE2.out ⟨b, o, none⟩ (q) (c) ((L.take q).map (Value.int .i64)) rfl (by rw [List.length_map, List.length_take, HLN.out]; omega) hcl (ints_one2 _) (by unfold maxLen; omega) (by omega) (Below.size bel_149.out) ?_
          intro v5 w_v5 hown_ hg_ _
          obtain ⟨Bv5, cv5, rfl, -⟩ := own_form hown_
          have k152 := Lib.hid (Below.grown bel_149.out hg_ (Below.size bel_149.out) (fun q e => (hlr q e).1))
          try simp only [Nat.zero_add, List.nil_append] at hown_
          try rw [Nat.zero_add]
          have O5 := Lib.hid hown_
          clear hown_ hg_ hcl hlr
          refine hK _ _ ?_; clear hK K
          try simp only [Act.put, List.setIfInBounds_toArray, List.set_cons_zero, List.set_cons_succ]
          refine wpAny_ready (rs := [6]) (by kernel_rfl) (by simp) ?_
          refine AllReady.cons (o := { dst := some 39, op := Go.Op.buildSlice 33 1 #[(0, Go.Operand.tmp 38)], type := 33, pos := "ref.go:140", after := #[{ on := 5, ground := Go.Ground.data }], guard := none }) rfl (fun K hK => ?_) ?_
          · -- 6: buildSlice
            go_simp
            have NLO := Lib.hid (fun (y : Nat) (e : (Value.slice Bv5 q cv5).ownBlock = some y) => show y < (w_v5).heap.size from (World.ownsRow.lt O5.out y e).2)
            have bel_157 := Lib.hid (Below.alloc (k152.out) ((k152.out).size) (.cells #[.int .i64 v] 3))
            have cp_158 := Lib.hid (World.ownsRow.alloc (O5.out) (.cells #[.int .i64 v] 3))
            have lb159 := Lib.hid (k152.out.size)
            have nb_160 := Lib.hid (Blk.new (w_v5) 3 #[.int .i64 v])
            obtain ⟨g153, hg154⟩ : ∃ g, g = (w_v5).heap.size := ⟨_, rfl⟩
            obtain ⟨w155, hw156⟩ : ∃ w', w' = (w_v5).alloc (.cells #[.int .i64 v] 3) := ⟨_, rfl⟩
            rw [← hw156] at bel_157 cp_158 nb_160
            rw [← hg154] at lb159 nb_160 NLO
            rw [← hg154, ← hw156]
            clear hg154 hw156
            have NEN := Lib.hid (fun (y : Nat) (e : (Value.slice Bv5 q cv5).ownBlock = some y) => show y ≠ g153 from Nat.ne_of_lt (NLO.out y e)); clear NLO
            refine hK _ _ ?_; clear hK K
            try simp only [Act.put, List.setIfInBounds_toArray, List.set_cons_zero, List.set_cons_succ]
            refine wpAny_ready (rs := [7]) (by kernel_rfl) (by simp) ?_
            refine AllReady.cons (o := { dst := some 40, op := Go.Op.call { callee := Go.Callee.builtin Go.Builtin.append, args := #[Go.Operand.tmp 37, Go.Operand.tmp 39], argTypes := #[33, 33] }, type := 33, pos := "ref.go:140", after := #[{ on := 4, ground := Go.Ground.data }, { on := 6, ground := Go.Ground.data }, { on := 4, ground := Go.Ground.chain }], guard := none }) rfl (fun K hK => ?_) ?_
            · -- 7: call
              have hcl := one_cells nb_160.out
              have hlr := World.ownsRow.lt cp_158.out
              refine wp_append_own _ (.tmp 37) (.tmp 39) 33 rfl w.heap.size 3 i0 _ 1 8 Try.underlying33 HI.out HZ0.out HZ1.out HZ2.out rfl (by omega) (.slice Bv5 q cv5) q ((L.take q).map (Value.int .i64)) rfl cp_158.out ⟨g153, 0, none⟩ (1) (1) ([Value.int .i64 v]) rfl rfl hcl (by simp [Value.oneCell']) (by unfold maxLen; omega) (by omega) (Below.size bel_157.out) ?_
              intro v6 w_v6 hown_ hg_ _
              obtain ⟨Bv6, cv6, rfl, -⟩ := own_form hown_
              have k161 := Lib.hid (Below.grown bel_157.out hg_ (Below.size bel_157.out) (fun q e => (hlr q e).1))
              try simp only [Nat.zero_add, List.nil_append] at hown_
              try rw [Nat.zero_add]
              have O6 := Lib.hid hown_
              clear hown_ hg_ hcl hlr
              refine hK _ _ ?_; clear hK K
              try simp only [Act.put, List.setIfInBounds_toArray, List.set_cons_zero, List.set_cons_succ]
              refine wpAny_ready (rs := [11]) (by kernel_rfl) (by simp) ?_
              refine AllReady.cons (o := { dst := some 44, op := Go.Op.call { callee := Go.Callee.builtin Go.Builtin.append, args := #[Go.Operand.tmp 40, Go.Operand.tmp 43], argTypes := #[33, 33] }, type := 33, pos := "ref.go:140", after := #[{ on := 7, ground := Go.Ground.data }, { on := 10, ground := Go.Ground.data }, { on := 7, ground := Go.Ground.chain }], guard := none }) rfl (fun K hK => ?_) ?_
              · -- 11: call
                have hcl := HTC.out _ (HR.out.below k161.out)
                have hlr := World.ownsRow.lt O6.out
                refine wp_append_own _ (.tmp 40) (.tmp 43) 33 rfl w.heap.size 3 i0 _ 1 8 Try.underlying33 HI.out HZ0.out HZ1.out HZ2.out rfl (by omega) (.slice Bv6 (q + 1) cv6) (q + 1) (((L.take q).map (Value.int .i64)) ++ [Value.int .i64 v]) rfl O6.out ⟨b, ot, none⟩ (n - q) (c - q) ((L.drop q).map (Value.int .i64)) rfl (by rw [List.length_map, List.length_drop, HLN.out]; omega) hcl (ints_one2 _) (by unfold maxLen; omega) (by omega) (Below.size k161.out) ?_
                intro v8 w_v8 hown_ hg_ _
                obtain ⟨Bv8, cv8, rfl, -⟩ := own_form hown_
                have k162 := Lib.hid (Below.grown k161.out hg_ (Below.size k161.out) (fun q e => (hlr q e).1))
                try simp only [Nat.zero_add, List.nil_append] at hown_
                try rw [Nat.zero_add]
                have O8 := Lib.hid hown_
                clear hown_ hg_ hcl hlr
                refine hK _ _ ?_; clear hK K
                try simp only [Act.put, List.setIfInBounds_toArray, List.set_cons_zero, List.set_cons_succ]
                refine' wpAny_take (i := 12) (oi := { dst := some 4, op := Go.Op.assign (Go.Operand.tmp 44), type := 33, pos := "ref.go:140", after := #[{ on := 11, ground := Go.Ground.data }, { on := 11, ground := Go.Ground.chain }, { on := 0, ground := Go.Ground.phase }, { on := 1, ground := Go.Ground.phase }, { on := 2, ground := Go.Ground.phase }, { on := 3, ground := Go.Ground.phase }, { on := 4, ground := Go.Ground.phase }, { on := 5, ground := Go.Ground.phase }, { on := 6, ground := Go.Ground.phase }, { on := 7, ground := Go.Ground.phase }, { on := 8, ground := Go.Ground.phase }, { on := 9, ground := Go.Ground.phase }, { on := 10, ground := Go.Ground.phase }, { on := 11, ground := Go.Ground.phase }], guard := none }) (v := _) rfl (by kernel_rfl) (by kernel_rfl) (by kernel_rfl) (fun _ _ _ h => h) (Or.inl ⟨by rfl, ?hyR163⟩)  ?reR163
                case hyR163 => ((intro w); go_simp; try with_reducible rfl)
                try simp only [Act.put, List.setIfInBounds_toArray, List.set_cons_zero, List.set_cons_succ]
                refine wpAny_done (by kernel_rfl) ?_ _
                go_wp2
                go_ret
                refine ⟨Bv8, _, cv8, ret_slice rfl, ?_, k162.out⟩
                have h := owns_base O8.out hbase
                rw [← List.map_singleton (f := Value.int .i64), ← List.map_append, ← List.map_append, List.append_assoc, List.singleton_append, ← HINS.out] at h
                exact h
              exact AllReady.nil
            exact AllReady.nil
          exact AllReady.nil
        refine AllReady.cons (o := { dst := some 39, op := Go.Op.buildSlice 33 1 #[(0, Go.Operand.tmp 38)], type := 33, pos := "ref.go:140", after := #[{ on := 5, ground := Go.Ground.data }], guard := none }) rfl (fun K hK => ?_) ?_
        · -- 6: buildSlice
          go_simp
          have NLO := Lib.hid (fun (y : Nat) (e : (Value.slice (some ⟨g145, 0, none⟩) 0 0).ownBlock = some y) => show y < (w147).heap.size from (World.ownsRow.lt OE2.out y e).2)
          have bel_168 := Lib.hid (Below.alloc (bel_149.out) ((bel_149.out).size) (.cells #[.int .i64 v] 3))
          have cp_169 := Lib.hid (World.ownsRow.alloc (OE2.out) (.cells #[.int .i64 v] 3))
          have lb170 := Lib.hid (bel_149.out.size)
          have nb_171 := Lib.hid (Blk.new (w147) 3 #[.int .i64 v])
          obtain ⟨g164, hg165⟩ : ∃ g, g = (w147).heap.size := ⟨_, rfl⟩
          obtain ⟨w166, hw167⟩ : ∃ w', w' = (w147).alloc (.cells #[.int .i64 v] 3) := ⟨_, rfl⟩
          rw [← hw167] at bel_168 cp_169 nb_171
          rw [← hg165] at lb170 nb_171 NLO
          rw [← hg165, ← hw167]
          clear hg165 hw167
          have NEN := Lib.hid (fun (y : Nat) (e : (Value.slice (some ⟨g145, 0, none⟩) 0 0).ownBlock = some y) => show y ≠ g164 from Nat.ne_of_lt (NLO.out y e)); clear NLO
          refine hK _ _ ?_; clear hK K
          try simp only [Act.put, List.setIfInBounds_toArray, List.set_cons_zero, List.set_cons_succ]
          refine wpAny_ready (rs := [4]) (by kernel_rfl) (by simp) ?_
          refine AllReady.cons (o := { dst := some 37, op := Go.Op.call { callee := Go.Callee.builtin Go.Builtin.append, args := #[Go.Operand.tmp 33, Go.Operand.tmp 36], argTypes := #[33, 33] }, type := 33, pos := "ref.go:140", after := #[{ on := 0, ground := Go.Ground.data }, { on := 3, ground := Go.Ground.data }], guard := none }) rfl (fun K hK => ?_) ?_
          · -- 4: call
            have hcl := head_cells (HR.out.below bel_168.out) q
            have hlr := World.ownsRow.lt cp_169.out
            refine wp_append_own _ (.tmp 33) (.tmp 36) 33 rfl w.heap.size 3 i0 _ 1 8 Try.underlying33 HI.out HZ0.out HZ1.out HZ2.out rfl (by omega) (.slice (some ⟨g145, 0, none⟩) 0 0) 0 ([]) rfl cp_169.out ⟨b, o, none⟩ (q) (c) ((L.take q).map (Value.int .i64)) rfl (by rw [List.length_map, List.length_take, HLN.out]; omega) hcl (ints_one2 _) (by unfold maxLen; omega) (by omega) (Below.size bel_168.out) ?_
            intro v5 w_v5 hown_ hg_ _
            obtain ⟨Bv5, cv5, rfl, -⟩ := own_form hown_
            have k172 := Lib.hid (Below.grown bel_168.out hg_ (Below.size bel_168.out) (fun q e => (hlr q e).1))
            try simp only [Nat.zero_add, List.nil_append] at hown_
            try rw [Nat.zero_add]
            have O5 := Lib.hid hown_
            have k173 := Lib.hid (blk_grown nb_171.out hg_ (fun e => NEN.out _ e rfl))
            clear hown_ hg_ hcl hlr
            refine hK _ _ ?_; clear hK K
            try simp only [Act.put, List.setIfInBounds_toArray, List.set_cons_zero, List.set_cons_succ]
            refine wpAny_ready (rs := [7]) (by kernel_rfl) (by simp) ?_
            refine AllReady.cons (o := { dst := some 40, op := Go.Op.call { callee := Go.Callee.builtin Go.Builtin.append, args := #[Go.Operand.tmp 37, Go.Operand.tmp 39], argTypes := #[33, 33] }, type := 33, pos := "ref.go:140", after := #[{ on := 4, ground := Go.Ground.data }, { on := 6, ground := Go.Ground.data }, { on := 4, ground := Go.Ground.chain }], guard := none }) rfl (fun K hK => ?_) ?_
            · -- 7: call
              have hcl := one_cells k173.out
              have hlr := World.ownsRow.lt O5.out
              refine wp_append_own _ (.tmp 37) (.tmp 39) 33 rfl w.heap.size 3 i0 _ 1 8 Try.underlying33 HI.out HZ0.out HZ1.out HZ2.out rfl (by omega) (.slice Bv5 q cv5) q ((L.take q).map (Value.int .i64)) rfl O5.out ⟨g164, 0, none⟩ (1) (1) ([Value.int .i64 v]) rfl rfl hcl (by simp [Value.oneCell']) (by unfold maxLen; omega) (by omega) (Below.size k172.out) ?_
              intro v6 w_v6 hown_ hg_ _
              obtain ⟨Bv6, cv6, rfl, -⟩ := own_form hown_
              have k174 := Lib.hid (Below.grown k172.out hg_ (Below.size k172.out) (fun q e => (hlr q e).1))
              try simp only [Nat.zero_add, List.nil_append] at hown_
              try rw [Nat.zero_add]
              have O6 := Lib.hid hown_
              clear hown_ hg_ hcl hlr
              refine hK _ _ ?_; clear hK K
              try simp only [Act.put, List.setIfInBounds_toArray, List.set_cons_zero, List.set_cons_succ]
              refine wpAny_ready (rs := [11]) (by kernel_rfl) (by simp) ?_
              refine AllReady.cons (o := { dst := some 44, op := Go.Op.call { callee := Go.Callee.builtin Go.Builtin.append, args := #[Go.Operand.tmp 40, Go.Operand.tmp 43], argTypes := #[33, 33] }, type := 33, pos := "ref.go:140", after := #[{ on := 7, ground := Go.Ground.data }, { on := 10, ground := Go.Ground.data }, { on := 7, ground := Go.Ground.chain }], guard := none }) rfl (fun K hK => ?_) ?_
              · -- 11: call
                have hcl := HTC.out _ (HR.out.below k174.out)
                have hlr := World.ownsRow.lt O6.out
                refine wp_append_own _ (.tmp 40) (.tmp 43) 33 rfl w.heap.size 3 i0 _ 1 8 Try.underlying33 HI.out HZ0.out HZ1.out HZ2.out rfl (by omega) (.slice Bv6 (q + 1) cv6) (q + 1) (((L.take q).map (Value.int .i64)) ++ [Value.int .i64 v]) rfl O6.out ⟨b, ot, none⟩ (n - q) (c - q) ((L.drop q).map (Value.int .i64)) rfl (by rw [List.length_map, List.length_drop, HLN.out]; omega) hcl (ints_one2 _) (by unfold maxLen; omega) (by omega) (Below.size k174.out) ?_
                intro v8 w_v8 hown_ hg_ _
                obtain ⟨Bv8, cv8, rfl, -⟩ := own_form hown_
                have k175 := Lib.hid (Below.grown k174.out hg_ (Below.size k174.out) (fun q e => (hlr q e).1))
                try simp only [Nat.zero_add, List.nil_append] at hown_
                try rw [Nat.zero_add]
                have O8 := Lib.hid hown_
                clear hown_ hg_ hcl hlr
                refine hK _ _ ?_; clear hK K
                try simp only [Act.put, List.setIfInBounds_toArray, List.set_cons_zero, List.set_cons_succ]
                refine' wpAny_take (i := 12) (oi := { dst := some 4, op := Go.Op.assign (Go.Operand.tmp 44), type := 33, pos := "ref.go:140", after := #[{ on := 11, ground := Go.Ground.data }, { on := 11, ground := Go.Ground.chain }, { on := 0, ground := Go.Ground.phase }, { on := 1, ground := Go.Ground.phase }, { on := 2, ground := Go.Ground.phase }, { on := 3, ground := Go.Ground.phase }, { on := 4, ground := Go.Ground.phase }, { on := 5, ground := Go.Ground.phase }, { on := 6, ground := Go.Ground.phase }, { on := 7, ground := Go.Ground.phase }, { on := 8, ground := Go.Ground.phase }, { on := 9, ground := Go.Ground.phase }, { on := 10, ground := Go.Ground.phase }, { on := 11, ground := Go.Ground.phase }], guard := none }) (v := _) rfl (by kernel_rfl) (by kernel_rfl) (by kernel_rfl) (fun _ _ _ h => h) (Or.inl ⟨by rfl, ?hyR176⟩)  ?reR176
                case hyR176 => ((intro w); go_simp; try with_reducible rfl)
                try simp only [Act.put, List.setIfInBounds_toArray, List.set_cons_zero, List.set_cons_succ]
                refine wpAny_done (by kernel_rfl) ?_ _
                go_wp2
                go_ret
                refine ⟨Bv8, _, cv8, ret_slice rfl, ?_, k175.out⟩
                have h := owns_base O8.out hbase
                rw [← List.map_singleton (f := Value.int .i64), ← List.map_append, ← List.map_append, List.append_assoc, List.singleton_append, ← HINS.out] at h
                exact h
              exact AllReady.nil
            exact AllReady.nil
          exact AllReady.nil
        exact AllReady.nil
      refine AllReady.cons (o := { dst := some 39, op := Go.Op.buildSlice 33 1 #[(0, Go.Operand.tmp 38)], type := 33, pos := "ref.go:140", after := #[{ on := 5, ground := Go.Ground.data }], guard := none }) rfl (fun K hK => ?_) ?_
      · -- 6: buildSlice
        go_simp
        have bel_181 := Lib.hid (Below.alloc (KE.out) ((KE.out).size) (.cells #[.int .i64 v] 3))
        have lb182 := Lib.hid (KE.out.size)
        have nb_183 := Lib.hid (Blk.new (w136) 3 #[.int .i64 v])
        obtain ⟨g177, hg178⟩ : ∃ g, g = (w136).heap.size := ⟨_, rfl⟩
        obtain ⟨w179, hw180⟩ : ∃ w', w' = (w136).alloc (.cells #[.int .i64 v] 3) := ⟨_, rfl⟩
        rw [← hw180] at bel_181 nb_183
        rw [← hg178] at lb182 nb_183
        rw [← hg178, ← hw180]
        clear hg178 hw180
        refine hK _ _ ?_; clear hK K
        try simp only [Act.put, List.setIfInBounds_toArray, List.set_cons_zero, List.set_cons_succ]
        refine wpAny_ready (rs := [0]) (by kernel_rfl) (by simp) ?_
        refine AllReady.cons (o := { dst := some 33, op := Go.Op.buildSlice 33 0 #[], type := 33, pos := "ref.go:140", after := #[], guard := none }) rfl (fun K hK => ?_) ?_
        · -- 0: buildSlice
          go_simp
          have hr_ : ((w179).alloc (.cells #[] 3)).ownsRow (w179).heap.size 3 1 (.slice (some ⟨(w179).heap.size, 0, none⟩) 0 0) 0 [] := World.ownsRow_lit (w179) #[] 0 (Nat.le_refl _) (by unfold maxLen; omega) rfl
          have OE := Lib.hid hr_; clear hr_
          have bel_188 := Lib.hid (Below.alloc (bel_181.out) ((bel_181.out).size) (.cells #[] 3))
          have nb_189 := Lib.hid (Blk.alloc (nb_183.out) (.cells #[] 3))
          have lb190 := Lib.hid (bel_181.out.size)
          have ne191 := Lib.hid (Nat.ne_of_lt (Blk.lt nb_183.out))
          have e_192 := Lib.hid (Blk.new (w179) 3 #[])
          obtain ⟨g184, hg185⟩ : ∃ g, g = (w179).heap.size := ⟨_, rfl⟩
          obtain ⟨w186, hw187⟩ : ∃ w', w' = (w179).alloc (.cells #[] 3) := ⟨_, rfl⟩
          rw [← hw187] at bel_188 nb_189 e_192 OE
          rw [← hg185] at lb190 ne191 e_192 OE
          rw [← hg185, ← hw187]
          clear hg185 hw187
          have OE2 := Lib.hid (owns_base OE.out lb190.out)
          have NEN := Lib.hid (fun (y : Nat) (e : (Value.slice (some ⟨g184, 0, none⟩) 0 0).ownBlock = some y) => show y ≠ g177 from by (cases e; exact Ne.symm ne191.out))
          refine hK _ _ ?_; clear hK K
          try simp only [Act.put, List.setIfInBounds_toArray, List.set_cons_zero, List.set_cons_succ]
          refine wpAny_ready (rs := [4]) (by kernel_rfl) (by simp) ?_
          refine AllReady.cons (o := { dst := some 37, op := Go.Op.call { callee := Go.Callee.builtin Go.Builtin.append, args := #[Go.Operand.tmp 33, Go.Operand.tmp 36], argTypes := #[33, 33] }, type := 33, pos := "ref.go:140", after := #[{ on := 0, ground := Go.Ground.data }, { on := 3, ground := Go.Ground.data }], guard := none }) rfl (fun K hK => ?_) ?_
          · -- 4: call
            have hcl := head_cells (HR.out.below bel_188.out) q
            have hlr := World.ownsRow.lt OE2.out
            refine wp_append_own _ (.tmp 33) (.tmp 36) 33 rfl w.heap.size 3 i0 _ 1 8 Try.underlying33 HI.out HZ0.out HZ1.out HZ2.out rfl (by omega) (.slice (some ⟨g184, 0, none⟩) 0 0) 0 ([]) rfl OE2.out ⟨b, o, none⟩ (q) (c) ((L.take q).map (Value.int .i64)) rfl (by rw [List.length_map, List.length_take, HLN.out]; omega) hcl (ints_one2 _) (by unfold maxLen; omega) (by omega) (Below.size bel_188.out) ?_
            intro v5 w_v5 hown_ hg_ _
            obtain ⟨Bv5, cv5, rfl, -⟩ := own_form hown_
            have k193 := Lib.hid (Below.grown bel_188.out hg_ (Below.size bel_188.out) (fun q e => (hlr q e).1))
            try simp only [Nat.zero_add, List.nil_append] at hown_
            try rw [Nat.zero_add]
            have O5 := Lib.hid hown_
            have k194 := Lib.hid (blk_grown nb_189.out hg_ (fun e => NEN.out _ e rfl))
            clear hown_ hg_ hcl hlr
            refine hK _ _ ?_; clear hK K
            try simp only [Act.put, List.setIfInBounds_toArray, List.set_cons_zero, List.set_cons_succ]
            refine wpAny_ready (rs := [7]) (by kernel_rfl) (by simp) ?_
            refine AllReady.cons (o := { dst := some 40, op := Go.Op.call { callee := Go.Callee.builtin Go.Builtin.append, args := #[Go.Operand.tmp 37, Go.Operand.tmp 39], argTypes := #[33, 33] }, type := 33, pos := "ref.go:140", after := #[{ on := 4, ground := Go.Ground.data }, { on := 6, ground := Go.Ground.data }, { on := 4, ground := Go.Ground.chain }], guard := none }) rfl (fun K hK => ?_) ?_
            · -- 7: call
              have hcl := one_cells k194.out
              have hlr := World.ownsRow.lt O5.out
              refine wp_append_own _ (.tmp 37) (.tmp 39) 33 rfl w.heap.size 3 i0 _ 1 8 Try.underlying33 HI.out HZ0.out HZ1.out HZ2.out rfl (by omega) (.slice Bv5 q cv5) q ((L.take q).map (Value.int .i64)) rfl O5.out ⟨g177, 0, none⟩ (1) (1) ([Value.int .i64 v]) rfl rfl hcl (by simp [Value.oneCell']) (by unfold maxLen; omega) (by omega) (Below.size k193.out) ?_
              intro v6 w_v6 hown_ hg_ _
              obtain ⟨Bv6, cv6, rfl, -⟩ := own_form hown_
              have k195 := Lib.hid (Below.grown k193.out hg_ (Below.size k193.out) (fun q e => (hlr q e).1))
              try simp only [Nat.zero_add, List.nil_append] at hown_
              try rw [Nat.zero_add]
              have O6 := Lib.hid hown_
              clear hown_ hg_ hcl hlr
              refine hK _ _ ?_; clear hK K
              try simp only [Act.put, List.setIfInBounds_toArray, List.set_cons_zero, List.set_cons_succ]
              refine wpAny_ready (rs := [11]) (by kernel_rfl) (by simp) ?_
              refine AllReady.cons (o := { dst := some 44, op := Go.Op.call { callee := Go.Callee.builtin Go.Builtin.append, args := #[Go.Operand.tmp 40, Go.Operand.tmp 43], argTypes := #[33, 33] }, type := 33, pos := "ref.go:140", after := #[{ on := 7, ground := Go.Ground.data }, { on := 10, ground := Go.Ground.data }, { on := 7, ground := Go.Ground.chain }], guard := none }) rfl (fun K hK => ?_) ?_
              · -- 11: call
                have hcl := HTC.out _ (HR.out.below k195.out)
                have hlr := World.ownsRow.lt O6.out
                refine wp_append_own _ (.tmp 40) (.tmp 43) 33 rfl w.heap.size 3 i0 _ 1 8 Try.underlying33 HI.out HZ0.out HZ1.out HZ2.out rfl (by omega) (.slice Bv6 (q + 1) cv6) (q + 1) (((L.take q).map (Value.int .i64)) ++ [Value.int .i64 v]) rfl O6.out ⟨b, ot, none⟩ (n - q) (c - q) ((L.drop q).map (Value.int .i64)) rfl (by rw [List.length_map, List.length_drop, HLN.out]; omega) hcl (ints_one2 _) (by unfold maxLen; omega) (by omega) (Below.size k195.out) ?_
                intro v8 w_v8 hown_ hg_ _
                obtain ⟨Bv8, cv8, rfl, -⟩ := own_form hown_
                have k196 := Lib.hid (Below.grown k195.out hg_ (Below.size k195.out) (fun q e => (hlr q e).1))
                try simp only [Nat.zero_add, List.nil_append] at hown_
                try rw [Nat.zero_add]
                have O8 := Lib.hid hown_
                clear hown_ hg_ hcl hlr
                refine hK _ _ ?_; clear hK K
                try simp only [Act.put, List.setIfInBounds_toArray, List.set_cons_zero, List.set_cons_succ]
                refine' wpAny_take (i := 12) (oi := { dst := some 4, op := Go.Op.assign (Go.Operand.tmp 44), type := 33, pos := "ref.go:140", after := #[{ on := 11, ground := Go.Ground.data }, { on := 11, ground := Go.Ground.chain }, { on := 0, ground := Go.Ground.phase }, { on := 1, ground := Go.Ground.phase }, { on := 2, ground := Go.Ground.phase }, { on := 3, ground := Go.Ground.phase }, { on := 4, ground := Go.Ground.phase }, { on := 5, ground := Go.Ground.phase }, { on := 6, ground := Go.Ground.phase }, { on := 7, ground := Go.Ground.phase }, { on := 8, ground := Go.Ground.phase }, { on := 9, ground := Go.Ground.phase }, { on := 10, ground := Go.Ground.phase }, { on := 11, ground := Go.Ground.phase }], guard := none }) (v := _) rfl (by kernel_rfl) (by kernel_rfl) (by kernel_rfl) (fun _ _ _ h => h) (Or.inl ⟨by rfl, ?hyR197⟩)  ?reR197
                case hyR197 => ((intro w); go_simp; try with_reducible rfl)
                try simp only [Act.put, List.setIfInBounds_toArray, List.set_cons_zero, List.set_cons_succ]
                refine wpAny_done (by kernel_rfl) ?_ _
                go_wp2
                go_ret
                refine ⟨Bv8, _, cv8, ret_slice rfl, ?_, k196.out⟩
                have h := owns_base O8.out hbase
                rw [← List.map_singleton (f := Value.int .i64), ← List.map_append, ← List.map_append, List.append_assoc, List.singleton_append, ← HINS.out] at h
                exact h
              exact AllReady.nil
            exact AllReady.nil
          exact AllReady.nil
        exact AllReady.nil
      exact AllReady.nil

theorem with_any (base : Nat) (A : Option Addr) (n c : Nat) (L : List Int) (v : Int) (w : World) (hbase : base ≤ w.heap.size) (ho : OwnI w base A n c L) (hn1 : n = 0 → A = none) (hn : n ≤ 1000) :
    Calls Try.prog 116 #[.slice A n c, .int .i64 v] w fun e w' => ∃ B m d, e = .returned (.slice B m d) ∧ OwnI w' base B m d (insU v L) ∧ Below w.heap.size w w' := by
  by_cases h : n = 0
  · subst h
    obtain rfl := hn1 rfl
    have hr := (OwnI.rd ho).1
    obtain rfl : c = 0 := (hr.nil rfl).2
    obtain rfl : L = [] := List.length_eq_zero_iff.1 hr.len
    exact with_nil base v w hbase
  · exact with_some base A n c L v w hbase ho (by omega) hn
end Go.Proofs.Ythlnialipjihdaa
