import Derived.Deep.AppendSrc
import Derived.Test.YtjjmifcjailpaaaGreatTWlk
import Derived.Test.YtjjmifcjailpaaaGreatTNeeded
import Derived.Test.YtjjmifcjailpaaaGreatTOpen
import Derived.Test.YtjjmifcjailpaaaGreatTShz
import Derived.Test.YtjjmifcjailpaaaGreatTSumsacd
set_option maxHeartbeats 8000000
set_option linter.unusedSimpArgs false
set_option linter.unusedVariables false
namespace Go.Proofs.YtjjmifcjailpaaaGreat
open Go.RowKit
theorem exec_slice {P : Program} {r : Operand → Value} {o : Oper} {w : World} (t : TypeId) (x : Operand) (lo hi mx : Option Operand) (ho : o.op = .slice t x lo hi mx) (v : Value)
 (hrun : (Instr.sliceAt t (r x) (lo.map r) (hi.map r) (mx.map r)).run P w = .ok v w) : (execOp r o).run P w = .ok (.value v) w := by
 unfold execOp
 simp only [ho, Sem.run_bind, hrun, Result.andThen_ok]
 rfl
theorem ret_slice {B : Option Addr} {m m' c : Nat} (h : m = m') : Ending.returned (.slice B m c) = .returned (.slice B m' c) := by rw [h]
set_option maxRecDepth 100000 in
theorem head_slice (b o n c i : Nat) (hi : i ≤ c) (w : World) : (Instr.sliceAt 34 (.slice (some ⟨b, o, none⟩) n c) none (some (.int .i64 (i : Int))) none).run Tryz.prog w = .ok (.slice (some ⟨b, o, none⟩) i c) w := by
 have he : Tryz.prog.elem 34 = 3 := by kernel_rfl
 have hu : Tryz.prog.underlying 34 = some (.slice (Tryz.prog.elem 34)) := by rw [he]; exact Tryz.underlying34
 have hs : ∀ w, (sizeOf (Tryz.prog.elem 34)).run Tryz.prog w = .ok 1 w := fun w => by rw [he]; kernel_rfl
 rw [run_sliceAt_slice (h := hu), run_slice_h _ _ _ _ _ hu .i64 (i : Int) (by omega) (by omega), hs]
 simp [Result.andThen_ok, sliced, add_flat]
set_option maxRecDepth 100000 in
theorem tail_slice (b o n c i : Nat) (hi : i ≤ n) (w : World) : (Instr.sliceAt 34 (.slice (some ⟨b, o, none⟩) n c) (some (.int .i64 (i : Int))) none none).run Tryz.prog w = .ok (.slice (some ⟨b, if c = i then o else o + i, none⟩) (n - i) (c - i)) w := by
 have he : Tryz.prog.elem 34 = 3 := by kernel_rfl
 have hu : Tryz.prog.underlying 34 = some (.slice (Tryz.prog.elem 34)) := by rw [he]; exact Tryz.underlying34
 have hs : ∀ w, (sizeOf (Tryz.prog.elem 34)).run Tryz.prog w = .ok 1 w := fun w => by rw [he]; kernel_rfl
 rw [run_sliceAt_slice (h := hu), run_slice_l _ _ _ _ _ hu .i64 (i : Int) (by omega) (by omega), hs]
 simp only [Result.andThen_ok, sliced, Int.toNat_natCast, Nat.mul_one]
 by_cases hc : c = i
 · rw [if_pos hc, if_pos hc]
 · rw [if_neg hc, if_neg hc, Option.map_some, add_flat]
theorem head_cells {w : World} {b o n c : Nat} {L : List Int} (h : RdI w (some ⟨b, o, none⟩) n c L) (i : Nat) : ∀ j u, ((L.take i).map (Value.int .i64))[j]? = some u → w.cell? ((⟨b, o, none⟩ : Addr).add j) = some u := fun j u hu => by
 rw [add_flat]
 rw [List.getElem?_map, List.getElem?_take] at hu
 split at hu
 · obtain ⟨x, hx, rfl⟩ := Option.map_eq_some_iff.1 hu
   exact (rdI_at h hx).1
 · cases hu
theorem tail_cells {w : World} {b o n c : Nat} {L : List Int} (h : RdI w (some ⟨b, o, none⟩) n c L) (i : Nat) : ∀ j u, ((L.drop i).map (Value.int .i64))[j]? = some u → w.cell? ((⟨b, if c = i then o else o + i, none⟩ : Addr).add j) = some u := fun j u hu => by
 rw [add_flat]
 rw [List.getElem?_map, List.getElem?_drop] at hu
 obtain ⟨x, hx, rfl⟩ := Option.map_eq_some_iff.1 hu
 have hj := (List.getElem?_eq_some_iff.1 hx).1
 have := h.len
 have := h.cap
 rw [if_neg (by omega), Nat.add_assoc]
 exact (rdI_at h hx).1
theorem insU_same {v : Int} : ∀ {L : List Int} {q : Nat}, (∀ x ∈ L.take q, x < v) → L[q]? = some v → insU v L = L
 | [], q, _, h => by simp at h
 | y :: r, 0, _, h => by
  rw [List.getElem?_cons_zero] at h; injection h with h; subst h
  unfold insU; rw [if_neg (Int.lt_irrefl _), if_pos rfl]
 | y :: r, q + 1, hl, h => by
  have hy := hl y (by rw [List.take_succ_cons]; exact List.mem_cons_self ..)
  unfold insU
  rw [if_neg (by omega), if_neg (by omega), insU_same (fun x hx => hl x (by rw [List.take_succ_cons]; exact List.mem_cons_of_mem _ hx)) (by rw [List.getElem?_cons_succ] at h; exact h)]
theorem insU_at {v : Int} : ∀ {L : List Int} {q : Nat}, q ≤ L.length → (∀ x ∈ L.take q, x < v) → (∀ x, L[q]? = some x → v < x) → insU v L = L.take q ++ v :: L.drop q
 | [], q, _, _, _ => by simp [insU]
 | y :: r, 0, _, _, h => by
  have := h y (by simp)
  unfold insU; rw [if_pos this]; rfl
 | y :: r, q + 1, hq, hl, h => by
  have hy := hl y (by rw [List.take_succ_cons]; exact List.mem_cons_self ..)
  unfold insU
  rw [if_neg (by omega), if_neg (by omega), insU_at (by simp at hq; omega) (fun x hx => hl x (by rw [List.take_succ_cons]; exact List.mem_cons_of_mem _ hx)) (fun x hx => h x (by rw [List.getElem?_cons_succ]; exact hx))]
  rfl
theorem wp_append_none {P : Program} (w : World) {o : Oper} {a : Act} {K : Act → World → Prop} {Q : Exit → Act → World → Prop} (s x : Operand) (t : TypeId)
 (ho : o.op = .call { callee := .builtin .append, args := #[s, x], argTypes := #[t, t] }) (e : TypeId) (i : TypeInfo) (ht : P.underlying t = some (.slice e)) (hi : P.info? e = some i)
 (g n c cx : Nat) (hs : a.eval s = .slice (some ⟨g, 0, none⟩) n c) (hx : a.eval x = .slice none 0 cx) (hle : n ≤ c) (h : K (a.put o.dst (.slice (some ⟨g, 0, none⟩) n c)) w) : o.wp P a w K Q := by
 have hr := run_append_room_src (P := P) w t t o.type e i ht hi g 0 n c (.slice none 0 cx) 0 [] (Src.ofNil w ht cx) (by omega) (by simp) (by simp)
 unfold Oper.wp execOp
 simp only [ho, resolve, invoke, builtin, Sem.run_bind, Sem.run_pure, Result.andThen_ok, List.map_toArray, List.map_cons, List.map_nil, hs, hx, hr]
 exact h
set_option maxRecDepth 100000 in
theorem nil_head (w : World) : (Instr.sliceAt 34 (.slice none 0 0) none (some (.int .i64 0)) none).run Tryz.prog w = .ok (.slice none 0 0) w := by
 have he : Tryz.prog.elem 34 = 3 := by kernel_rfl
 have hu : Tryz.prog.underlying 34 = some (.slice (Tryz.prog.elem 34)) := by rw [he]; exact Tryz.underlying34
 have hs : ∀ w, (sizeOf (Tryz.prog.elem 34)).run Tryz.prog w = .ok 1 w := fun w => by rw [he]; kernel_rfl
 rw [run_sliceAt_slice (h := hu), run_slice_h _ _ _ _ _ hu .i64 0 (by omega) (by omega), hs]
 simp [Result.andThen_ok, sliced]
set_option maxRecDepth 100000 in
theorem nil_tail (w : World) : (Instr.sliceAt 34 (.slice none 0 0) (some (.int .i64 0)) none none).run Tryz.prog w = .ok (.slice none 0 0) w := by
 have he : Tryz.prog.elem 34 = 3 := by kernel_rfl
 have hu : Tryz.prog.underlying 34 = some (.slice (Tryz.prog.elem 34)) := by rw [he]; exact Tryz.underlying34
 have hs : ∀ w, (sizeOf (Tryz.prog.elem 34)).run Tryz.prog w = .ok 1 w := fun w => by rw [he]; kernel_rfl
 rw [run_sliceAt_slice (h := hu), run_slice_l _ _ _ _ _ hu .i64 0 (by omega) (by omega), hs]
 simp [Result.andThen_ok, sliced]
theorem one_cells {w : World} {g : Nat} {v : Int} (h : Blk w g 3 #[.int .i64 v]) : ∀ j u, ([Value.int .i64 v])[j]? = some u → w.cell? ((⟨g, 0, none⟩ : Addr).add j) = some u := fun j u hu => by
 rw [add_flat, Nat.zero_add, h.cell]
 simpa using hu
set_option maxRecDepth 100000 in
theorem with_nil (base : Nat) (v : Int) (w : World) (hbase : base ≤ w.heap.size) :
 Calls Tryz.prog 99 #[.slice none 0 0, .int .i64 v] w fun e w' => ∃ B m d, e = .returned (.slice B m d) ∧ OwnI w' base B m d (insU v []) ∧ Below w.heap.size w w' := by
 obtain ⟨i0, hi0, hz0, hz1, hz2⟩ := info_parts infoI
 have HI := Lib.hid hi0; have HZ0 := Lib.hid hz0; have HZ1 := Lib.hid hz1; have HZ2 := Lib.hid hz2; clear hi0 hz0 hz1 hz2
 have KE := Lib.hid (Below.drew (Below.refl w.heap.size w))
 go_enter Tryz.func99, Tryz.ntmps99
 go_wp2
 go_loopw [5] (fun i wr => i = .int .i64 0 ∧ w = wr) (fun _ _ => 0)
 case atStart => exact ⟨rfl, rfl⟩
 case round =>
  obtain ⟨rfl, rfl⟩ := hrel
  go_wp2_with fail
  refine wp_region_any (by kernel_rfl) ?_
  change wpAny _ _ _ _ _ _ _ (World.drew _)
  obtain ⟨a1, a7⟩ : ∃ w', w' = w.drew := ⟨_, rfl⟩
  rw [← a7] at KE
  rw [← a7]
  clear a7
  refine' twY 1 ?_
  refine' twY 2 ?_
  refine' tkY 3 ?c7 ?_
  case c7 => (intro w; refine (exec_slice (w := w) 34 (.tmp 34) none (some (.tmp 35)) none (by rfl) (.slice none 0 0) (nil_head w)).trans ?_; with_reducible rfl)
  refine' twY 5 ?_
  try simp only [Act.put, qsA, qsZ, qsS]
  refine' twY 8 ?_
  refine' twY 9 ?_
  refine' tkY 10 ?c8 ?_
  case c8 => (intro w; refine (exec_slice (w := w) 34 (.tmp 41) (some (.tmp 42)) none none (by rfl) (.slice none 0 0) (nil_tail w)).trans ?_; with_reducible rfl)
  try simp only [Act.put, qsA, qsZ, qsS]
  refine wpAny_ready (rs := [0, 6]) (by kernel_rfl) (by simp) ?_
  refine rdY rfl (fun K hK => ?_) ?_
  · -- 0: buildSlice
   go_simp
   have hr_ : ((a1).alloc (.cells #[] 3)).ownsRow (a1).heap.size 3 1 (.slice (some ⟨(a1).heap.size, 0, none⟩) 0 0) 0 [] := World.ownsRow_lit (a1) #[] 0 (Nat.le_refl _) (by unfold maxLen; omega) rfl
   have OE := Lib.hid hr_; clear hr_
   have b9 := Lib.hid (KE.out.size)
   obtain ⟨o_, ho_⟩ : ∃ o, o = (.cells #[] 3 : Obj) := ⟨_, rfl⟩
   replace KE := bA KE o_
   subst ho_
   have c0 := Lib.hid (Blk.new (a1) 3 #[])
   obtain ⟨a2, a8⟩ : ∃ g, g = (a1).heap.size := ⟨_, rfl⟩
   obtain ⟨a3, a9⟩ : ∃ w', w' = (a1).alloc (.cells #[] 3) := ⟨_, rfl⟩
   rw [← a9] at KE c0 OE
   rw [← a8] at b9 c0 OE
   rw [← a8, ← a9]
   clear a8 a9
   have OE2 := Lib.hid (owns_base OE.out b9.out)
   refine hK _ _ ?_; clear hK K
   try simp only [Act.put, qsA, qsZ, qsS]
   refine wpAny_ready (rs := [4, 6]) (by kernel_rfl) (by simp) ?_
   refine rdY rfl (fun K hK => ?_) ?_
   · -- 4: call
    refine wp_append_none _ (.tmp 33) (.tmp 36) 34 rfl 3 i0 Tryz.underlying34 HI.out a2 0 0 0 rfl rfl (Nat.le_refl _) ?_
    refine hK _ _ ?_; clear hK K
    try simp only [Act.put, qsA, qsZ, qsS]
    refine oneY 6 rfl fun K hK => ?_
    go_simp
    have NLO := Lib.hid (fun (y : Nat) (e : (Value.slice (some ⟨a2, 0, none⟩) 0 0).ownBlock = some y) => show y < (a3).heap.size from (World.ownsRow.lt OE2.out y e).2)
    have c9 := Lib.hid (KE.out.size)
    obtain ⟨o_, ho_⟩ : ∃ o, o = (.cells #[.int .i64 v] 3 : Obj) := ⟨_, rfl⟩
    replace KE := bA KE o_
    replace OE2 := Lib.hid (World.ownsRow.alloc (OE2.out) (o_))
    subst ho_
    have a5 := Lib.hid (Blk.new (a3) 3 #[.int .i64 v])
    obtain ⟨c4, b0⟩ : ∃ g, g = (a3).heap.size := ⟨_, rfl⟩
    obtain ⟨d5, b1⟩ : ∃ w', w' = (a3).alloc (.cells #[.int .i64 v] 3) := ⟨_, rfl⟩
    rw [← b1] at KE OE2 a5
    rw [← b0] at c9 a5 NLO
    rw [← b0, ← b1]
    clear b0 b1
    have NEN := Lib.hid (fun (y : Nat) (e : (Value.slice (some ⟨a2, 0, none⟩) 0 0).ownBlock = some y) => show y ≠ c4 from Nat.ne_of_lt (NLO.out y e)); clear NLO
    refine hK _ _ ?_; clear hK K
    try simp only [Act.put, qsA, qsZ, qsS]
    refine oneY 7 rfl fun K hK => ?_
    have hcl := one_cells a5.out
    have hlr := World.ownsRow.lt OE2.out
    refine wp_append_own _ (.tmp 37) (.tmp 39) 34 rfl w.heap.size 3 i0 _ 1 8 Tryz.underlying34 HI.out HZ0.out HZ1.out HZ2.out rfl (by omega) (.slice (some ⟨a2, 0, none⟩) 0 0) 0 ([]) rfl OE2.out ⟨c4, 0, none⟩ (1) (1) ([Value.int .i64 v]) rfl rfl hcl (by simp [Value.oneCell']) (by unfold maxLen; omega) (by omega) (Below.size KE.out) ?_
    intro v6 w_v6 hown_ hg_ _
    obtain ⟨Bv6, cv6, rfl, -⟩ := own_form hown_
    have d2 := Lib.hid (Below.grown KE.out hg_ (Below.size KE.out) (fun q e => (hlr q e).1))
    try simp only [Nat.zero_add, List.nil_append] at hown_
    try rw [Nat.zero_add]
    have O6 := Lib.hid hown_
    clear hown_ hg_ hcl hlr
    refine hK _ _ ?_; clear hK K
    try simp only [Act.put, qsA, qsZ, qsS]
    refine oneY 11 rfl fun K hK => ?_
    obtain ⟨g6, hg6, -⟩ := own_some2 O6.out (by omega)
    subst hg6
    refine wp_append_none _ (.tmp 40) (.tmp 43) 34 rfl 3 i0 Tryz.underlying34 HI.out g6 1 cv6 0 rfl rfl (OwnI.rd (show OwnI _ w.heap.size (some ⟨g6, 0, none⟩) 1 cv6 [v] from O6.out)).1.cap ?_
    refine hK _ _ ?_; clear hK K
    try simp only [Act.put, qsA, qsZ, qsS]
    refine' twY 12 ?_
    try simp only [Act.put, qsA, qsZ, qsS]
    refine wpAny_done (by kernel_rfl) ?_ _
    go_wp2
    go_ret
    exact ⟨some ⟨g6, 0, none⟩, 1, cv6, rfl, owns_base O6.out hbase, d2.out⟩
   refine rdY rfl (fun K hK => ?_) ?_
   · -- 6: buildSlice
    go_simp
    have NLO := Lib.hid (fun (y : Nat) (e : (Value.slice (some ⟨a2, 0, none⟩) 0 0).ownBlock = some y) => show y < (a3).heap.size from (World.ownsRow.lt OE2.out y e).2)
    have d0 := Lib.hid (KE.out.size)
    obtain ⟨o_, ho_⟩ : ∃ o, o = (.cells #[.int .i64 v] 3 : Obj) := ⟨_, rfl⟩
    replace KE := bA KE o_
    replace OE2 := Lib.hid (World.ownsRow.alloc (OE2.out) (o_))
    subst ho_
    have a6 := Lib.hid (Blk.new (a3) 3 #[.int .i64 v])
    obtain ⟨c5, b2⟩ : ∃ g, g = (a3).heap.size := ⟨_, rfl⟩
    obtain ⟨d6, b3⟩ : ∃ w', w' = (a3).alloc (.cells #[.int .i64 v] 3) := ⟨_, rfl⟩
    rw [← b3] at KE OE2 a6
    rw [← b2] at d0 a6 NLO
    rw [← b2, ← b3]
    clear b2 b3
    have NEN := Lib.hid (fun (y : Nat) (e : (Value.slice (some ⟨a2, 0, none⟩) 0 0).ownBlock = some y) => show y ≠ c5 from Nat.ne_of_lt (NLO.out y e)); clear NLO
    refine hK _ _ ?_; clear hK K
    try simp only [Act.put, qsA, qsZ, qsS]
    refine oneY 4 rfl fun K hK => ?_
    refine wp_append_none _ (.tmp 33) (.tmp 36) 34 rfl 3 i0 Tryz.underlying34 HI.out a2 0 0 0 rfl rfl (Nat.le_refl _) ?_
    refine hK _ _ ?_; clear hK K
    try simp only [Act.put, qsA, qsZ, qsS]
    refine oneY 7 rfl fun K hK => ?_
    have hcl := one_cells a6.out
    have hlr := World.ownsRow.lt OE2.out
    refine wp_append_own _ (.tmp 37) (.tmp 39) 34 rfl w.heap.size 3 i0 _ 1 8 Tryz.underlying34 HI.out HZ0.out HZ1.out HZ2.out rfl (by omega) (.slice (some ⟨a2, 0, none⟩) 0 0) 0 ([]) rfl OE2.out ⟨c5, 0, none⟩ (1) (1) ([Value.int .i64 v]) rfl rfl hcl (by simp [Value.oneCell']) (by unfold maxLen; omega) (by omega) (Below.size KE.out) ?_
    intro v6 w_v6 hown_ hg_ _
    obtain ⟨Bv6, cv6, rfl, -⟩ := own_form hown_
    have d3 := Lib.hid (Below.grown KE.out hg_ (Below.size KE.out) (fun q e => (hlr q e).1))
    try simp only [Nat.zero_add, List.nil_append] at hown_
    try rw [Nat.zero_add]
    have O6 := Lib.hid hown_
    clear hown_ hg_ hcl hlr
    refine hK _ _ ?_; clear hK K
    try simp only [Act.put, qsA, qsZ, qsS]
    refine oneY 11 rfl fun K hK => ?_
    obtain ⟨g6, hg6, -⟩ := own_some2 O6.out (by omega)
    subst hg6
    refine wp_append_none _ (.tmp 40) (.tmp 43) 34 rfl 3 i0 Tryz.underlying34 HI.out g6 1 cv6 0 rfl rfl (OwnI.rd (show OwnI _ w.heap.size (some ⟨g6, 0, none⟩) 1 cv6 [v] from O6.out)).1.cap ?_
    refine hK _ _ ?_; clear hK K
    try simp only [Act.put, qsA, qsZ, qsS]
    refine' twY 12 ?_
    try simp only [Act.put, qsA, qsZ, qsS]
    refine wpAny_done (by kernel_rfl) ?_ _
    go_wp2
    go_ret
    exact ⟨some ⟨g6, 0, none⟩, 1, cv6, rfl, owns_base O6.out hbase, d3.out⟩
   exact AllReady.nil
  refine rdY rfl (fun K hK => ?_) ?_
  · -- 6: buildSlice
   go_simp
   have d1 := Lib.hid (KE.out.size)
   obtain ⟨o_, ho_⟩ : ∃ o, o = (.cells #[.int .i64 v] 3 : Obj) := ⟨_, rfl⟩
   replace KE := bA KE o_
   subst ho_
   have a0 := Lib.hid (Blk.new (a1) 3 #[.int .i64 v])
   obtain ⟨c6, b4⟩ : ∃ g, g = (a1).heap.size := ⟨_, rfl⟩
   obtain ⟨a4, b5⟩ : ∃ w', w' = (a1).alloc (.cells #[.int .i64 v] 3) := ⟨_, rfl⟩
   rw [← b5] at KE a0
   rw [← b4] at d1 a0
   rw [← b4, ← b5]
   clear b4 b5
   refine hK _ _ ?_; clear hK K
   try simp only [Act.put, qsA, qsZ, qsS]
   refine oneY 0 rfl fun K hK => ?_
   go_simp
   have hr_ : ((a4).alloc (.cells #[] 3)).ownsRow (a4).heap.size 3 1 (.slice (some ⟨(a4).heap.size, 0, none⟩) 0 0) 0 [] := World.ownsRow_lit (a4) #[] 0 (Nat.le_refl _) (by unfold maxLen; omega) rfl
   have OE := Lib.hid hr_; clear hr_
   have c1 := Lib.hid (KE.out.size)
   have c2 := Lib.hid (Nat.ne_of_lt (Blk.lt a0.out))
   obtain ⟨o_, ho_⟩ : ∃ o, o = (.cells #[] 3 : Obj) := ⟨_, rfl⟩
   replace KE := bA KE o_
   replace a0 := kA a0 o_
   subst ho_
   have c3 := Lib.hid (Blk.new (a4) 3 #[])
   obtain ⟨b8, b6⟩ : ∃ g, g = (a4).heap.size := ⟨_, rfl⟩
   obtain ⟨d7, b7⟩ : ∃ w', w' = (a4).alloc (.cells #[] 3) := ⟨_, rfl⟩
   rw [← b7] at KE a0 c3 OE
   rw [← b6] at c1 c2 c3 OE
   rw [← b6, ← b7]
   clear b6 b7
   have OE2 := Lib.hid (owns_base OE.out c1.out)
   have NEN := Lib.hid (fun (y : Nat) (e : (Value.slice (some ⟨b8, 0, none⟩) 0 0).ownBlock = some y) => show y ≠ c6 from by (cases e; exact Ne.symm c2.out))
   refine hK _ _ ?_; clear hK K
   try simp only [Act.put, qsA, qsZ, qsS]
   refine oneY 4 rfl fun K hK => ?_
   refine wp_append_none _ (.tmp 33) (.tmp 36) 34 rfl 3 i0 Tryz.underlying34 HI.out b8 0 0 0 rfl rfl (Nat.le_refl _) ?_
   refine hK _ _ ?_; clear hK K
   try simp only [Act.put, qsA, qsZ, qsS]
   refine oneY 7 rfl fun K hK => ?_
   have hcl := one_cells a0.out
   have hlr := World.ownsRow.lt OE2.out
   refine wp_append_own _ (.tmp 37) (.tmp 39) 34 rfl w.heap.size 3 i0 _ 1 8 Tryz.underlying34 HI.out HZ0.out HZ1.out HZ2.out rfl (by omega) (.slice (some ⟨b8, 0, none⟩) 0 0) 0 ([]) rfl OE2.out ⟨c6, 0, none⟩ (1) (1) ([Value.int .i64 v]) rfl rfl hcl (by simp [Value.oneCell']) (by unfold maxLen; omega) (by omega) (Below.size KE.out) ?_
   intro v6 w_v6 hown_ hg_ _
   obtain ⟨Bv6, cv6, rfl, -⟩ := own_form hown_
   have d4 := Lib.hid (Below.grown KE.out hg_ (Below.size KE.out) (fun q e => (hlr q e).1))
   try simp only [Nat.zero_add, List.nil_append] at hown_
   try rw [Nat.zero_add]
   have O6 := Lib.hid hown_
   clear hown_ hg_ hcl hlr
   refine hK _ _ ?_; clear hK K
   try simp only [Act.put, qsA, qsZ, qsS]
   refine oneY 11 rfl fun K hK => ?_
   obtain ⟨g6, hg6, -⟩ := own_some2 O6.out (by omega)
   subst hg6
   refine wp_append_none _ (.tmp 40) (.tmp 43) 34 rfl 3 i0 Tryz.underlying34 HI.out g6 1 cv6 0 rfl rfl (OwnI.rd (show OwnI _ w.heap.size (some ⟨g6, 0, none⟩) 1 cv6 [v] from O6.out)).1.cap ?_
   refine hK _ _ ?_; clear hK K
   try simp only [Act.put, qsA, qsZ, qsS]
   refine' twY 12 ?_
   try simp only [Act.put, qsA, qsZ, qsS]
   refine wpAny_done (by kernel_rfl) ?_ _
   go_wp2
   go_ret
   exact ⟨some ⟨g6, 0, none⟩, 1, cv6, rfl, owns_base O6.out hbase, d4.out⟩
  exact AllReady.nil
section
variable (base : Nat) (A : Option Addr) (n c : Nat) (L : List Int) (v : Int) (w : World) (hbase : base ≤ w.heap.size) (ho : OwnI w base A n c L)
include base A n c L v w hbase ho
set_option maxRecDepth 100000 in
theorem with_some (hn1 : 1 ≤ n) (hn : n ≤ 1000) :
 Calls Tryz.prog 99 #[.slice A n c, .int .i64 v] w fun e w' => ∃ B m d, e = .returned (.slice B m d) ∧ OwnI w' base B m d (insU v L) ∧ Below w.heap.size w w' := by
 have hr := (OwnI.rd ho).1
 have hln := hr.len
 have hcp := hr.cap
 obtain ⟨b, o, rfl⟩ := rdI_some hr (List.getElem?_eq_getElem (show 0 < L.length by omega))
 obtain ⟨i0, hi0, hz0, hz1, hz2⟩ := info_parts infoI
 have HI := Lib.hid hi0; have HZ0 := Lib.hid hz0; have HZ1 := Lib.hid hz1; have HZ2 := Lib.hid hz2; clear hi0 hz0 hz1 hz2
 have HR := Lib.hid hr; have HO := Lib.hid ho; have HLN := Lib.hid hln; have KE := Lib.hid (Below.drew (Below.refl w.heap.size w)); clear hr ho
 go_enter Tryz.func99, Tryz.ntmps99
 go_wp2
 go_loopw [5] (fun i wr => ∃ q : Nat, q ≤ n ∧ i = .int .i64 q ∧ (∀ x ∈ L.take q, x < v) ∧ w = wr) (fun i _ => n - (intOf i).toNat)
 case atStart => exact ⟨0, Nat.zero_le _, rfl, by simp, (by first | rfl | trivial)⟩
 case round =>
  obtain ⟨q, hq, rfl, hall, rfl⟩ := hrel
  have HALL := Lib.hid hall; clear hall
  have hrest : (∀ x, L[q]? = some x → v < x) → insU v L = L.take q ++ v :: L.drop q := fun h => insU_at (by omega) HALL.out h
  have HREST := Lib.hid hrest; clear hrest
  have HS3 := Lib.hid (head_slice b o n c q (by omega))
  have hs8 := tail_slice b o n c q (by omega)
  have htc := fun w' (h : RdI w' (some ⟨b, o, none⟩) n c L) => tail_cells h q
  generalize (if c = q then o else o + q) = ot at hs8 htc
  have HS8 := Lib.hid hs8; have HTC := Lib.hid htc; clear hs8 htc
  by_cases hqn : q < n
  · have hqn' : (q : Int) < n := by omega
    obtain ⟨x, hx⟩ : ∃ x, L[q]? = some x := ⟨L[q]'(by omega), List.getElem?_eq_getElem _⟩
    obtain ⟨ca, cl⟩ := rdI_at HR.out hx
    have HX := Lib.hid hx; clear hx
    by_cases h1 : x < v
    · have d1 : decide (x < v) = true := decide_eq_true h1
      go_wp2
      go_roundw
      case rel => exact ⟨q + 1, by omega, by go_num, fun y hy => by (rw [List.take_add_one, HX.out] at hy; rcases List.mem_append.1 hy with h | h; exact HALL.out y h; simp at h; omega), (by first | rfl | trivial)⟩
      case measure => simp [intOf]; omega
    · have d1 : decide (x < v) = false := decide_eq_false h1
      by_cases h2 : x = v
      · subst h2
        have d2 : (x == x) = true := beq_self_eq_true x
        have e := insU_same HALL.out HX.out
        have HEQ := Lib.hid e; clear e
        go_wp2
        go_ret
        exact ⟨_, n, c, rfl, by rw [HEQ.out]; exact HO.out, Below.refl _ _⟩
      · have d2 : (x == v) = false := beq_eq_false_iff_ne.2 h2
        have d3 : decide (x = v) = false := decide_eq_false h2
        have HINS := Lib.hid (HREST.out (fun y hy => by rw [HX.out] at hy; injection hy with hy; omega))
        go_wp2_with fail
        clear ca cl d1 d2 d3
        refine wp_region_any (by kernel_rfl) ?_
        change wpAny _ _ _ _ _ _ _ (World.drew _)
        obtain ⟨a2, c2⟩ : ∃ w', w' = w.drew := ⟨_, rfl⟩
        rw [← c2] at KE
        rw [← c2]
        clear c2
        refine' twY 1 ?_
        refine' twY 2 ?_
        refine' tkY 3 ?g9 ?_
        case g9 => (intro w; refine (exec_slice (w := w) 34 (.tmp 34) none (some (.tmp 35)) none (by rfl) (.slice (some ⟨b, o, none⟩) q c) (HS3.out w)).trans ?_; with_reducible rfl)
        refine' twY 5 ?_
        try simp only [Act.put, qsA, qsZ, qsS]
        refine' twY 8 ?_
        refine' twY 9 ?_
        refine' tkY 10 ?h0 ?_
        case h0 => (intro w; refine (exec_slice (w := w) 34 (.tmp 41) (some (.tmp 42)) none none (by rfl) (.slice (some ⟨b, ot, none⟩) (n - q) (c - q)) (HS8.out w)).trans ?_; with_reducible rfl)
        try simp only [Act.put, qsA, qsZ, qsS]
        refine wpAny_ready (rs := [0, 6]) (by kernel_rfl) (by simp) ?_
        refine rdY rfl (fun K hK => ?_) ?_
        · -- 0: buildSlice
         go_simp
         have hr_ : ((a2).alloc (.cells #[] 3)).ownsRow (a2).heap.size 3 1 (.slice (some ⟨(a2).heap.size, 0, none⟩) 0 0) 0 [] := World.ownsRow_lit (a2) #[] 0 (Nat.le_refl _) (by unfold maxLen; omega) rfl
         have OE := Lib.hid hr_; clear hr_
         have f1 := Lib.hid (KE.out.size)
         obtain ⟨o_, ho_⟩ : ∃ o, o = (.cells #[] 3 : Obj) := ⟨_, rfl⟩
         replace KE := bA KE o_
         subst ho_
         have f2 := Lib.hid (Blk.new (a2) 3 #[])
         obtain ⟨b2, c3⟩ : ∃ g, g = (a2).heap.size := ⟨_, rfl⟩
         obtain ⟨b3, c4⟩ : ∃ w', w' = (a2).alloc (.cells #[] 3) := ⟨_, rfl⟩
         rw [← c4] at KE f2 OE
         rw [← c3] at f1 f2 OE
         rw [← c3, ← c4]
         clear c3 c4
         have OE2 := Lib.hid (owns_base OE.out f1.out)
         refine hK _ _ ?_; clear hK K
         try simp only [Act.put, qsA, qsZ, qsS]
         refine wpAny_ready (rs := [4, 6]) (by kernel_rfl) (by simp) ?_
         refine rdY rfl (fun K hK => ?_) ?_
         · -- 4: call
          have hcl := head_cells (HR.out.below KE.out) q
          have hlr := World.ownsRow.lt OE2.out
          refine wp_append_own _ (.tmp 33) (.tmp 36) 34 rfl w.heap.size 3 i0 _ 1 8 Tryz.underlying34 HI.out HZ0.out HZ1.out HZ2.out rfl (by omega) (.slice (some ⟨b2, 0, none⟩) 0 0) 0 ([]) rfl OE2.out ⟨b, o, none⟩ (q) (c) ((L.take q).map (Value.int .i64)) rfl (by rw [List.length_map, List.length_take, HLN.out]; omega) hcl (ints_one2 _) (by unfold maxLen; omega) (by omega) (Below.size KE.out) ?_
          intro v5 w_v5 hown_ hg_ _
          obtain ⟨Bv5, cv5, rfl, -⟩ := own_form hown_
          have a4 := Lib.hid (Below.grown KE.out hg_ (Below.size KE.out) (fun q e => (hlr q e).1))
          try simp only [Nat.zero_add, List.nil_append] at hown_
          try rw [Nat.zero_add]
          have O5 := Lib.hid hown_
          clear hown_ hg_ hcl hlr
          refine hK _ _ ?_; clear hK K
          try simp only [Act.put, qsA, qsZ, qsS]
          refine oneY 6 rfl fun K hK => ?_
          go_simp
          have NLO := Lib.hid (fun (y : Nat) (e : (Value.slice Bv5 q cv5).ownBlock = some y) => show y < (w_v5).heap.size from (World.ownsRow.lt O5.out y e).2)
          have h5 := Lib.hid (a4.out.size)
          obtain ⟨o_, ho_⟩ : ∃ o, o = (.cells #[.int .i64 v] 3 : Obj) := ⟨_, rfl⟩
          replace a4 := bA a4 o_
          replace O5 := Lib.hid (World.ownsRow.alloc (O5.out) (o_))
          subst ho_
          have a8 := Lib.hid (Blk.new (w_v5) 3 #[.int .i64 v])
          obtain ⟨g1, c5⟩ : ∃ g, g = (w_v5).heap.size := ⟨_, rfl⟩
          obtain ⟨j2, c6⟩ : ∃ w', w' = (w_v5).alloc (.cells #[.int .i64 v] 3) := ⟨_, rfl⟩
          rw [← c6] at a4 O5 a8
          rw [← c5] at h5 a8 NLO
          rw [← c5, ← c6]
          clear c5 c6
          have NEN := Lib.hid (fun (y : Nat) (e : (Value.slice Bv5 q cv5).ownBlock = some y) => show y ≠ g1 from Nat.ne_of_lt (NLO.out y e)); clear NLO
          refine hK _ _ ?_; clear hK K
          try simp only [Act.put, qsA, qsZ, qsS]
          refine oneY 7 rfl fun K hK => ?_
          have hcl := one_cells a8.out
          have hlr := World.ownsRow.lt O5.out
          refine wp_append_own _ (.tmp 37) (.tmp 39) 34 rfl w.heap.size 3 i0 _ 1 8 Tryz.underlying34 HI.out HZ0.out HZ1.out HZ2.out rfl (by omega) (.slice Bv5 q cv5) q ((L.take q).map (Value.int .i64)) rfl O5.out ⟨g1, 0, none⟩ (1) (1) ([Value.int .i64 v]) rfl rfl hcl (by simp [Value.oneCell']) (by unfold maxLen; omega) (by omega) (Below.size a4.out) ?_
          intro v6 w_v6 hown_ hg_ _
          obtain ⟨Bv6, cv6, rfl, -⟩ := own_form hown_
          have b4 := Lib.hid (Below.grown a4.out hg_ (Below.size a4.out) (fun q e => (hlr q e).1))
          try simp only [Nat.zero_add, List.nil_append] at hown_
          try rw [Nat.zero_add]
          have O6 := Lib.hid hown_
          clear hown_ hg_ hcl hlr
          refine hK _ _ ?_; clear hK K
          try simp only [Act.put, qsA, qsZ, qsS]
          refine oneY 11 rfl fun K hK => ?_
          have hcl := HTC.out _ (HR.out.below b4.out)
          have hlr := World.ownsRow.lt O6.out
          refine wp_append_own _ (.tmp 40) (.tmp 43) 34 rfl w.heap.size 3 i0 _ 1 8 Tryz.underlying34 HI.out HZ0.out HZ1.out HZ2.out rfl (by omega) (.slice Bv6 (q + 1) cv6) (q + 1) (((L.take q).map (Value.int .i64)) ++ [Value.int .i64 v]) rfl O6.out ⟨b, ot, none⟩ (n - q) (c - q) ((L.drop q).map (Value.int .i64)) rfl (by rw [List.length_map, List.length_drop, HLN.out]; omega) hcl (ints_one2 _) (by unfold maxLen; omega) (by omega) (Below.size b4.out) ?_
          intro v8 w_v8 hown_ hg_ _
          obtain ⟨Bv8, cv8, rfl, -⟩ := own_form hown_
          have i2 := Lib.hid (Below.grown b4.out hg_ (Below.size b4.out) (fun q e => (hlr q e).1))
          try simp only [Nat.zero_add, List.nil_append] at hown_
          try rw [Nat.zero_add]
          have O8 := Lib.hid hown_
          clear hown_ hg_ hcl hlr
          refine hK _ _ ?_; clear hK K
          try simp only [Act.put, qsA, qsZ, qsS]
          refine' twY 12 ?_
          try simp only [Act.put, qsA, qsZ, qsS]
          refine wpAny_done (by kernel_rfl) ?_ _
          go_wp2
          go_ret
          refine ⟨Bv8, _, cv8, ret_slice rfl, ?_, i2.out⟩
          have h := owns_base O8.out hbase
          rw [← List.map_singleton (f := Value.int .i64), ← List.map_append, ← List.map_append, List.append_assoc, List.singleton_append, ← HINS.out] at h
          exact h
         refine rdY rfl (fun K hK => ?_) ?_
         · -- 6: buildSlice
          go_simp
          have NLO := Lib.hid (fun (y : Nat) (e : (Value.slice (some ⟨b2, 0, none⟩) 0 0).ownBlock = some y) => show y < (b3).heap.size from (World.ownsRow.lt OE2.out y e).2)
          have h6 := Lib.hid (KE.out.size)
          obtain ⟨o_, ho_⟩ : ∃ o, o = (.cells #[.int .i64 v] 3 : Obj) := ⟨_, rfl⟩
          replace KE := bA KE o_
          replace OE2 := Lib.hid (World.ownsRow.alloc (OE2.out) (o_))
          subst ho_
          have a9 := Lib.hid (Blk.new (b3) 3 #[.int .i64 v])
          obtain ⟨g2, c7⟩ : ∃ g, g = (b3).heap.size := ⟨_, rfl⟩
          obtain ⟨j3, c8⟩ : ∃ w', w' = (b3).alloc (.cells #[.int .i64 v] 3) := ⟨_, rfl⟩
          rw [← c8] at KE OE2 a9
          rw [← c7] at h6 a9 NLO
          rw [← c7, ← c8]
          clear c7 c8
          have NEN := Lib.hid (fun (y : Nat) (e : (Value.slice (some ⟨b2, 0, none⟩) 0 0).ownBlock = some y) => show y ≠ g2 from Nat.ne_of_lt (NLO.out y e)); clear NLO
          refine hK _ _ ?_; clear hK K
          try simp only [Act.put, qsA, qsZ, qsS]
          refine oneY 4 rfl fun K hK => ?_
          have hcl := head_cells (HR.out.below KE.out) q
          have hlr := World.ownsRow.lt OE2.out
          refine wp_append_own _ (.tmp 33) (.tmp 36) 34 rfl w.heap.size 3 i0 _ 1 8 Tryz.underlying34 HI.out HZ0.out HZ1.out HZ2.out rfl (by omega) (.slice (some ⟨b2, 0, none⟩) 0 0) 0 ([]) rfl OE2.out ⟨b, o, none⟩ (q) (c) ((L.take q).map (Value.int .i64)) rfl (by rw [List.length_map, List.length_take, HLN.out]; omega) hcl (ints_one2 _) (by unfold maxLen; omega) (by omega) (Below.size KE.out) ?_
          intro v5 w_v5 hown_ hg_ _
          obtain ⟨Bv5, cv5, rfl, -⟩ := own_form hown_
          have e7 := Lib.hid (Below.grown KE.out hg_ (Below.size KE.out) (fun q e => (hlr q e).1))
          try simp only [Nat.zero_add, List.nil_append] at hown_
          try rw [Nat.zero_add]
          have O5 := Lib.hid hown_
          have i3 := Lib.hid (blk_grown a9.out hg_ (fun e => NEN.out _ e rfl))
          clear hown_ hg_ hcl hlr
          refine hK _ _ ?_; clear hK K
          try simp only [Act.put, qsA, qsZ, qsS]
          refine oneY 7 rfl fun K hK => ?_
          have hcl := one_cells i3.out
          have hlr := World.ownsRow.lt O5.out
          refine wp_append_own _ (.tmp 37) (.tmp 39) 34 rfl w.heap.size 3 i0 _ 1 8 Tryz.underlying34 HI.out HZ0.out HZ1.out HZ2.out rfl (by omega) (.slice Bv5 q cv5) q ((L.take q).map (Value.int .i64)) rfl O5.out ⟨g2, 0, none⟩ (1) (1) ([Value.int .i64 v]) rfl rfl hcl (by simp [Value.oneCell']) (by unfold maxLen; omega) (by omega) (Below.size e7.out) ?_
          intro v6 w_v6 hown_ hg_ _
          obtain ⟨Bv6, cv6, rfl, -⟩ := own_form hown_
          have b5 := Lib.hid (Below.grown e7.out hg_ (Below.size e7.out) (fun q e => (hlr q e).1))
          try simp only [Nat.zero_add, List.nil_append] at hown_
          try rw [Nat.zero_add]
          have O6 := Lib.hid hown_
          clear hown_ hg_ hcl hlr
          refine hK _ _ ?_; clear hK K
          try simp only [Act.put, qsA, qsZ, qsS]
          refine oneY 11 rfl fun K hK => ?_
          have hcl := HTC.out _ (HR.out.below b5.out)
          have hlr := World.ownsRow.lt O6.out
          refine wp_append_own _ (.tmp 40) (.tmp 43) 34 rfl w.heap.size 3 i0 _ 1 8 Tryz.underlying34 HI.out HZ0.out HZ1.out HZ2.out rfl (by omega) (.slice Bv6 (q + 1) cv6) (q + 1) (((L.take q).map (Value.int .i64)) ++ [Value.int .i64 v]) rfl O6.out ⟨b, ot, none⟩ (n - q) (c - q) ((L.drop q).map (Value.int .i64)) rfl (by rw [List.length_map, List.length_drop, HLN.out]; omega) hcl (ints_one2 _) (by unfold maxLen; omega) (by omega) (Below.size b5.out) ?_
          intro v8 w_v8 hown_ hg_ _
          obtain ⟨Bv8, cv8, rfl, -⟩ := own_form hown_
          have i4 := Lib.hid (Below.grown b5.out hg_ (Below.size b5.out) (fun q e => (hlr q e).1))
          try simp only [Nat.zero_add, List.nil_append] at hown_
          try rw [Nat.zero_add]
          have O8 := Lib.hid hown_
          clear hown_ hg_ hcl hlr
          refine hK _ _ ?_; clear hK K
          try simp only [Act.put, qsA, qsZ, qsS]
          refine' twY 12 ?_
          try simp only [Act.put, qsA, qsZ, qsS]
          refine wpAny_done (by kernel_rfl) ?_ _
          go_wp2
          go_ret
          refine ⟨Bv8, _, cv8, ret_slice rfl, ?_, i4.out⟩
          have h := owns_base O8.out hbase
          rw [← List.map_singleton (f := Value.int .i64), ← List.map_append, ← List.map_append, List.append_assoc, List.singleton_append, ← HINS.out] at h
          exact h
         exact AllReady.nil
        refine rdY rfl (fun K hK => ?_) ?_
        · -- 6: buildSlice
         go_simp
         have h7 := Lib.hid (KE.out.size)
         obtain ⟨o_, ho_⟩ : ∃ o, o = (.cells #[.int .i64 v] 3 : Obj) := ⟨_, rfl⟩
         replace KE := bA KE o_
         subst ho_
         have a0 := Lib.hid (Blk.new (a2) 3 #[.int .i64 v])
         obtain ⟨g3, c9⟩ : ∃ g, g = (a2).heap.size := ⟨_, rfl⟩
         obtain ⟨a5, d0⟩ : ∃ w', w' = (a2).alloc (.cells #[.int .i64 v] 3) := ⟨_, rfl⟩
         rw [← d0] at KE a0
         rw [← c9] at h7 a0
         rw [← c9, ← d0]
         clear c9 d0
         refine hK _ _ ?_; clear hK K
         try simp only [Act.put, qsA, qsZ, qsS]
         refine oneY 0 rfl fun K hK => ?_
         go_simp
         have hr_ : ((a5).alloc (.cells #[] 3)).ownsRow (a5).heap.size 3 1 (.slice (some ⟨(a5).heap.size, 0, none⟩) 0 0) 0 [] := World.ownsRow_lit (a5) #[] 0 (Nat.le_refl _) (by unfold maxLen; omega) rfl
         have OE := Lib.hid hr_; clear hr_
         have f3 := Lib.hid (KE.out.size)
         have f4 := Lib.hid (Nat.ne_of_lt (Blk.lt a0.out))
         obtain ⟨o_, ho_⟩ : ∃ o, o = (.cells #[] 3 : Obj) := ⟨_, rfl⟩
         replace KE := bA KE o_
         replace a0 := kA a0 o_
         subst ho_
         have f5 := Lib.hid (Blk.new (a5) 3 #[])
         obtain ⟨g4, d4⟩ : ∃ g, g = (a5).heap.size := ⟨_, rfl⟩
         obtain ⟨j4, d5⟩ : ∃ w', w' = (a5).alloc (.cells #[] 3) := ⟨_, rfl⟩
         rw [← d5] at KE a0 f5 OE
         rw [← d4] at f3 f4 f5 OE
         rw [← d4, ← d5]
         clear d4 d5
         have OE2 := Lib.hid (owns_base OE.out f3.out)
         have NEN := Lib.hid (fun (y : Nat) (e : (Value.slice (some ⟨g4, 0, none⟩) 0 0).ownBlock = some y) => show y ≠ g3 from by (cases e; exact Ne.symm f4.out))
         refine hK _ _ ?_; clear hK K
         try simp only [Act.put, qsA, qsZ, qsS]
         refine oneY 4 rfl fun K hK => ?_
         have hcl := head_cells (HR.out.below KE.out) q
         have hlr := World.ownsRow.lt OE2.out
         refine wp_append_own _ (.tmp 33) (.tmp 36) 34 rfl w.heap.size 3 i0 _ 1 8 Tryz.underlying34 HI.out HZ0.out HZ1.out HZ2.out rfl (by omega) (.slice (some ⟨g4, 0, none⟩) 0 0) 0 ([]) rfl OE2.out ⟨b, o, none⟩ (q) (c) ((L.take q).map (Value.int .i64)) rfl (by rw [List.length_map, List.length_take, HLN.out]; omega) hcl (ints_one2 _) (by unfold maxLen; omega) (by omega) (Below.size KE.out) ?_
         intro v5 w_v5 hown_ hg_ _
         obtain ⟨Bv5, cv5, rfl, -⟩ := own_form hown_
         have e8 := Lib.hid (Below.grown KE.out hg_ (Below.size KE.out) (fun q e => (hlr q e).1))
         try simp only [Nat.zero_add, List.nil_append] at hown_
         try rw [Nat.zero_add]
         have O5 := Lib.hid hown_
         have i5 := Lib.hid (blk_grown a0.out hg_ (fun e => NEN.out _ e rfl))
         clear hown_ hg_ hcl hlr
         refine hK _ _ ?_; clear hK K
         try simp only [Act.put, qsA, qsZ, qsS]
         refine oneY 7 rfl fun K hK => ?_
         have hcl := one_cells i5.out
         have hlr := World.ownsRow.lt O5.out
         refine wp_append_own _ (.tmp 37) (.tmp 39) 34 rfl w.heap.size 3 i0 _ 1 8 Tryz.underlying34 HI.out HZ0.out HZ1.out HZ2.out rfl (by omega) (.slice Bv5 q cv5) q ((L.take q).map (Value.int .i64)) rfl O5.out ⟨g3, 0, none⟩ (1) (1) ([Value.int .i64 v]) rfl rfl hcl (by simp [Value.oneCell']) (by unfold maxLen; omega) (by omega) (Below.size e8.out) ?_
         intro v6 w_v6 hown_ hg_ _
         obtain ⟨Bv6, cv6, rfl, -⟩ := own_form hown_
         have b6 := Lib.hid (Below.grown e8.out hg_ (Below.size e8.out) (fun q e => (hlr q e).1))
         try simp only [Nat.zero_add, List.nil_append] at hown_
         try rw [Nat.zero_add]
         have O6 := Lib.hid hown_
         clear hown_ hg_ hcl hlr
         refine hK _ _ ?_; clear hK K
         try simp only [Act.put, qsA, qsZ, qsS]
         refine oneY 11 rfl fun K hK => ?_
         have hcl := HTC.out _ (HR.out.below b6.out)
         have hlr := World.ownsRow.lt O6.out
         refine wp_append_own _ (.tmp 40) (.tmp 43) 34 rfl w.heap.size 3 i0 _ 1 8 Tryz.underlying34 HI.out HZ0.out HZ1.out HZ2.out rfl (by omega) (.slice Bv6 (q + 1) cv6) (q + 1) (((L.take q).map (Value.int .i64)) ++ [Value.int .i64 v]) rfl O6.out ⟨b, ot, none⟩ (n - q) (c - q) ((L.drop q).map (Value.int .i64)) rfl (by rw [List.length_map, List.length_drop, HLN.out]; omega) hcl (ints_one2 _) (by unfold maxLen; omega) (by omega) (Below.size b6.out) ?_
         intro v8 w_v8 hown_ hg_ _
         obtain ⟨Bv8, cv8, rfl, -⟩ := own_form hown_
         have i6 := Lib.hid (Below.grown b6.out hg_ (Below.size b6.out) (fun q e => (hlr q e).1))
         try simp only [Nat.zero_add, List.nil_append] at hown_
         try rw [Nat.zero_add]
         have O8 := Lib.hid hown_
         clear hown_ hg_ hcl hlr
         refine hK _ _ ?_; clear hK K
         try simp only [Act.put, qsA, qsZ, qsS]
         refine' twY 12 ?_
         try simp only [Act.put, qsA, qsZ, qsS]
         refine wpAny_done (by kernel_rfl) ?_ _
         go_wp2
         go_ret
         refine ⟨Bv8, _, cv8, ret_slice rfl, ?_, i6.out⟩
         have h := owns_base O8.out hbase
         rw [← List.map_singleton (f := Value.int .i64), ← List.map_append, ← List.map_append, List.append_assoc, List.singleton_append, ← HINS.out] at h
         exact h
        exact AllReady.nil
  · have hq1 : ¬ (q : Int) < n := by omega
    have hq2 : decide ((q : Int) < n) = false := decide_eq_false hq1
    have HINS := Lib.hid (HREST.out (fun y hy => by have := (List.getElem?_eq_some_iff.1 hy).1; omega))
    go_wp2_with fail
    refine wp_region_any (by kernel_rfl) ?_
    change wpAny _ _ _ _ _ _ _ (World.drew _)
    obtain ⟨a3, d6⟩ : ∃ w', w' = w.drew := ⟨_, rfl⟩
    rw [← d6] at KE
    rw [← d6]
    clear d6
    refine' twY 1 ?_
    refine' twY 2 ?_
    refine' tkY 3 ?h3 ?_
    case h3 => (intro w; refine (exec_slice (w := w) 34 (.tmp 34) none (some (.tmp 35)) none (by rfl) (.slice (some ⟨b, o, none⟩) q c) (HS3.out w)).trans ?_; with_reducible rfl)
    refine' twY 5 ?_
    try simp only [Act.put, qsA, qsZ, qsS]
    refine' twY 8 ?_
    refine' twY 9 ?_
    refine' tkY 10 ?h4 ?_
    case h4 => (intro w; refine (exec_slice (w := w) 34 (.tmp 41) (some (.tmp 42)) none none (by rfl) (.slice (some ⟨b, ot, none⟩) (n - q) (c - q)) (HS8.out w)).trans ?_; with_reducible rfl)
    try simp only [Act.put, qsA, qsZ, qsS]
    refine wpAny_ready (rs := [0, 6]) (by kernel_rfl) (by simp) ?_
    refine rdY rfl (fun K hK => ?_) ?_
    · -- 0: buildSlice
     go_simp
     have hr_ : ((a3).alloc (.cells #[] 3)).ownsRow (a3).heap.size 3 1 (.slice (some ⟨(a3).heap.size, 0, none⟩) 0 0) 0 [] := World.ownsRow_lit (a3) #[] 0 (Nat.le_refl _) (by unfold maxLen; omega) rfl
     have OE := Lib.hid hr_; clear hr_
     have f6 := Lib.hid (KE.out.size)
     obtain ⟨o_, ho_⟩ : ∃ o, o = (.cells #[] 3 : Obj) := ⟨_, rfl⟩
     replace KE := bA KE o_
     subst ho_
     have f7 := Lib.hid (Blk.new (a3) 3 #[])
     obtain ⟨b7, d7⟩ : ∃ g, g = (a3).heap.size := ⟨_, rfl⟩
     obtain ⟨b8, d8⟩ : ∃ w', w' = (a3).alloc (.cells #[] 3) := ⟨_, rfl⟩
     rw [← d8] at KE f7 OE
     rw [← d7] at f6 f7 OE
     rw [← d7, ← d8]
     clear d7 d8
     have OE2 := Lib.hid (owns_base OE.out f6.out)
     refine hK _ _ ?_; clear hK K
     try simp only [Act.put, qsA, qsZ, qsS]
     refine wpAny_ready (rs := [4, 6]) (by kernel_rfl) (by simp) ?_
     refine rdY rfl (fun K hK => ?_) ?_
     · -- 4: call
      have hcl := head_cells (HR.out.below KE.out) q
      have hlr := World.ownsRow.lt OE2.out
      refine wp_append_own _ (.tmp 33) (.tmp 36) 34 rfl w.heap.size 3 i0 _ 1 8 Tryz.underlying34 HI.out HZ0.out HZ1.out HZ2.out rfl (by omega) (.slice (some ⟨b7, 0, none⟩) 0 0) 0 ([]) rfl OE2.out ⟨b, o, none⟩ (q) (c) ((L.take q).map (Value.int .i64)) rfl (by rw [List.length_map, List.length_take, HLN.out]; omega) hcl (ints_one2 _) (by unfold maxLen; omega) (by omega) (Below.size KE.out) ?_
      intro v5 w_v5 hown_ hg_ _
      obtain ⟨Bv5, cv5, rfl, -⟩ := own_form hown_
      have a6 := Lib.hid (Below.grown KE.out hg_ (Below.size KE.out) (fun q e => (hlr q e).1))
      try simp only [Nat.zero_add, List.nil_append] at hown_
      try rw [Nat.zero_add]
      have O5 := Lib.hid hown_
      clear hown_ hg_ hcl hlr
      refine hK _ _ ?_; clear hK K
      try simp only [Act.put, qsA, qsZ, qsS]
      refine oneY 6 rfl fun K hK => ?_
      go_simp
      have NLO := Lib.hid (fun (y : Nat) (e : (Value.slice Bv5 q cv5).ownBlock = some y) => show y < (w_v5).heap.size from (World.ownsRow.lt O5.out y e).2)
      have h8 := Lib.hid (a6.out.size)
      obtain ⟨o_, ho_⟩ : ∃ o, o = (.cells #[.int .i64 v] 3 : Obj) := ⟨_, rfl⟩
      replace a6 := bA a6 o_
      replace O5 := Lib.hid (World.ownsRow.alloc (O5.out) (o_))
      subst ho_
      have b0 := Lib.hid (Blk.new (w_v5) 3 #[.int .i64 v])
      obtain ⟨g5, d9⟩ : ∃ g, g = (w_v5).heap.size := ⟨_, rfl⟩
      obtain ⟨j5, e0⟩ : ∃ w', w' = (w_v5).alloc (.cells #[.int .i64 v] 3) := ⟨_, rfl⟩
      rw [← e0] at a6 O5 b0
      rw [← d9] at h8 b0 NLO
      rw [← d9, ← e0]
      clear d9 e0
      have NEN := Lib.hid (fun (y : Nat) (e : (Value.slice Bv5 q cv5).ownBlock = some y) => show y ≠ g5 from Nat.ne_of_lt (NLO.out y e)); clear NLO
      refine hK _ _ ?_; clear hK K
      try simp only [Act.put, qsA, qsZ, qsS]
      refine oneY 7 rfl fun K hK => ?_
      have hcl := one_cells b0.out
      have hlr := World.ownsRow.lt O5.out
      refine wp_append_own _ (.tmp 37) (.tmp 39) 34 rfl w.heap.size 3 i0 _ 1 8 Tryz.underlying34 HI.out HZ0.out HZ1.out HZ2.out rfl (by omega) (.slice Bv5 q cv5) q ((L.take q).map (Value.int .i64)) rfl O5.out ⟨g5, 0, none⟩ (1) (1) ([Value.int .i64 v]) rfl rfl hcl (by simp [Value.oneCell']) (by unfold maxLen; omega) (by omega) (Below.size a6.out) ?_
      intro v6 w_v6 hown_ hg_ _
      obtain ⟨Bv6, cv6, rfl, -⟩ := own_form hown_
      have b9 := Lib.hid (Below.grown a6.out hg_ (Below.size a6.out) (fun q e => (hlr q e).1))
      try simp only [Nat.zero_add, List.nil_append] at hown_
      try rw [Nat.zero_add]
      have O6 := Lib.hid hown_
      clear hown_ hg_ hcl hlr
      refine hK _ _ ?_; clear hK K
      try simp only [Act.put, qsA, qsZ, qsS]
      refine oneY 11 rfl fun K hK => ?_
      have hcl := HTC.out _ (HR.out.below b9.out)
      have hlr := World.ownsRow.lt O6.out
      refine wp_append_own _ (.tmp 40) (.tmp 43) 34 rfl w.heap.size 3 i0 _ 1 8 Tryz.underlying34 HI.out HZ0.out HZ1.out HZ2.out rfl (by omega) (.slice Bv6 (q + 1) cv6) (q + 1) (((L.take q).map (Value.int .i64)) ++ [Value.int .i64 v]) rfl O6.out ⟨b, ot, none⟩ (n - q) (c - q) ((L.drop q).map (Value.int .i64)) rfl (by rw [List.length_map, List.length_drop, HLN.out]; omega) hcl (ints_one2 _) (by unfold maxLen; omega) (by omega) (Below.size b9.out) ?_
      intro v8 w_v8 hown_ hg_ _
      obtain ⟨Bv8, cv8, rfl, -⟩ := own_form hown_
      have i7 := Lib.hid (Below.grown b9.out hg_ (Below.size b9.out) (fun q e => (hlr q e).1))
      try simp only [Nat.zero_add, List.nil_append] at hown_
      try rw [Nat.zero_add]
      have O8 := Lib.hid hown_
      clear hown_ hg_ hcl hlr
      refine hK _ _ ?_; clear hK K
      try simp only [Act.put, qsA, qsZ, qsS]
      refine' twY 12 ?_
      try simp only [Act.put, qsA, qsZ, qsS]
      refine wpAny_done (by kernel_rfl) ?_ _
      go_wp2
      go_ret
      refine ⟨Bv8, _, cv8, ret_slice rfl, ?_, i7.out⟩
      have h := owns_base O8.out hbase
      rw [← List.map_singleton (f := Value.int .i64), ← List.map_append, ← List.map_append, List.append_assoc, List.singleton_append, ← HINS.out] at h
      exact h
     refine rdY rfl (fun K hK => ?_) ?_
     · -- 6: buildSlice
      go_simp
      have NLO := Lib.hid (fun (y : Nat) (e : (Value.slice (some ⟨b7, 0, none⟩) 0 0).ownBlock = some y) => show y < (b8).heap.size from (World.ownsRow.lt OE2.out y e).2)
      have h9 := Lib.hid (KE.out.size)
      obtain ⟨o_, ho_⟩ : ∃ o, o = (.cells #[.int .i64 v] 3 : Obj) := ⟨_, rfl⟩
      replace KE := bA KE o_
      replace OE2 := Lib.hid (World.ownsRow.alloc (OE2.out) (o_))
      subst ho_
      have b1 := Lib.hid (Blk.new (b8) 3 #[.int .i64 v])
      obtain ⟨g6, e1⟩ : ∃ g, g = (b8).heap.size := ⟨_, rfl⟩
      obtain ⟨j6, e2⟩ : ∃ w', w' = (b8).alloc (.cells #[.int .i64 v] 3) := ⟨_, rfl⟩
      rw [← e2] at KE OE2 b1
      rw [← e1] at h9 b1 NLO
      rw [← e1, ← e2]
      clear e1 e2
      have NEN := Lib.hid (fun (y : Nat) (e : (Value.slice (some ⟨b7, 0, none⟩) 0 0).ownBlock = some y) => show y ≠ g6 from Nat.ne_of_lt (NLO.out y e)); clear NLO
      refine hK _ _ ?_; clear hK K
      try simp only [Act.put, qsA, qsZ, qsS]
      refine oneY 4 rfl fun K hK => ?_
      have hcl := head_cells (HR.out.below KE.out) q
      have hlr := World.ownsRow.lt OE2.out
      refine wp_append_own _ (.tmp 33) (.tmp 36) 34 rfl w.heap.size 3 i0 _ 1 8 Tryz.underlying34 HI.out HZ0.out HZ1.out HZ2.out rfl (by omega) (.slice (some ⟨b7, 0, none⟩) 0 0) 0 ([]) rfl OE2.out ⟨b, o, none⟩ (q) (c) ((L.take q).map (Value.int .i64)) rfl (by rw [List.length_map, List.length_take, HLN.out]; omega) hcl (ints_one2 _) (by unfold maxLen; omega) (by omega) (Below.size KE.out) ?_
      intro v5 w_v5 hown_ hg_ _
      obtain ⟨Bv5, cv5, rfl, -⟩ := own_form hown_
      have e9 := Lib.hid (Below.grown KE.out hg_ (Below.size KE.out) (fun q e => (hlr q e).1))
      try simp only [Nat.zero_add, List.nil_append] at hown_
      try rw [Nat.zero_add]
      have O5 := Lib.hid hown_
      have i8 := Lib.hid (blk_grown b1.out hg_ (fun e => NEN.out _ e rfl))
      clear hown_ hg_ hcl hlr
      refine hK _ _ ?_; clear hK K
      try simp only [Act.put, qsA, qsZ, qsS]
      refine oneY 7 rfl fun K hK => ?_
      have hcl := one_cells i8.out
      have hlr := World.ownsRow.lt O5.out
      refine wp_append_own _ (.tmp 37) (.tmp 39) 34 rfl w.heap.size 3 i0 _ 1 8 Tryz.underlying34 HI.out HZ0.out HZ1.out HZ2.out rfl (by omega) (.slice Bv5 q cv5) q ((L.take q).map (Value.int .i64)) rfl O5.out ⟨g6, 0, none⟩ (1) (1) ([Value.int .i64 v]) rfl rfl hcl (by simp [Value.oneCell']) (by unfold maxLen; omega) (by omega) (Below.size e9.out) ?_
      intro v6 w_v6 hown_ hg_ _
      obtain ⟨Bv6, cv6, rfl, -⟩ := own_form hown_
      have c0 := Lib.hid (Below.grown e9.out hg_ (Below.size e9.out) (fun q e => (hlr q e).1))
      try simp only [Nat.zero_add, List.nil_append] at hown_
      try rw [Nat.zero_add]
      have O6 := Lib.hid hown_
      clear hown_ hg_ hcl hlr
      refine hK _ _ ?_; clear hK K
      try simp only [Act.put, qsA, qsZ, qsS]
      refine oneY 11 rfl fun K hK => ?_
      have hcl := HTC.out _ (HR.out.below c0.out)
      have hlr := World.ownsRow.lt O6.out
      refine wp_append_own _ (.tmp 40) (.tmp 43) 34 rfl w.heap.size 3 i0 _ 1 8 Tryz.underlying34 HI.out HZ0.out HZ1.out HZ2.out rfl (by omega) (.slice Bv6 (q + 1) cv6) (q + 1) (((L.take q).map (Value.int .i64)) ++ [Value.int .i64 v]) rfl O6.out ⟨b, ot, none⟩ (n - q) (c - q) ((L.drop q).map (Value.int .i64)) rfl (by rw [List.length_map, List.length_drop, HLN.out]; omega) hcl (ints_one2 _) (by unfold maxLen; omega) (by omega) (Below.size c0.out) ?_
      intro v8 w_v8 hown_ hg_ _
      obtain ⟨Bv8, cv8, rfl, -⟩ := own_form hown_
      have i9 := Lib.hid (Below.grown c0.out hg_ (Below.size c0.out) (fun q e => (hlr q e).1))
      try simp only [Nat.zero_add, List.nil_append] at hown_
      try rw [Nat.zero_add]
      have O8 := Lib.hid hown_
      clear hown_ hg_ hcl hlr
      refine hK _ _ ?_; clear hK K
      try simp only [Act.put, qsA, qsZ, qsS]
      refine' twY 12 ?_
      try simp only [Act.put, qsA, qsZ, qsS]
      refine wpAny_done (by kernel_rfl) ?_ _
      go_wp2
      go_ret
      refine ⟨Bv8, _, cv8, ret_slice rfl, ?_, i9.out⟩
      have h := owns_base O8.out hbase
      rw [← List.map_singleton (f := Value.int .i64), ← List.map_append, ← List.map_append, List.append_assoc, List.singleton_append, ← HINS.out] at h
      exact h
     exact AllReady.nil
    refine rdY rfl (fun K hK => ?_) ?_
    · -- 6: buildSlice
     go_simp
     have i1 := Lib.hid (KE.out.size)
     obtain ⟨o_, ho_⟩ : ∃ o, o = (.cells #[.int .i64 v] 3 : Obj) := ⟨_, rfl⟩
     replace KE := bA KE o_
     subst ho_
     have a1 := Lib.hid (Blk.new (a3) 3 #[.int .i64 v])
     obtain ⟨g7, e3⟩ : ∃ g, g = (a3).heap.size := ⟨_, rfl⟩
     obtain ⟨a7, e4⟩ : ∃ w', w' = (a3).alloc (.cells #[.int .i64 v] 3) := ⟨_, rfl⟩
     rw [← e4] at KE a1
     rw [← e3] at i1 a1
     rw [← e3, ← e4]
     clear e3 e4
     refine hK _ _ ?_; clear hK K
     try simp only [Act.put, qsA, qsZ, qsS]
     refine oneY 0 rfl fun K hK => ?_
     go_simp
     have hr_ : ((a7).alloc (.cells #[] 3)).ownsRow (a7).heap.size 3 1 (.slice (some ⟨(a7).heap.size, 0, none⟩) 0 0) 0 [] := World.ownsRow_lit (a7) #[] 0 (Nat.le_refl _) (by unfold maxLen; omega) rfl
     have OE := Lib.hid hr_; clear hr_
     have f8 := Lib.hid (KE.out.size)
     have f9 := Lib.hid (Nat.ne_of_lt (Blk.lt a1.out))
     obtain ⟨o_, ho_⟩ : ∃ o, o = (.cells #[] 3 : Obj) := ⟨_, rfl⟩
     replace KE := bA KE o_
     replace a1 := kA a1 o_
     subst ho_
     have g0 := Lib.hid (Blk.new (a7) 3 #[])
     obtain ⟨g8, e5⟩ : ∃ g, g = (a7).heap.size := ⟨_, rfl⟩
     obtain ⟨j7, e6⟩ : ∃ w', w' = (a7).alloc (.cells #[] 3) := ⟨_, rfl⟩
     rw [← e6] at KE a1 g0 OE
     rw [← e5] at f8 f9 g0 OE
     rw [← e5, ← e6]
     clear e5 e6
     have OE2 := Lib.hid (owns_base OE.out f8.out)
     have NEN := Lib.hid (fun (y : Nat) (e : (Value.slice (some ⟨g8, 0, none⟩) 0 0).ownBlock = some y) => show y ≠ g7 from by (cases e; exact Ne.symm f9.out))
     refine hK _ _ ?_; clear hK K
     try simp only [Act.put, qsA, qsZ, qsS]
     refine oneY 4 rfl fun K hK => ?_
     have hcl := head_cells (HR.out.below KE.out) q
     have hlr := World.ownsRow.lt OE2.out
     refine wp_append_own _ (.tmp 33) (.tmp 36) 34 rfl w.heap.size 3 i0 _ 1 8 Tryz.underlying34 HI.out HZ0.out HZ1.out HZ2.out rfl (by omega) (.slice (some ⟨g8, 0, none⟩) 0 0) 0 ([]) rfl OE2.out ⟨b, o, none⟩ (q) (c) ((L.take q).map (Value.int .i64)) rfl (by rw [List.length_map, List.length_take, HLN.out]; omega) hcl (ints_one2 _) (by unfold maxLen; omega) (by omega) (Below.size KE.out) ?_
     intro v5 w_v5 hown_ hg_ _
     obtain ⟨Bv5, cv5, rfl, -⟩ := own_form hown_
     have f0 := Lib.hid (Below.grown KE.out hg_ (Below.size KE.out) (fun q e => (hlr q e).1))
     try simp only [Nat.zero_add, List.nil_append] at hown_
     try rw [Nat.zero_add]
     have O5 := Lib.hid hown_
     have j0 := Lib.hid (blk_grown a1.out hg_ (fun e => NEN.out _ e rfl))
     clear hown_ hg_ hcl hlr
     refine hK _ _ ?_; clear hK K
     try simp only [Act.put, qsA, qsZ, qsS]
     refine oneY 7 rfl fun K hK => ?_
     have hcl := one_cells j0.out
     have hlr := World.ownsRow.lt O5.out
     refine wp_append_own _ (.tmp 37) (.tmp 39) 34 rfl w.heap.size 3 i0 _ 1 8 Tryz.underlying34 HI.out HZ0.out HZ1.out HZ2.out rfl (by omega) (.slice Bv5 q cv5) q ((L.take q).map (Value.int .i64)) rfl O5.out ⟨g7, 0, none⟩ (1) (1) ([Value.int .i64 v]) rfl rfl hcl (by simp [Value.oneCell']) (by unfold maxLen; omega) (by omega) (Below.size f0.out) ?_
     intro v6 w_v6 hown_ hg_ _
     obtain ⟨Bv6, cv6, rfl, -⟩ := own_form hown_
     have c1 := Lib.hid (Below.grown f0.out hg_ (Below.size f0.out) (fun q e => (hlr q e).1))
     try simp only [Nat.zero_add, List.nil_append] at hown_
     try rw [Nat.zero_add]
     have O6 := Lib.hid hown_
     clear hown_ hg_ hcl hlr
     refine hK _ _ ?_; clear hK K
     try simp only [Act.put, qsA, qsZ, qsS]
     refine oneY 11 rfl fun K hK => ?_
     have hcl := HTC.out _ (HR.out.below c1.out)
     have hlr := World.ownsRow.lt O6.out
     refine wp_append_own _ (.tmp 40) (.tmp 43) 34 rfl w.heap.size 3 i0 _ 1 8 Tryz.underlying34 HI.out HZ0.out HZ1.out HZ2.out rfl (by omega) (.slice Bv6 (q + 1) cv6) (q + 1) (((L.take q).map (Value.int .i64)) ++ [Value.int .i64 v]) rfl O6.out ⟨b, ot, none⟩ (n - q) (c - q) ((L.drop q).map (Value.int .i64)) rfl (by rw [List.length_map, List.length_drop, HLN.out]; omega) hcl (ints_one2 _) (by unfold maxLen; omega) (by omega) (Below.size c1.out) ?_
     intro v8 w_v8 hown_ hg_ _
     obtain ⟨Bv8, cv8, rfl, -⟩ := own_form hown_
     have j1 := Lib.hid (Below.grown c1.out hg_ (Below.size c1.out) (fun q e => (hlr q e).1))
     try simp only [Nat.zero_add, List.nil_append] at hown_
     try rw [Nat.zero_add]
     have O8 := Lib.hid hown_
     clear hown_ hg_ hcl hlr
     refine hK _ _ ?_; clear hK K
     try simp only [Act.put, qsA, qsZ, qsS]
     refine' twY 12 ?_
     try simp only [Act.put, qsA, qsZ, qsS]
     refine wpAny_done (by kernel_rfl) ?_ _
     go_wp2
     go_ret
     refine ⟨Bv8, _, cv8, ret_slice rfl, ?_, j1.out⟩
     have h := owns_base O8.out hbase
     rw [← List.map_singleton (f := Value.int .i64), ← List.map_append, ← List.map_append, List.append_assoc, List.singleton_append, ← HINS.out] at h
     exact h
    exact AllReady.nil
theorem with_any (hn1 : n = 0 → A = none) (hn : n ≤ 1000) :
 Calls Tryz.prog 99 #[.slice A n c, .int .i64 v] w fun e w' => ∃ B m d, e = .returned (.slice B m d) ∧ OwnI w' base B m d (insU v L) ∧ Below w.heap.size w w' := by
 by_cases h : n = 0
 · subst h
   obtain rfl := hn1 rfl
   have hr := (OwnI.rd ho).1
   obtain rfl : c = 0 := (hr.nil rfl).2
   obtain rfl : L = [] := List.length_eq_zero_iff.1 hr.len
   exact with_nil base v w hbase
 · exact with_some base A n c L v w hbase ho (by omega) hn
end
end Go.Proofs.YtjjmifcjailpaaaGreat
