/- reversed of gauge. -/
import Derived.Test.YthlnialipjihdaaRigid
import Derived.Test.YthlnialipjihdaaJoined
import Derived.Deep.DeepCutAuto
import Derived.Test.YthlnialipjihdaaWith
set_option linter.unusedSimpArgs false
set_option linter.unusedVariables false
namespace Go.Proofs.Ythlnialipjihdaa
open Go.RowKit

def revB (b : Bnd) : Bnd := ⟨b.t, b.f, b.m, b.b⟩
def revL (l : List Bnd) : List Bnd := l.map revB
def swapK (l : List Bnd) (k : Nat) : List Bnd := (l.take k).map revB ++ l.drop k
theorem swapK_length (l : List Bnd) (k : Nat) : (swapK l k).length = l.length := by simp [swapK]; omega
theorem swapK_zero (l : List Bnd) : swapK l 0 = l := by simp [swapK]
theorem swapK_all (l : List Bnd) : swapK l l.length = revL l := by simp [swapK, revL]
theorem swapK_at {l : List Bnd} {k : Nat} {b : Bnd} (h : l[k]? = some b) : (swapK l k)[k]? = some b := by
  have hk := (List.getElem?_eq_some_iff.1 h).1
  unfold swapK
  rw [List.getElem?_append_right (by simp; omega), List.getElem?_drop]
  rw [List.length_map, List.length_take, show k + (k - min k l.length) = k from by omega, h]
theorem swapK_set {l : List Bnd} {k : Nat} {b : Bnd} (h : l[k]? = some b) : (swapK l k).set k (revB b) = swapK l (k + 1) := by
  have hk := (List.getElem?_eq_some_iff.1 h).1
  have hd : l.drop k = b :: l.drop (k + 1) := by
    rw [List.drop_eq_getElem_cons hk]
    congr 1
    rw [List.getElem?_eq_getElem hk] at h
    injection h
  unfold swapK
  rw [hd, List.set_append_right _ _ (by simp; omega), List.length_map, List.length_take, show k - min k l.length = 0 from by omega, List.set_cons_zero, List.take_add_one, h]
  simp

theorem bcells_set {l : List Bnd} : ∀ {k : Nat} {f t m i f' t' : Int}, l[k]? = some ⟨f, t, m, i⟩ → ((bcells l).set (k * 4) (.int .i64 f')).set (k * 4 + 1) (.int .i64 t') = bcells (l.set k ⟨f', t', m, i⟩) := by
  induction l with
  | nil => intro k f t m i f' t' h; simp at h
  | cons b l ih =>
    intro k f t m i f' t' h
    cases k with
    | zero =>
      simp only [List.getElem?_cons_zero, Option.some.injEq] at h
      subst h
      simp [bcells, Bnd.cells]
    | succ k =>
      rw [List.getElem?_cons_succ] at h
      have := ih (f' := f') (t' := t') h
      unfold bcells at this ⊢
      rw [List.set_cons_succ, List.flatMap_cons, List.flatMap_cons, ← this]
      have e : b.cells.length = 4 := rfl
      rw [List.set_append_right _ _ (by rw [e]; omega), e, List.set_append_right _ _ (by rw [e]; omega), e, show (k + 1) * 4 - 4 = k * 4 from by omega, show (k + 1) * 4 + 1 - 4 = k * 4 + 1 from by omega]

/-- An owned list of bounds, as its block. -/
theorem own_block {w : World} {base : Nat} {g n : Nat} {l : List Bnd} (h : OwnB w base (some ⟨g, 0, none⟩) n n l) : Blk w g 54 (bcells l).toArray ∧ base ≤ g ∧ l.length = n := by
  obtain ⟨hlen, h⟩ := h
  rw [bcells_length] at hlen
  rcases h with ⟨h, _⟩ | ⟨g', cap, cur, hv, hb, hg, hle, hm, hsz, ht⟩
  · cases h
  · injection hv with h1 h2 h3
    injection h1 with h1
    injection h1 with h1
    subst h1 h3
    rw [List.take_of_length_le (by rw [Array.length_toList, hsz]; exact Nat.le_refl _)] at ht
    refine ⟨?_, hb, by omega⟩
    unfold Blk
    rw [hg, ← ht]
theorem block_own {w : World} {base : Nat} {g n : Nat} {l : List Bnd} (h : Blk w g 54 (bcells l).toArray) (hb : base ≤ g) (hl : l.length = n) (hm : n ≤ maxLen) : OwnB w base (some ⟨g, 0, none⟩) n n l := by
  subst hl
  refine ⟨by rw [bcells_length], .inr ⟨g, l.length, (bcells l).toArray, rfl, hb, h, Nat.le_refl _, hm, by simp [bcells_length], ?_⟩⟩
  rw [List.take_of_length_le (by rw [List.toList_toArray, bcells_length]; exact Nat.le_refl _)]

set_option maxRecDepth 100000 in
set_option maxHeartbeats 4000000 in
theorem reversed_any (p : Int) (A : Option Addr) (n c : Nat) (l : List Bnd) (w : World) (hr : RdB w A n c l) (hn : n ≤ 1000) :
    Calls Try.prog 117 #[.agg #[.int .i64 p, .slice A n c]] w fun e w' => ∃ g, e = .returned (.agg #[.int .i64 p, .slice (some ⟨g, 0, none⟩) n n]) ∧ OwnB w' w.heap.size (some ⟨g, 0, none⟩) n n (revL l) ∧ Below w.heap.size w w' := by
  have hB : Below w.heap.size w ((w.alloc (.cells #[.int .i64 p, .slice A n c] 70)).alloc (.cells #[.int .i64 0, .slice none 0 0] 70)) := ((Below.refl _ w).alloc (Nat.le_refl _) _).alloc (by simp) _
  have hj := joinedB_any A none n c 0 0 l [] _ (hr.below hB) (RdB.nil_ _) (by omega)
  have b0 := (Blk.new w 70 #[.int .i64 p, .slice A n c]).alloc (.cells #[.int .i64 0, .slice none 0 0] 70)
  have b1 := Blk.new (w.alloc (.cells #[.int .i64 p, .slice A n c] 70)) 70 #[.int .i64 0, .slice none 0 0]
  simp only [World.size_alloc] at b1
  rw [List.append_nil, Nat.add_zero] at hj
  have HJ := Lib.hid hj; have B0 := Lib.hid b0; have B1 := Lib.hid b1; have HLEN := Lib.hid hr.len; clear hj b0 b1 hr
  have k1 : ((w.alloc (.cells #[.int .i64 p, .slice A n c] 70)).alloc (.cells #[.int .i64 0, .slice none 0 0] 70)).cell? ⟨w.heap.size, 1, none⟩ = some (.slice A n c) := B0.out.cell 1
  go_enter Try.func117, Try.ntmps117
  go_wp2_with (go_at_call 60; refine HJ.out.mono ?_; rintro e w1 ⟨g, rfl, ho, hb1⟩; have HO := Lib.hid ho; clear ho)
  have hs1 := hb1.size
  simp only [World.size_alloc] at hs1
  obtain ⟨hg, hgb, -⟩ := own_block HO.out
  simp only [World.size_alloc] at hgb
  have G := Lib.hid hg; clear hg
  have C0 := Lib.hid (B0.out.keep hb1); have C1 := Lib.hid (B1.out.keep hb1)
  have hB1 := hB.trans (hb1.mono hB.size)
  go_loopw [11] (fun i wr => ∃ k : Nat, k ≤ n ∧ i = .int .i64 k ∧ Blk wr g 54 (bcells (swapK l k)).toArray ∧ Blk wr w.heap.size 70 #[.int .i64 p, .slice A n c] ∧ Blk wr (w.heap.size + 1) 70 #[.int .i64 0, .slice none 0 0] ∧ Below w.heap.size w wr) (fun i _ => n - (intOf i).toNat)
  case atStart => exact ⟨0, Nat.zero_le _, rfl, by rw [swapK_zero]; exact G.out, C0.out, C1.out, hB1⟩
  case round =>
    obtain ⟨k, hk, rfl, g2, d0, d1, hbr⟩ := hrel
    by_cases hlt : k < n
    · have hlt' : (k : Int) < n := by omega
      obtain ⟨⟨f, t, m, i⟩, hx⟩ : ∃ b, l[k]? = some b := ⟨l[k]'(by rw [HLEN.out]; exact hlt), List.getElem?_eq_getElem _⟩
      have hsw := swapK_at hx
      have hsn := swapK_set hx
      have hcell : ∀ j, j < 4 → wr.cell? ⟨g, k * 4 + j, none⟩ = (Bnd.cells ⟨f, t, m, i⟩)[j]? := fun j hj => by
        rw [g2.cell, List.getElem?_toArray, bcells_get _ k j _ hsw hj]
      have u0 : wr.cell? ⟨g, k * 4, none⟩ = some (.int .i64 f) := hcell 0 (by omega)
      have u1 : wr.cell? ⟨g, k * 4 + 1, none⟩ = some (.int .i64 t) := hcell 1 (by omega)
      have u2 : wr.cell? ⟨g, k * 4 + 2, none⟩ = some (.int .i64 m) := hcell 2 (by omega)
      have u3 : wr.cell? ⟨g, k * 4 + 3, none⟩ = some (.int .i64 i) := hcell 3 (by omega)
      have z0 : wr.frozen? ⟨g, k * 4, none⟩ = false := g2.frozen _
      have z1 : wr.frozen? ⟨g, k * 4 + 1, none⟩ = false := g2.frozen _
      have hgl := g2.lt
      have hset := bcells_set (f' := t) (t' := f) hsw
      rw [show (⟨t, f, m, i⟩ : Bnd) = revB ⟨f, t, m, i⟩ from rfl, hsn] at hset
      have HSET := Lib.hid hset; have G2 := Lib.hid g2; have D0 := Lib.hid d0; have D1 := Lib.hid d1; clear hset g2 d0 d1 hsw hsn hcell hx
      have hp0 : (bcells (swapK l k)).toArray[k * 4]? = some (.int .i64 f) := (G2.out.cell _).symm.trans u0
      have hp1 : ((bcells (swapK l k)).toArray.setIfInBounds (k * 4) (.int .i64 t))[k * 4 + 1]? = some (.int .i64 t) := by
        rw [Array.getElem?_setIfInBounds_ne (by omega)]
        exact (G2.out.cell _).symm.trans u1
      have U0 := Lib.hid hp0; have U1 := Lib.hid hp1; clear hp0 hp1
      go_wp2
      have hz := D1.out.lt
      have hne : wr.heap.size ≠ g := by omega
      have C2 := Lib.hid (Blk.new wr 54 #[.int .i64 f, .int .i64 t, .int .i64 m, .int .i64 i]).drew
      have BE := Lib.hid (hbr.alloc hbr.size (.cells #[.int .i64 f, .int .i64 t, .int .i64 m, .int .i64 i] 54)).drew
      have G2' := Lib.hid (G2.out.alloc (.cells #[.int .i64 f, .int .i64 t, .int .i64 m, .int .i64 i] 54)).drew
      have D0' := Lib.hid (D0.out.alloc (.cells #[.int .i64 f, .int .i64 t, .int .i64 m, .int .i64 i] 54)).drew
      have D1' := Lib.hid (D1.out.alloc (.cells #[.int .i64 f, .int .i64 t, .int .i64 m, .int .i64 i] 54)).drew
      clear G2 D0 D1
      have G2 := G2'; have D0 := D0'; have D1 := D1'; clear G2' D0' D1' u0 u1 u2 u3 z0 z1
      generalize wr.alloc (.cells #[.int .i64 f, .int .i64 t, .int .i64 m, .int .i64 i] 54) = W0 at *
      refine wp_region_held_drew (S := (fun W' => Blk W' wr.heap.size 54 #[.int .i64 f, .int .i64 t, .int .i64 m, .int .i64 i])) (by kernel_rfl) C2.out (fun _ => ?_)
      obtain ⟨w37, hw38⟩ : ∃ w', w' = W0.drew := ⟨_, rfl⟩
      rw [← hw38] at C2 G2 D0 D1 BE
      rw [← hw38]
      clear hw38
      refine' wpAnyH_take (i := 0) (oi := { dst := some 16, op := Go.Op.move (Go.Operand.tmp 3), type := 22, pos := "graph.go:73", after := #[], guard := none }) (v := _) rfl (by kernel_rfl) (by kernel_rfl) (by kernel_rfl) (fun _ _ _ h => h) (Or.inl ⟨by rfl, ?hyR39⟩) C2.out ?reR39
      case hyR39 => (rintro W' hS0; clear hS0; go_simp; try with_reducible rfl)
      try simp only [Act.put, List.setIfInBounds_toArray, List.set_cons_zero, List.set_cons_succ]
      refine' wpAnyH_take (i := 1) (oi := { dst := some 17, op := Go.Op.move (Go.Operand.tmp 4), type := 3, pos := "graph.go:73", after := #[], guard := none }) (v := _) rfl (by kernel_rfl) (by kernel_rfl) (by kernel_rfl) (fun _ _ _ h => h) (Or.inl ⟨by rfl, ?hyR40⟩) C2.out ?reR40
      case hyR40 => (rintro W' hS0; clear hS0; go_simp; try with_reducible rfl)
      try simp only [Act.put, List.setIfInBounds_toArray, List.set_cons_zero, List.set_cons_succ]
      refine' wpAnyH_take (i := 2) (oi := { dst := some 18, op := Go.Op.move (Go.Operand.tmp 3), type := 22, pos := "graph.go:73", after := #[{ on := 10, ground := Go.Ground.gcOnly Go.Departure.lateStores }], guard := none }) (v := _) rfl (by kernel_rfl) (by kernel_rfl) (by kernel_rfl) (fun _ _ _ h => h) (Or.inl ⟨by rfl, ?hyR41⟩) C2.out ?reR41
      case hyR41 => (rintro W' hS0; clear hS0; go_simp; try with_reducible rfl)
      try simp only [Act.put, List.setIfInBounds_toArray, List.set_cons_zero, List.set_cons_succ]
      refine' wpAnyH_take (i := 3) (oi := { dst := some 19, op := Go.Op.move (Go.Operand.tmp 4), type := 3, pos := "graph.go:73", after := #[{ on := 10, ground := Go.Ground.gcOnly Go.Departure.lateStores }], guard := none }) (v := _) rfl (by kernel_rfl) (by kernel_rfl) (by kernel_rfl) (fun _ _ _ h => h) (Or.inl ⟨by rfl, ?hyR42⟩) C2.out ?reR42
      case hyR42 => (rintro W' hS0; clear hS0; go_simp; try with_reducible rfl)
      try simp only [Act.put, List.setIfInBounds_toArray, List.set_cons_zero, List.set_cons_succ]
      refine' wpAnyH_take (i := 4) (oi := { dst := some 20, op := Go.Op.fieldAddr 54 (Go.Operand.tmp 5) 1, type := 0, pos := "graph.go:73", after := #[], guard := none }) (v := _) rfl (by kernel_rfl) (by kernel_rfl) (by kernel_rfl) (fun _ _ _ h => h) (Or.inl ⟨by rfl, ?hyR43⟩) C2.out ?reR43
      case hyR43 => (rintro W' hS0; clear hS0; go_simp; try with_reducible rfl)
      try simp only [Act.put, List.setIfInBounds_toArray, List.set_cons_zero, List.set_cons_succ]
      refine' wpAnyH_take (i := 5) (oi := { dst := some 21, op := Go.Op.load 3 (Go.Operand.tmp 20), type := 3, pos := "graph.go:73", after := #[{ on := 4, ground := Go.Ground.data }], guard := none }) (v := _) rfl (by kernel_rfl) (by kernel_rfl) (by kernel_rfl) (fun _ _ _ h => h) (Or.inl ⟨by rfl, ?hyR44⟩) C2.out ?reR44
      case hyR44 => (rintro W' hS0; have hc0 : W'.cell? ⟨wr.heap.size, 1, none⟩ = some (.int .i64 t) := Blk.cell hS0 1; clear hS0; go_simp; try with_reducible rfl)
      try simp only [Act.put, List.setIfInBounds_toArray, List.set_cons_zero, List.set_cons_succ]
      refine' wpAnyH_take (i := 6) (oi := { dst := some 22, op := Go.Op.fieldAddr 54 (Go.Operand.tmp 5) 0, type := 0, pos := "graph.go:73", after := #[{ on := 10, ground := Go.Ground.gcOnly Go.Departure.lateStores }], guard := none }) (v := _) rfl (by kernel_rfl) (by kernel_rfl) (by kernel_rfl) (fun _ _ _ h => h) (Or.inl ⟨by rfl, ?hyR45⟩) C2.out ?reR45
      case hyR45 => (rintro W' hS0; clear hS0; go_simp; try with_reducible rfl)
      try simp only [Act.put, List.setIfInBounds_toArray, List.set_cons_zero, List.set_cons_succ]
      refine' wpAnyH_take (i := 7) (oi := { dst := some 23, op := Go.Op.load 3 (Go.Operand.tmp 22), type := 3, pos := "graph.go:73", after := #[{ on := 6, ground := Go.Ground.data }, { on := 10, ground := Go.Ground.gcOnly Go.Departure.lateStores }], guard := none }) (v := _) rfl (by kernel_rfl) (by kernel_rfl) (by kernel_rfl) (fun _ _ _ h => h) (Or.inl ⟨by rfl, ?hyR46⟩) C2.out ?reR46
      case hyR46 => (rintro W' hS0; have hc0 : W'.cell? ⟨wr.heap.size, 0, none⟩ = some (.int .i64 f) := Blk.cell hS0 0; clear hS0; go_simp; try with_reducible rfl)
      try simp only [Act.put, List.setIfInBounds_toArray, List.set_cons_zero, List.set_cons_succ]
      refine' wpAnyH_take (i := 8) (oi := { dst := some 24, op := Go.Op.indexAddr 22 (Go.Operand.tmp 16) (Go.Operand.tmp 17), type := 0, pos := "graph.go:73", after := #[{ on := 0, ground := Go.Ground.data }, { on := 1, ground := Go.Ground.data }, { on := 0, ground := Go.Ground.phase }, { on := 1, ground := Go.Ground.phase }, { on := 2, ground := Go.Ground.textOnly Go.Departure.lateStores }, { on := 3, ground := Go.Ground.textOnly Go.Departure.lateStores }, { on := 4, ground := Go.Ground.phase }, { on := 5, ground := Go.Ground.phase }, { on := 6, ground := Go.Ground.textOnly Go.Departure.lateStores }, { on := 7, ground := Go.Ground.textOnly Go.Departure.lateStores }], guard := none }) (v := _) rfl (by kernel_rfl) (by kernel_rfl) (by kernel_rfl) (fun _ _ _ h => h) (Or.inl ⟨by rfl, ?hyR47⟩) C2.out ?reR47
      case hyR47 => (rintro W' hS0; clear hS0; go_simp; try with_reducible rfl)
      try simp only [Act.put, List.setIfInBounds_toArray, List.set_cons_zero, List.set_cons_succ]
      refine' wpAnyH_take (i := 9) (oi := { dst := some 25, op := Go.Op.fieldAddr 54 (Go.Operand.tmp 24) 0, type := 0, pos := "graph.go:73", after := #[{ on := 8, ground := Go.Ground.data }, { on := 0, ground := Go.Ground.phase }, { on := 1, ground := Go.Ground.phase }, { on := 2, ground := Go.Ground.textOnly Go.Departure.lateStores }, { on := 3, ground := Go.Ground.textOnly Go.Departure.lateStores }, { on := 4, ground := Go.Ground.phase }, { on := 5, ground := Go.Ground.phase }, { on := 6, ground := Go.Ground.textOnly Go.Departure.lateStores }, { on := 7, ground := Go.Ground.textOnly Go.Departure.lateStores }], guard := none }) (v := _) rfl (by kernel_rfl) (by kernel_rfl) (by kernel_rfl) (fun _ _ _ h => h) (Or.inl ⟨by rfl, ?hyR48⟩) C2.out ?reR48
      case hyR48 => (rintro W' hS0; clear hS0; go_simp; try with_reducible rfl)
      try simp only [Act.put, List.setIfInBounds_toArray, List.set_cons_zero, List.set_cons_succ]
      refine wpAnyH_ready (rs := [10]) (by kernel_rfl) (by simp) ?_
      refine AllReadyH.cons (o := { dst := none, op := Go.Op.store 3 (Go.Operand.tmp 25) (Go.Operand.tmp 21), type := 0, pos := "graph.go:73", after := #[{ on := 9, ground := Go.Ground.data }, { on := 5, ground := Go.Ground.data }, { on := 0, ground := Go.Ground.phase }, { on := 1, ground := Go.Ground.phase }, { on := 2, ground := Go.Ground.textOnly Go.Departure.lateStores }, { on := 3, ground := Go.Ground.textOnly Go.Departure.lateStores }, { on := 4, ground := Go.Ground.phase }, { on := 5, ground := Go.Ground.phase }, { on := 6, ground := Go.Ground.textOnly Go.Departure.lateStores }, { on := 7, ground := Go.Ground.textOnly Go.Departure.lateStores }], guard := none }) rfl (fun K hK => ?_) ?_
      · -- 10: store
        have v0 : w37.cell? ⟨g, k * 4, none⟩ = some (.int .i64 f) := (Blk.cell G2.out _).trans U0.out
        have f0 : w37.frozen? ⟨g, k * 4, none⟩ = false := Blk.frozen G2.out _
        go_simp
        have k49 := Lib.hid (Blk.far (C2.out) (p := ⟨g, k * 4, none⟩) (by simp; omega) (.int .i64 t))
        have k50 := Lib.hid (Blk.far (D0.out) (p := ⟨g, k * 4, none⟩) (by simp; omega) (.int .i64 t))
        have k51 := Lib.hid (Blk.far (D1.out) (p := ⟨g, k * 4, none⟩) (by simp; omega) (.int .i64 t))
        have k52 := Lib.hid (Blk.set_ (G2.out) (k * 4) (.int .i64 t))
        have k53 := Lib.hid (Below.setCell (BE.out) (p := ⟨g, k * 4, none⟩) (by simp; omega) (.int .i64 t))
        obtain ⟨w54, hw55⟩ : ∃ w', w' = (w37.setCell ⟨g, k * 4, none⟩ (.int .i64 t)) := ⟨_, rfl⟩
        rw [← hw55] at k49 k52 k50 k51 k53
        rw [← hw55]
        clear hw55 v0 f0
        refine hK.out _ _ k49.out (fun _ => ?_); clear hK K
        try simp only [Act.put, List.setIfInBounds_toArray, List.set_cons_zero, List.set_cons_succ]
        refine' wpAnyH_take (i := 11) (oi := { dst := some 26, op := Go.Op.indexAddr 22 (Go.Operand.tmp 18) (Go.Operand.tmp 19), type := 0, pos := "graph.go:73", after := #[{ on := 2, ground := Go.Ground.data }, { on := 3, ground := Go.Ground.data }, { on := 0, ground := Go.Ground.phase }, { on := 1, ground := Go.Ground.phase }, { on := 2, ground := Go.Ground.phase }, { on := 3, ground := Go.Ground.phase }, { on := 4, ground := Go.Ground.phase }, { on := 5, ground := Go.Ground.phase }, { on := 6, ground := Go.Ground.phase }, { on := 7, ground := Go.Ground.phase }, { on := 8, ground := Go.Ground.phase }, { on := 9, ground := Go.Ground.phase }, { on := 10, ground := Go.Ground.phase }], guard := none }) (v := _) rfl (by kernel_rfl) (by kernel_rfl) (by kernel_rfl) (fun _ _ _ h => h) (Or.inl ⟨by rfl, ?hyR56⟩) k49.out ?reR56
        case hyR56 => (rintro W' hS0; clear hS0; go_simp; try with_reducible rfl)
        try simp only [Act.put, List.setIfInBounds_toArray, List.set_cons_zero, List.set_cons_succ]
        refine' wpAnyH_take (i := 12) (oi := { dst := some 27, op := Go.Op.fieldAddr 54 (Go.Operand.tmp 26) 1, type := 0, pos := "graph.go:73", after := #[{ on := 11, ground := Go.Ground.data }, { on := 0, ground := Go.Ground.phase }, { on := 1, ground := Go.Ground.phase }, { on := 2, ground := Go.Ground.phase }, { on := 3, ground := Go.Ground.phase }, { on := 4, ground := Go.Ground.phase }, { on := 5, ground := Go.Ground.phase }, { on := 6, ground := Go.Ground.phase }, { on := 7, ground := Go.Ground.phase }, { on := 8, ground := Go.Ground.phase }, { on := 9, ground := Go.Ground.phase }, { on := 10, ground := Go.Ground.phase }], guard := none }) (v := _) rfl (by kernel_rfl) (by kernel_rfl) (by kernel_rfl) (fun _ _ _ h => h) (Or.inl ⟨by rfl, ?hyR57⟩) k49.out ?reR57
        case hyR57 => (rintro W' hS0; clear hS0; go_simp; try with_reducible rfl)
        try simp only [Act.put, List.setIfInBounds_toArray, List.set_cons_zero, List.set_cons_succ]
        refine wpAnyH_ready (rs := [13]) (by kernel_rfl) (by simp) ?_
        refine AllReadyH.cons (o := { dst := none, op := Go.Op.store 3 (Go.Operand.tmp 27) (Go.Operand.tmp 23), type := 0, pos := "graph.go:73", after := #[{ on := 12, ground := Go.Ground.data }, { on := 7, ground := Go.Ground.data }, { on := 10, ground := Go.Ground.chain }, { on := 0, ground := Go.Ground.phase }, { on := 1, ground := Go.Ground.phase }, { on := 2, ground := Go.Ground.phase }, { on := 3, ground := Go.Ground.phase }, { on := 4, ground := Go.Ground.phase }, { on := 5, ground := Go.Ground.phase }, { on := 6, ground := Go.Ground.phase }, { on := 7, ground := Go.Ground.phase }, { on := 8, ground := Go.Ground.phase }, { on := 9, ground := Go.Ground.phase }, { on := 10, ground := Go.Ground.phase }], guard := none }) rfl (fun K hK => ?_) ?_
        · -- 13: store
          have v0 : w54.cell? ⟨g, k * 4 + 1, none⟩ = some (.int .i64 t) := (Blk.cell k52.out _).trans U1.out
          have f0 : w54.frozen? ⟨g, k * 4 + 1, none⟩ = false := Blk.frozen k52.out _
          go_simp
          have k58 := Lib.hid (Blk.far (k49.out) (p := ⟨g, k * 4 + 1, none⟩) (by simp; omega) (.int .i64 f))
          have k59 := Lib.hid (Blk.far (k50.out) (p := ⟨g, k * 4 + 1, none⟩) (by simp; omega) (.int .i64 f))
          have k60 := Lib.hid (Blk.far (k51.out) (p := ⟨g, k * 4 + 1, none⟩) (by simp; omega) (.int .i64 f))
          have k61 := Lib.hid (Blk.set_ (k52.out) (k * 4 + 1) (.int .i64 f))
          have k62 := Lib.hid (Below.setCell (k53.out) (p := ⟨g, k * 4 + 1, none⟩) (by simp; omega) (.int .i64 f))
          obtain ⟨w63, hw64⟩ : ∃ w', w' = (w54.setCell ⟨g, k * 4 + 1, none⟩ (.int .i64 f)) := ⟨_, rfl⟩
          rw [← hw64] at k58 k61 k59 k60 k62
          rw [← hw64]
          clear hw64 v0 f0
          refine hK.out _ _ k58.out (fun _ => ?_); clear hK K
          try simp only [Act.put, List.setIfInBounds_toArray, List.set_cons_zero, List.set_cons_succ]
          refine wpAnyH_done (by kernel_rfl) ?_ _
          have hfin := k61.out
          rw [List.setIfInBounds_toArray, List.setIfInBounds_toArray, HSET.out] at hfin
          go_wp2
          go_roundw
          case rel => exact ⟨k + 1, by omega, by go_num, hfin, k59.out, k60.out, k62.out⟩
          case measure => (simp [intOf]; omega)
        exact AllReadyH.nil
      exact AllReadyH.nil
    · obtain rfl : k = n := by omega
      have g3 := g2
      rw [show k = l.length from HLEN.out.symm, swapK_all] at g3
      have G3 := Lib.hid g3; have D0 := Lib.hid d0; have D1 := Lib.hid d1; clear g2 g3 d0 d1
      have y0 : wr.cell? ⟨w.heap.size, 0, none⟩ = some (.int .i64 p) := D0.out.cell 0
      have v0 : wr.cell? ⟨w.heap.size + 1, 0, none⟩ = some (.int .i64 0) := D1.out.cell 0
      have v1 : wr.cell? ⟨w.heap.size + 1, 1, none⟩ = some (.slice none 0 0) := D1.out.cell 1
      have f0 : wr.frozen? ⟨w.heap.size + 1, 0, none⟩ = false := D1.out.frozen 0
      have f1 : wr.frozen? ⟨w.heap.size + 1, 1, none⟩ = false := D1.out.frozen 1
      have hlr : (revL l).length = k := by rw [← HLEN.out]; simp [revL]
      go_wp2
      refine bodyPost_ret (v := .agg #[.int .i64 p, .slice (some ⟨g, 0, none⟩) k k]) (by simp [results, Try.results117, go_sem, v0, v1]) rfl ?_
      refine ⟨g, rfl, block_own (((G3.out.far (p := ⟨w.heap.size + 1, 0, none⟩) (by simp; omega) _)).far (p := ⟨w.heap.size + 1, 1, none⟩) (by simp; omega) _) (by omega) hlr (by unfold maxLen; omega), (hbr.setCell (p := ⟨w.heap.size + 1, 0, none⟩) (by simp) _).setCell (p := ⟨w.heap.size + 1, 1, none⟩) (by simp) _⟩
end Go.Proofs.Ythlnialipjihdaa

/- ends of gauge: both ends, in a pair of arrays. -/
namespace Go.Proofs.Ythlnialipjihdaa
open Go.RowKit

def pair (x y : List Int) : List (List Int) := [x, y]
theorem pair_sixty {x y : List Int} (hx : x.length = 60) (hy : y.length = 60) : Sixty (pair x y) := fun r hr => by
  rcases List.mem_cons.1 hr with h | h
  · rw [h]; exact hx
  · rw [List.mem_singleton.1 h]; exact hy
theorem pair_length {x y : List Int} (hx : x.length = 60) (hy : y.length = 60) : (flat (pair x y)).length = 120 := by rw [flat_length (pair_sixty hx hy)]; rfl
theorem zero_pair : (∀ w, (zeroValue 103).run Try.prog w = .ok (.agg (arr (flat (pair zeros zeros)))) w) ∧ (Try.prog.info? 103).map (·.size) = some 120 :=
  zero_of_info (by kernel_rfl)
theorem size_pair {x y : List Int} (hx : x.length = 60) (hy : y.length = 60) : (Try.prog.info? 103).map (·.size) = some (arr (flat (pair x y))).size := by rw [zero_pair.2, arr_size, pair_length hx hy]

/-- A pair of arrays is made. -/
theorem exec_pair {o : Oper} {a : Act} {W : World} (u v : Operand) (ho : o.op = .build 103 #[(0, u), (1, v)]) {x y : List Int} (hu : a.eval u = .agg (arr x)) (hv : a.eval v = .agg (arr y)) (hx : x.length = 60) (hy : y.length = 60) :
    (execOp a.eval o).run Try.prog W = .ok (.value (.agg (arr (flat (pair x y))))) W := by
  obtain ⟨ie, hq, hz, hs, -⟩ := info_parts infoS
  have hsz : (sizeOf 79).run Try.prog W = .ok 60 W := by simp [sizeOf, typeInfo, hq, hs]
  have hf := Great.fill_whole (s := 60) (by decide) [.agg (arr x), .agg (arr y)] (arr (flat (pair zeros zeros))) (by simp [Value.cells, arr_size, hx, hy]) (by rw [arr_size, pair_length rfl rfl]; rfl)
  have he : ([Value.agg (arr x), Value.agg (arr y)].flatMap fun v => v.cells.toList).toArray = arr (flat (pair x y)) := by simp [Value.cells, arr, flat, pair]
  rw [he] at hf
  unfold execOp
  simp only [ho, List.map_toArray, List.map_cons, List.map_nil, hu, hv, Instr.build, Sem.run_bind, zero_pair.1 W, Result.andThen_ok, run_underlying (Try.underlying103) W, hsz]
  have hf2 : Instr.fill (fun i => some (i * 60, 60)) (Value.agg (arr (flat (pair zeros zeros)))).cells [(0, Value.agg (arr x)), (1, Value.agg (arr y))] = some (arr (flat (pair x y))) := hf
  simp only [hf2, Sem.run_pure, Result.andThen_ok]

theorem okB_rev {l : List Bnd} (h : OkB l) : OkB (revL l) := fun b hb => by
  unfold revL at hb
  obtain ⟨c, hc, rfl⟩ := List.mem_map.1 hb
  obtain ⟨h1, h2, h3, h4, h5, h6⟩ := h c hc
  exact ⟨h3, h4, h1, h2, h5, h6⟩

def endsL (l : List Bnd) (p a : Nat) : List (List Int) := pair (setL l p (startL a)) (setL (revL l) p (startL a))
set_option maxRecDepth 100000 in
set_option maxHeartbeats 4000000 in
theorem ends_any (p a : Nat) (A : Option Addr) (n c : Nat) (l : List Bnd) (hp : p ≤ 60) (ha : a < 60) (hn400 : n ≤ 402) (hok : OkB l) (w : World) (hr : RdB w A n c l) :
    Calls Try.prog 94 #[.agg #[.int .i64 (p : Int), .slice A n c], .int .i64 (a : Int)] w fun e w' => e = .returned (.agg (arr (flat (endsL l p a)))) ∧ Below w.heap.size w w' := by
  have hB : Below w.heap.size w ((w.alloc (.cells #[.int .i64 (p : Int), .slice A n c] 70)).alloc (.cells (arr (flat (pair zeros zeros))) 103)) := ((Below.refl _ w).alloc (Nat.le_refl _) _).alloc (by simp) _
  have b0 := (Blk.new w 70 #[.int .i64 (p : Int), .slice A n c]).alloc (.cells (arr (flat (pair zeros zeros))) 103)
  have b1 := Blk.new (w.alloc (.cells #[.int .i64 (p : Int), .slice A n c] 70)) 103 (arr (flat (pair zeros zeros)))
  simp only [World.size_alloc] at b1
  have hf1 := fun w' hw' => from_any p a A n c l hp ha hn400 hok w' hw'
  have hf2 := fun B w' hw' => from_any p a (some ⟨B, 0, none⟩) n n (revL l) hp ha hn400 (okB_rev hok) w' hw'
  have hx := setL_length (l := l) (p := p) (startL_length a)
  have hy := setL_length (l := revL l) (p := p) (startL_length a)
  unfold endsL
  generalize setL l p (startL a) = x at *
  generalize setL (revL l) p (startL a) = y at *
  have RD1 := Lib.hid (hr.below hB).drew; have C0 := Lib.hid b0.drew; have C1 := Lib.hid b1.drew; have HBE := Lib.hid hB.drew; have HF1 := Lib.hid hf1; have HF2 := Lib.hid hf2; have HX := Lib.hid hx; have HY := Lib.hid hy
  clear hr b0 b1 hB hf1 hf2 hx hy hok
  have hlt := C1.out.lt
  go_enter Try.func94, Try.ntmps94
  go_wp2_with (first | (refine wpList_alloc_row rfl 103 rfl (arr (flat (pair zeros zeros))) zero_pair.1 ?_; simp only [World.size_alloc]))
  generalize (w.alloc (.cells #[.int .i64 (p : Int), .slice A n c] 70)).alloc (.cells (arr (flat (pair zeros zeros))) 103) = W0 at *
  refine wp_region_held_drew (S := (fun W' => Blk W' w.heap.size 70 #[.int .i64 (p : Int), .slice A n c])) (by kernel_rfl) C0.out (fun _ => ?_)
  obtain ⟨w65, hw66⟩ : ∃ w', w' = W0.drew := ⟨_, rfl⟩
  rw [← hw66] at C0 C1 HBE RD1
  rw [← hw66]
  clear hw66
  refine' wpAnyH_take (i := 0) (oi := { dst := some 5, op := Go.Op.load 70 (Go.Operand.tmp 2), type := 70, pos := "graph.go:134", after := #[], guard := none }) (v := _) rfl (by kernel_rfl) (by kernel_rfl) (by kernel_rfl) (fun _ _ _ h => h) (Or.inl ⟨by rfl, ?hyR67⟩) C0.out ?reR67
  case hyR67 => (rintro W' hS0; have hc0 : W'.cell? ⟨w.heap.size, 0, none⟩ = some (.int .i64 (p : Int)) := Blk.cell hS0 0; have hc1 : W'.cell? ⟨w.heap.size, 1, none⟩ = some (.slice A n c) := Blk.cell hS0 1; clear hS0; go_simp; try with_reducible rfl)
  try simp only [Act.put, List.setIfInBounds_toArray, List.set_cons_zero, List.set_cons_succ]
  refine' wpAnyH_take (i := 1) (oi := { dst := some 6, op := Go.Op.move (Go.Operand.tmp 1), type := 3, pos := "graph.go:134", after := #[], guard := none }) (v := _) rfl (by kernel_rfl) (by kernel_rfl) (by kernel_rfl) (fun _ _ _ h => h) (Or.inl ⟨by rfl, ?hyR68⟩) C0.out ?reR68
  case hyR68 => (rintro W' hS0; clear hS0; go_simp; try with_reducible rfl)
  try simp only [Act.put, List.setIfInBounds_toArray, List.set_cons_zero, List.set_cons_succ]
  refine' wpAnyH_take (i := 3) (oi := { dst := some 8, op := Go.Op.load 70 (Go.Operand.tmp 2), type := 70, pos := "graph.go:134", after := #[], guard := none }) (v := _) rfl (by kernel_rfl) (by kernel_rfl) (by kernel_rfl) (fun _ _ _ h => h) (Or.inl ⟨by rfl, ?hyR69⟩) C0.out ?reR69
  case hyR69 => (rintro W' hS0; have hc0 : W'.cell? ⟨w.heap.size, 0, none⟩ = some (.int .i64 (p : Int)) := Blk.cell hS0 0; have hc1 : W'.cell? ⟨w.heap.size, 1, none⟩ = some (.slice A n c) := Blk.cell hS0 1; clear hS0; go_simp; try with_reducible rfl)
  try simp only [Act.put, List.setIfInBounds_toArray, List.set_cons_zero, List.set_cons_succ]
  refine' wpAnyH_take (i := 5) (oi := { dst := some 10, op := Go.Op.move (Go.Operand.tmp 1), type := 3, pos := "graph.go:134", after := #[], guard := none }) (v := _) rfl (by kernel_rfl) (by kernel_rfl) (by kernel_rfl) (fun _ _ _ h => h) (Or.inl ⟨by rfl, ?hyR70⟩) C0.out ?reR70
  case hyR70 => (rintro W' hS0; clear hS0; go_simp; try with_reducible rfl)
  try simp only [Act.put, List.setIfInBounds_toArray, List.set_cons_zero, List.set_cons_succ]
  refine wpAnyH_ready (rs := [2]) (by kernel_rfl) (by simp) ?_
  refine AllReadyH.cons (o := { dst := some 7, op := Go.Op.call { callee := Go.Callee.value (Go.Operand.func 81), args := #[Go.Operand.tmp 5, Go.Operand.tmp 6], argTypes := #[70, 3] }, type := 79, pos := "graph.go:134", after := #[{ on := 0, ground := Go.Ground.data }, { on := 1, ground := Go.Ground.data }], guard := none }) rfl (fun K hK => ?_) ?_
  · -- 2: call
    go_simp
    go_at_call 81
    refine (HF1.out _ RD1.out).mono ?_
    rintro e w71 ⟨rfl, hb72⟩
    dsimp only
    have b0_73 := Lib.hid (Blk.keep (C0.out) hb72)
    have b1_74 := Lib.hid (Blk.keep (C1.out) hb72)
    have bel_75 := Lib.hid (Below.trans (HBE.out) (Below.mono hb72 ((HBE.out).size)))
    have rd_76 := Lib.hid (RdB.below (RD1.out) hb72)
    refine hK.out _ _ b0_73.out (fun _ => ?_); clear hK K
    try simp only [Act.put, List.setIfInBounds_toArray, List.set_cons_zero, List.set_cons_succ]
    refine wpAnyH_ready (rs := [4]) (by kernel_rfl) (by simp) ?_
    refine AllReadyH.cons (o := { dst := some 9, op := Go.Op.call { callee := Go.Callee.value (Go.Operand.func 117), args := #[Go.Operand.tmp 8], argTypes := #[70] }, type := 70, pos := "graph.go:134", after := #[{ on := 3, ground := Go.Ground.data }, { on := 2, ground := Go.Ground.chain }], guard := none }) rfl (fun K hK => ?_) ?_
    · -- 4: call
      go_simp
      go_at_call 117
      refine (reversed_any (p : Int) A n c l _ rd_76.out (by omega)).mono ?_
      rintro e w77 ⟨g4, rfl, ho4, hb78⟩
      dsimp only
      have rd4 := (OwnB.rd ho4).1
      have RD4 := Lib.hid rd4; clear ho4 rd4
      have b0_79 := Lib.hid (Blk.keep (b0_73.out) hb78)
      have b1_80 := Lib.hid (Blk.keep (b1_74.out) hb78)
      have bel_81 := Lib.hid (Below.trans (bel_75.out) (Below.mono hb78 ((bel_75.out).size)))
      have rd_82 := Lib.hid (RdB.below (rd_76.out) hb78)
      refine hK.out _ _ b0_79.out (fun _ => ?_); clear hK K
      try simp only [Act.put, List.setIfInBounds_toArray, List.set_cons_zero, List.set_cons_succ]
      refine wpAnyH_ready (rs := [6]) (by kernel_rfl) (by simp) ?_
      refine AllReadyH.cons (o := { dst := some 11, op := Go.Op.call { callee := Go.Callee.value (Go.Operand.func 81), args := #[Go.Operand.tmp 9, Go.Operand.tmp 10], argTypes := #[70, 3] }, type := 79, pos := "graph.go:134", after := #[{ on := 4, ground := Go.Ground.data }, { on := 5, ground := Go.Ground.data }, { on := 4, ground := Go.Ground.chain }], guard := none }) rfl (fun K hK => ?_) ?_
      · -- 6: call
        go_simp
        go_at_call 81
        refine (HF2.out _ _ RD4.out).mono ?_
        rintro e w83 ⟨rfl, hb84⟩
        dsimp only
        have b0_85 := Lib.hid (Blk.keep (b0_79.out) hb84)
        have b1_86 := Lib.hid (Blk.keep (b1_80.out) hb84)
        have bel_87 := Lib.hid (Below.trans (bel_81.out) (Below.mono hb84 ((bel_81.out).size)))
        have rd_88 := Lib.hid (RdB.below (rd_82.out) hb84)
        have rr_89 := Lib.hid (RdB.below (RD4.out) hb84)
        refine hK.out _ _ b0_85.out (fun _ => ?_); clear hK K
        try simp only [Act.put, List.setIfInBounds_toArray, List.set_cons_zero, List.set_cons_succ]
        refine' wpAnyH_take (i := 7) (oi := { dst := some 12, op := Go.Op.build 103 #[(0, Go.Operand.tmp 7), (1, Go.Operand.tmp 11)], type := 103, pos := "graph.go:134", after := #[{ on := 2, ground := Go.Ground.data }, { on := 6, ground := Go.Ground.data }], guard := none }) (v := _) rfl (by kernel_rfl) (by kernel_rfl) (by kernel_rfl) (fun _ _ _ h => h) (Or.inl ⟨by rfl, ?hyR90⟩) b0_85.out ?reR90
        case hyR90 => (rintro W' hS0; refine exec_pair (.tmp 7) (.tmp 11) ?_ ?_ ?_ HX.out HY.out; exact rfl; exact rfl; exact rfl)
        try simp only [Act.put, List.setIfInBounds_toArray, List.set_cons_zero, List.set_cons_succ]
        refine wpAnyH_ready (rs := [8]) (by kernel_rfl) (by simp) ?_
        refine AllReadyH.cons (o := { dst := none, op := Go.Op.store 103 (Go.Operand.tmp 4) (Go.Operand.tmp 12), type := 0, pos := "graph.go:134", after := #[{ on := 7, ground := Go.Ground.data }, { on := 6, ground := Go.Ground.chain }, { on := 0, ground := Go.Ground.phase }, { on := 1, ground := Go.Ground.phase }, { on := 2, ground := Go.Ground.phase }, { on := 3, ground := Go.Ground.phase }, { on := 4, ground := Go.Ground.phase }, { on := 5, ground := Go.Ground.phase }, { on := 6, ground := Go.Ground.phase }, { on := 7, ground := Go.Ground.phase }], guard := none }) rfl (fun K hK => ?_) ?_
        · -- 8: store
          rw [if_pos (by rfl)]
          refine wp_store_row 103 (.tmp 4) (.tmp 12) rfl (w.heap.size + 1) (arr (flat (pair x y))) rfl rfl 103 (arr (flat (pair zeros zeros))) b1_86.out (size_pair HX.out HY.out) (by rw [arr_size, arr_size, pair_length rfl rfl, pair_length HX.out HY.out]) (arr_one _) ?_
          have k91 := Lib.hid (Blk.rowFar (b0_85.out) (g' := w.heap.size + 1) (by omega) (arr (flat (pair x y))))
          refine hK.out _ _ k91.out (fun _ => ?_); clear hK K
          try simp only [Act.put, List.setIfInBounds_toArray, List.set_cons_zero, List.set_cons_succ]
          refine wpAnyH_done (by kernel_rfl) ?_ _
          go_wp2
          refine bodyPost_ret (results_cell_row rfl _ _ (w.heap.size + 1) 103 (arr (flat (pair x y))) (0, 0) _ rfl (Blk.row (b1_86.out) (arr (flat (pair x y)))) Try.underlying103 rfl (size_pair HX.out HY.out)) rfl ?_
          exact ⟨rfl, below_setRow (bel_87.out) (by omega) _⟩
        exact AllReadyH.nil
      exact AllReadyH.nil
    exact AllReadyH.nil
  exact AllReadyH.nil
end Go.Proofs.Ythlnialipjihdaa

/- Two pairs of arrays, compared. -/
namespace Go.Proofs.Ythlnialipjihdaa
open Go.RowKit

theorem arr_pair (a b : List Int) : arr (flat (pair a b)) = (a.map (Value.int .i64) ++ b.map (Value.int .i64)).toArray := by
  unfold arr flat pair
  rw [List.flatten_cons, List.flatten_cons, List.flatten_nil, List.append_nil, List.map_append]
theorem ext_left {α : Type} (u v : List α) : ((u ++ v).toArray).extract 0 u.length = u.toArray := by
  rw [List.extract_toArray, List.extract_eq_take_drop, List.drop_zero, Nat.sub_zero, List.take_left]
theorem ext_right {α : Type} (u v : List α) : ((u ++ v).toArray).extract u.length (u.length + v.length) = v.toArray := by
  rw [List.extract_toArray, List.extract_eq_take_drop, List.drop_left, Nat.add_sub_cancel_left, List.take_length]
theorem ext_zero {a b : List Int} {n : Nat} (ha : a.length = n) : (arr (flat (pair a b))).extract 0 n = arr a := by
  have h := ext_left (a.map (Value.int .i64)) (b.map (Value.int .i64))
  rw [List.length_map, ha] at h
  rw [arr_pair, h]
  rfl
theorem ext_one {a b : List Int} {n m : Nat} (ha : a.length = n) (hb : n + b.length = m) : (arr (flat (pair a b))).extract n m = arr b := by
  have h := ext_right (a.map (Value.int .i64)) (b.map (Value.int .i64))
  rw [List.length_map, List.length_map, ha, hb] at h
  rw [arr_pair, h]
  rfl

theorem agg_sums (w : World) : (isAgg 79).run Try.prog w = .ok true w := by
  unfold isAgg
  rw [Sem.run_bind, run_underlying Try.underlying79 w]
  rfl
theorem sizeOf_sums (w : World) : (sizeOf 79).run Try.prog w = .ok 60 w := by
  obtain ⟨ie, hq, hz, hs, -⟩ := info_parts infoS
  simp [sizeOf, typeInfo, hq, hs]
theorem part_zero {a b : List Int} (ha : a.length = 60) (w : World) : (part 79 (arr (flat (pair a b))) 0).run Try.prog w = .ok (.agg (arr a)) w := by
  unfold part
  rw [Sem.run_bind, agg_sums w, Result.andThen_ok, if_pos rfl, Sem.run_bind, sizeOf_sums w, Result.andThen_ok, Sem.run_pure, Nat.zero_add, ext_zero ha]
theorem part_one {a b : List Int} (ha : a.length = 60) (hb : b.length = 60) (w : World) : (part 79 (arr (flat (pair a b))) 60).run Try.prog w = .ok (.agg (arr b)) w := by
  unfold part
  rw [Sem.run_bind, agg_sums w, Result.andThen_ok, if_pos rfl, Sem.run_bind, sizeOf_sums w, Result.andThen_ok, Sem.run_pure, ext_one ha (by rw [hb])]

set_option maxHeartbeats 400000 in
/-- A law on arrays of two. -/
theorem run_equal_two {P : Program} (d : Nat) (t e : TypeId) (sz : Nat) (w : World) (ht : P.underlying t = some (.array 2 e)) (hsz : (sizeOf e).run P w = .ok sz w) {P1 P2 : Array Value} {X1 X2 Y1 Y2 : Value} {b1 b2 : Bool}
    (h1 : (part e P1 0).run P w = .ok X1 w) (h2 : (part e P2 0).run P w = .ok X2 w) (h3 : (part e P1 sz).run P w = .ok Y1 w) (h4 : (part e P2 sz).run P w = .ok Y2 w)
    (h5 : (Op.equalIn d e X1 X2).run P w = .ok b1 w) (h6 : (Op.equalIn d e Y1 Y2).run P w = .ok b2 w) : (Op.equalIn (d + 1) t (.agg P1) (.agg P2)).run P w = .ok (b1 && b2) w := by
  rw [Op.equalIn]
  simp only [Sem.run_bind, run_underlying ht, Result.andThen_ok, hsz, Std.Legacy.Range.forIn_eq_forIn_range', Std.Legacy.Range.size, Nat.sub_zero, Nat.add_sub_cancel, Nat.div_one]
  rw [show List.range' 0 2 = [0, 1] from rfl]
  simp only [List.forIn_cons, List.forIn_nil, Sem.run_bind, Nat.zero_mul, Nat.one_mul, h1, h2, h3, h4, h5, h6, Result.andThen_ok]
  cases b1 <;> cases b2 <;> simp [Result.andThen, h3, h4, h6]

/-- A law on two pairs of arrays. -/
theorem run_equal_pair (d : Nat) {x y x' y' : List Int} (hx : x.length = 60) (hy : y.length = 60) (hx' : x'.length = 60) (hy' : y'.length = 60) (w : World) :
    (Op.equalIn (d + 3) 103 (.agg (arr (flat (pair x y)))) (.agg (arr (flat (pair x' y'))))).run Try.prog w = .ok (decide (x = x') && decide (y = y')) w :=
  run_equal_two (d + 2) 103 79 60 w Try.underlying103 (sizeOf_sums w) (part_zero hx w) (part_zero hx' w) (part_one hx hy w) (part_one hx' hy' w)
    (run_equal_arr d 79 3 60 Try.underlying79 Try.underlying3 (fun w => by kernel_rfl) x x' hx hx' w)
    (run_equal_arr d 79 3 60 Try.underlying79 Try.underlying3 (fun w => by kernel_rfl) y y' hy hy' w)
theorem eql_pair {x y x' y' : List Int} (hx : x.length = 60) (hy : y.length = 60) (hx' : x'.length = 60) (hy' : y'.length = 60) (w : World) :
    (Op.equalIn 10000 103 (.agg (arr (flat (pair x y)))) (.agg (arr (flat (pair x' y'))))).run Try.prog w = .ok (decide (x = x') && decide (y = y')) w :=
  run_equal_pair 9997 hx hy hx' hy' w
theorem eql_pair_yes {x y x' y' : List Int} (hx : x.length = 60) (hy : y.length = 60) (hx' : x'.length = 60) (hy' : y'.length = 60) (h : x = x' ∧ y = y') (w : World) :
    (Op.equalIn 10000 103 (.agg (arr (flat (pair x y)))) (.agg (arr (flat (pair x' y'))))).run Try.prog w = .ok true w := by
  have h1 := eql_pair hx hy hx' hy' w
  rw [decide_eq_true h.1, decide_eq_true h.2] at h1
  exact h1
theorem eql_pair_no {x y x' y' : List Int} (hx : x.length = 60) (hy : y.length = 60) (hx' : x'.length = 60) (hy' : y'.length = 60) (h : ¬ (x = x' ∧ y = y')) (w : World) :
    (Op.equalIn 10000 103 (.agg (arr (flat (pair x y)))) (.agg (arr (flat (pair x' y'))))).run Try.prog w = .ok false w := by
  have h1 := eql_pair hx hy hx' hy' w
  have h2 : (decide (x = x') && decide (y = y')) = false := by
    by_cases h1 : x = x'
    · rw [decide_eq_false (p := y = y') (fun h2 => h ⟨h1, h2⟩), Bool.and_false]
    · rw [decide_eq_false h1, Bool.false_and]
  rw [h2] at h1
  exact h1
end Go.Proofs.Ythlnialipjihdaa

/- Changed of gauge. -/
namespace Go.Proofs.Ythlnialipjihdaa
open Go.RowKit

/-- Do the ends of a point differ? -/
def chgP (B C : List (List Int)) (q : Nat) : Bool := decide (at_ (flat B) q ≠ at_ (flat C) q ∨ at_ (flat B) (60 + q) ≠ at_ (flat C) (60 + q))
def chgL (B C : List (List Int)) (k : Nat) : List Int := ((List.range k).filter (chgP B C)).map (fun q : Nat => (q : Int))
def changedV (p : Int) (l : List Bnd) (x : Bnd) (a : Int) : List Int × Int :=
  if withC p l x = 0 then
    (if scode p (l ++ [x]) [a] = 0 then (chgL (endsL l p.toNat a.toNat) (endsL (l ++ [x]) p.toNat a.toNat) p.toNat, 0) else ([], scode p (l ++ [x]) [a]))
  else ([], withC p l x)

theorem chgL_succ (B C : List (List Int)) (k : Nat) : chgL B C (k + 1) = if chgP B C k = true then chgL B C k ++ [(k : Int)] else chgL B C k := by
  unfold chgL
  rw [List.range_succ, List.filter_append, List.map_append]
  by_cases h : chgP B C k = true
  · rw [if_pos h]; simp [h]
  · rw [if_neg h]; simp [h]
theorem chgL_same (B : List (List Int)) (k : Nat) : chgL B B k = [] := by
  unfold chgL
  rw [List.filter_eq_nil_iff.2 (fun q _ => by unfold chgP; simp)]
  rfl
theorem chgL_length (B C : List (List Int)) (k : Nat) : (chgL B C k).length ≤ k := by
  unfold chgL
  rw [List.length_map]
  have := List.length_filter_le (chgP B C) (List.range k)
  rwa [List.length_range] at this

theorem rdI_one (w : World) (a : Int) : RdI (w.alloc (.cells #[.int .i64 a] 3)) (some ⟨w.heap.size, 0, none⟩) 1 1 [a] := by
  refine ⟨rfl, Nat.le_refl _, (fun h => by cases h), .inr ⟨w.heap.size, 0, rfl, by simp, fun j u hu => ?_⟩⟩
  rw [Nat.zero_add, (Blk.new w 3 #[.int .i64 a]).cell j]
  simpa using hu
theorem withC_ok {p : Int} {l : List Bnd} {x : Bnd} (h : withC p l x = 0) : chk p l = 0 ∧ chk p (l ++ [x]) = 0 := by
  unfold withC at h
  split at h
  · rename_i h1; exact ⟨h1, h⟩
  · rename_i h1; exact absurd h h1

set_option maxRecDepth 100000 in
set_option maxHeartbeats 4000000 in
theorem Changed_any (p f t m i a : Int) (A : Option Addr) (n c : Nat) (l : List Bnd) (w : World) (hr : RdB w A n c l) (hn : n ≤ 1000) :
    Calls Try.prog 50 #[.agg #[.int .i64 p, .slice A n c], .agg #[.int .i64 f, .int .i64 t, .int .i64 m, .int .i64 i], .int .i64 a] w (RetL (changedV p l ⟨f, t, m, i⟩ a) w) := by
  have hB : Below w.heap.size w ((w.alloc (.cells #[.int .i64 p, .slice A n c] 24)).alloc (.cells #[.int .i64 f, .int .i64 t, .int .i64 m, .int .i64 i] 54)) := ((Below.refl _ w).alloc (Nat.le_refl _) _).alloc (by simp) _
  have hc := With_any p f t m i A n c l _ (hr.below hB) hn
  have b0 := (Blk.new w 24 #[.int .i64 p, .slice A n c]).alloc (.cells #[.int .i64 f, .int .i64 t, .int .i64 m, .int .i64 i] 54)
  have HC := Lib.hid hc; have HR := Lib.hid hr; have B0 := Lib.hid b0; clear hc hr b0
  unfold changedV
  obtain ⟨x, hx⟩ : ∃ x : Bnd, x = ⟨f, t, m, i⟩ := ⟨_, rfl⟩
  unfold RetS at HC
  rw [← hx] at HC ⊢
  by_cases hw : withC p l x = 0
  · rw [if_pos hw]
    obtain ⟨hk1, hk2⟩ := withC_ok hw
    rw [hw] at HC
    simp only [sysR_yes] at HC
    obtain ⟨hp1, hp2, hlen, -⟩ := chk_ok hk2
    have hok1 := okB_of hk1
    have hok2 := okB_of hk2
    have hn1 : n + 1 ≤ 400 := by have := HR.out.len; simp at hlen; omega
    clear hw hk1 hk2
    have HN2 : (l ++ [x]).length = n + 1 := by have := HR.out.len; simp; omega
    have HOK1 := Lib.hid hok1; have HOK2 := Lib.hid hok2; clear hok1 hok2
    by_cases hs : scode p (l ++ [x]) [a] = 0
    · rw [if_pos hs]
      have HSC := Lib.hid hs
      obtain ⟨hk, hpt, hsol⟩ := scode_ok hs
      simp only [List.all_cons, List.all_nil, Bool.and_true, isPt, decide_eq_true_eq] at hpt
      obtain ⟨ha0, ha1⟩ := hpt
      clear hs hk hsol
      obtain ⟨p, rfl⟩ := Int.eq_ofNat_of_zero_le (show 0 ≤ p by omega)
      obtain ⟨a, rfl⟩ := Int.eq_ofNat_of_zero_le ha0
      simp only [Int.toNat_natCast]
      have he1 := fun w' hw' => ends_any p a A n c l (by omega) (by omega) (by omega) HOK1.out w' hw'
      have he2 := fun A2 c2 w' hw' => ends_any p a A2 (n + 1) c2 (l ++ [x]) (by omega) (by omega) (by omega) HOK2.out w' hw'
      have hx0 := setL_length (l := l) (p := p) (startL_length a)
      have hx1 := setL_length (l := revL l) (p := p) (startL_length a)
      have hy0 := setL_length (l := l ++ [x]) (p := p) (startL_length a)
      have hy1 := setL_length (l := revL (l ++ [x])) (p := p) (startL_length a)
      have hE1 : endsL l p a = pair (setL l p (startL a)) (setL (revL l) p (startL a)) := rfl
      have hE2 : endsL (l ++ [x]) p a = pair (setL (l ++ [x]) p (startL a)) (setL (revL (l ++ [x])) p (startL a)) := rfl
      rw [hE1] at he1 ⊢
      rw [hE2] at he2 ⊢
      clear hE1 hE2
      generalize setL l p (startL a) = x0 at *
      generalize setL (revL l) p (startL a) = x1 at *
      generalize setL (l ++ [x]) p (startL a) = y0 at *
      generalize setL (revL (l ++ [x])) p (startL a) = y1 at *
      have HX0 := Lib.hid hx0; have HX1 := Lib.hid hx1; have HY0 := Lib.hid hy0; have HY1 := Lib.hid hy1; have HE1 := Lib.hid he1; have HE2' := Lib.hid he2; clear hx0 hx1 hy0 hy1 he1 he2
      obtain ⟨V, hV⟩ : ∃ V, chgL (pair x0 x1) (pair y0 y1) p = V := ⟨_, rfl⟩
      rw [hV]
      have HV := Lib.hid hV; clear hV
      obtain ⟨i0, hi0, hz0, hz1, hz2⟩ := info_parts infoI
      have HI := Lib.hid hi0; have HZ0 := Lib.hid hz0; have HZ1 := Lib.hid hz1; have HZ2 := Lib.hid hz2; clear hi0 hz0 hz1 hz2
      have hm : Try.prog.eqGuardType Try.prog.depth 103 = false := by kernel_rfl

      go_enter Try.func50, Try.ntmps50
      go_wp2_with fail
      refine HC.out.mono ?_
      rintro e w1 ⟨A2, n2, c2, rfl, ho, hb1⟩
      have hor := OwnB.rd (ho trivial)
      obtain rfl : n2 = n + 1 := by have := hor.1.len; omega
      have RO := Lib.hid hor.1; clear ho hor
      have hB1 := hB.trans (hb1.mono hB.size)
      have C0 := Lib.hid (B0.out.keep hb1)
      have r1 := rdI_one (w1.alloc (.cells #[.int .i64 p, .slice A2 (n + 1) c2] 24)) a
      simp only [World.size_alloc] at r1
      have hB2 := (hB1.alloc hB1.size (.cells #[.int .i64 p, .slice A2 (n + 1) c2] 24))
      have hB3 := hB2.alloc hB2.size (.cells #[.int .i64 a] 3)
      have hb2' : Below w1.heap.size w1 ((w1.alloc (.cells #[.int .i64 p, .slice A2 (n + 1) c2] 24)).alloc (.cells #[.int .i64 a] 3)) := ((Below.refl _ w1).alloc (Nat.le_refl _) _).alloc (by simp) _
      have hsv := solvable_any p A2 _ (n + 1) c2 1 1 (l ++ [x]) [a] _ (RO.out.below hb2') (by unfold maxLen; omega) r1 (by omega)
      have C0' := Lib.hid ((C0.out.alloc (.cells #[.int .i64 p, .slice A2 (n + 1) c2] 24)).alloc (.cells #[.int .i64 a] 3))
      have RO' := Lib.hid (RO.out.below hb2')
      have HSV := Lib.hid hsv; have HB3 := Lib.hid hB3; clear hsv r1 hb2' hB2 hB3
      have k0 : (w1.alloc (.cells #[.int .i64 p, .slice A2 (n + 1) c2] 24)).cell? ⟨w1.heap.size, 0, none⟩ = some (.int .i64 p) := (Blk.new w1 24 #[.int .i64 p, .slice A2 (n + 1) c2]).cell 0
      have k1 : (w1.alloc (.cells #[.int .i64 p, .slice A2 (n + 1) c2] 24)).cell? ⟨w1.heap.size, 1, none⟩ = some (.slice A2 (n + 1) c2) := (Blk.new w1 24 #[.int .i64 p, .slice A2 (n + 1) c2]).cell 1

      rw [HSC.out, sysR_yes] at HSV
      go_wp2_with fail
      refine HSV.out.mono ?_
      rintro e w2 ⟨rfl, hb2⟩
      have HE2 := Lib.hid (HE2'.out A2 c2)
      have hB4 := HB3.out.trans (hb2.mono HB3.out.size)
      have hs4 := hb2.size
      simp only [World.size_alloc] at hs4
      have hw1s := hB1.size
      have C0 := Lib.hid (((C0'.out.keep hb2)).alloc (.cells #[.int .i64 (p : Int), .slice A2 (n + 1) c2] 70)).drew
      have C1 := Lib.hid (Blk.new w2 70 #[.int .i64 (p : Int), .slice A2 (n + 1) c2]).drew
      have HBE := Lib.hid (hB4.alloc hB4.size (.cells #[.int .i64 (p : Int), .slice A2 (n + 1) c2] 70)).drew
      have RD1 := Lib.hid (HR.out.below (hB4.alloc hB4.size (.cells #[.int .i64 (p : Int), .slice A2 (n + 1) c2] 70))).drew
      have RD2 := Lib.hid ((RO'.out.below hb2).alloc (.cells #[.int .i64 (p : Int), .slice A2 (n + 1) c2] 70)).drew
      clear C0' RO' RO B0 HC HSV HB3 HE2' k0 k1
      go_upto_region 7 with fail
      generalize w2.alloc (.cells #[.int .i64 (p : Int), .slice A2 (n + 1) c2] 70) = W0 at *
      go_cut [11, 12] from 34 to 39 (fun s11 s12 wx => ∃ g1 g2, s11 = .pointer (some ⟨g1, 0, none⟩) ∧ s12 = .pointer (some ⟨g2, 0, none⟩) ∧ Blk wx g1 103 (arr (flat (pair x0 x1))) ∧ Blk wx g2 103 (arr (flat (pair y0 y1))) ∧ Blk wx w.heap.size 24 #[.int .i64 (p : Int), .slice A n c] ∧ Below w.heap.size w wx)
      case first =>
        refine wp_region_held_drew (S := (fun W' => Blk W' w.heap.size 24 #[.int .i64 (p : Int), .slice A n c] ∧ Blk W' w2.heap.size 70 #[.int .i64 (p : Int), .slice A2 (n + 1) c2])) (by kernel_rfl) ⟨C0.out, C1.out⟩ (fun _ => ?_)
        obtain ⟨w92, hw93⟩ : ∃ w', w' = W0.drew := ⟨_, rfl⟩
        rw [← hw93] at C0 C1 HBE RD1 RD2
        rw [← hw93]
        clear hw93
        refine' wpAnyH_take (i := 0) (oi := { dst := some 34, op := Go.Op.load 24 (Go.Operand.tmp 3), type := 24, pos := "solve.go:190", after := #[], guard := none }) (v := _) rfl (by kernel_rfl) (by kernel_rfl) (by kernel_rfl) (fun _ _ _ h => h) (Or.inl ⟨by rfl, ?hyR94⟩) ⟨C0.out, C1.out⟩ ?reR94
        case hyR94 => (rintro W' ⟨hS0, hS1⟩; have hc0 : W'.cell? ⟨w.heap.size, 0, none⟩ = some (.int .i64 (p : Int)) := Blk.cell hS0 0; have hc1 : W'.cell? ⟨w.heap.size, 1, none⟩ = some (.slice A n c) := Blk.cell hS0 1; clear hS0 hS1; go_simp; try with_reducible rfl)
        try simp only [Act.put, List.setIfInBounds_toArray, List.set_cons_zero, List.set_cons_succ]
        refine' wpAnyH_take (i := 1) (oi := { dst := some 35, op := Go.Op.move (Go.Operand.tmp 2), type := 3, pos := "solve.go:190", after := #[], guard := none }) (v := _) rfl (by kernel_rfl) (by kernel_rfl) (by kernel_rfl) (fun _ _ _ h => h) (Or.inl ⟨by rfl, ?hyR95⟩) ⟨C0.out, C1.out⟩ ?reR95
        case hyR95 => (rintro W' ⟨hS0, hS1⟩; clear hS0 hS1; go_simp; try with_reducible rfl)
        try simp only [Act.put, List.setIfInBounds_toArray, List.set_cons_zero, List.set_cons_succ]
        refine' wpAnyH_take (i := 3) (oi := { dst := some 37, op := Go.Op.load 70 (Go.Operand.tmp 10), type := 70, pos := "solve.go:190", after := #[], guard := none }) (v := _) rfl (by kernel_rfl) (by kernel_rfl) (by kernel_rfl) (fun _ _ _ h => h) (Or.inl ⟨by rfl, ?hyR96⟩) ⟨C0.out, C1.out⟩ ?reR96
        case hyR96 => (rintro W' ⟨hS0, hS1⟩; have hc0 : W'.cell? ⟨w2.heap.size, 0, none⟩ = some (.int .i64 (p : Int)) := Blk.cell hS1 0; have hc1 : W'.cell? ⟨w2.heap.size, 1, none⟩ = some (.slice A2 (n + 1) c2) := Blk.cell hS1 1; clear hS0 hS1; go_simp; try with_reducible rfl)
        try simp only [Act.put, List.setIfInBounds_toArray, List.set_cons_zero, List.set_cons_succ]
        refine' wpAnyH_take (i := 4) (oi := { dst := some 38, op := Go.Op.move (Go.Operand.tmp 2), type := 3, pos := "solve.go:190", after := #[], guard := none }) (v := _) rfl (by kernel_rfl) (by kernel_rfl) (by kernel_rfl) (fun _ _ _ h => h) (Or.inl ⟨by rfl, ?hyR97⟩) ⟨C0.out, C1.out⟩ ?reR97
        case hyR97 => (rintro W' ⟨hS0, hS1⟩; clear hS0 hS1; go_simp; try with_reducible rfl)
        try simp only [Act.put, List.setIfInBounds_toArray, List.set_cons_zero, List.set_cons_succ]
        refine wpAnyH_ready (rs := [2, 6, 7]) (by kernel_rfl) (by simp) ?_
        refine AllReadyH.cons (o := { dst := some 36, op := Go.Op.call { callee := Go.Callee.value (Go.Operand.func 94), args := #[Go.Operand.tmp 34, Go.Operand.tmp 35], argTypes := #[70, 3] }, type := 103, pos := "solve.go:190", after := #[{ on := 0, ground := Go.Ground.data }, { on := 1, ground := Go.Ground.data }], guard := none }) rfl (fun K hK => ?_) ?_
        · -- 2: call
          go_simp
          go_at_call 94
          refine (HE1.out _ RD1.out).mono ?_
          rintro e w98 ⟨rfl, hb99⟩
          dsimp only
          have b0_100 := Lib.hid (Blk.keep (C0.out) hb99)
          have b1_101 := Lib.hid (Blk.keep (C1.out) hb99)
          have bel_102 := Lib.hid (Below.trans (HBE.out) (Below.mono hb99 ((HBE.out).size)))
          have rd_103 := Lib.hid (RdB.below (RD1.out) hb99)
          have rr_104 := Lib.hid (RdB.below (RD2.out) hb99)
          refine hK.out _ _ ⟨b0_100.out, b1_101.out⟩ (fun _ => ?_); clear hK K
          try simp only [Act.put, List.setIfInBounds_toArray, List.set_cons_zero, List.set_cons_succ]
          refine wpAnyH_ready (rs := [5, 6, 7]) (by kernel_rfl) (by simp) ?_
          refine AllReadyH.cons (o := { dst := some 39, op := Go.Op.call { callee := Go.Callee.value (Go.Operand.func 94), args := #[Go.Operand.tmp 37, Go.Operand.tmp 38], argTypes := #[70, 3] }, type := 103, pos := "solve.go:190", after := #[{ on := 3, ground := Go.Ground.data }, { on := 4, ground := Go.Ground.data }, { on := 2, ground := Go.Ground.chain }], guard := none }) rfl (fun K hK => ?_) ?_
          · -- 5: call
            go_simp
            go_at_call 94
            refine (HE2.out _ rr_104.out).mono ?_
            rintro e w105 ⟨rfl, hb106⟩
            dsimp only
            have b0_107 := Lib.hid (Blk.keep (b0_100.out) hb106)
            have b1_108 := Lib.hid (Blk.keep (b1_101.out) hb106)
            have bel_109 := Lib.hid (Below.trans (bel_102.out) (Below.mono hb106 ((bel_102.out).size)))
            have rd_110 := Lib.hid (RdB.below (rd_103.out) hb106)
            have rr_111 := Lib.hid (RdB.below (rr_104.out) hb106)
            refine hK.out _ _ ⟨b0_107.out, b1_108.out⟩ (fun _ => ?_); clear hK K
            try simp only [Act.put, List.setIfInBounds_toArray, List.set_cons_zero, List.set_cons_succ]
            refine wpAnyH_ready (rs := [6, 7]) (by kernel_rfl) (by simp) ?_
            refine AllReadyH.cons (o := { dst := some 11, op := Go.Op.alloc 103, type := 0, pos := "solve.go:190", after := #[], guard := none }) rfl (fun K hK => ?_) ?_
            · -- 6: alloc
              rw [if_pos (by rfl)]
              refine wp_alloc_row 103 rfl (arr (flat (pair zeros zeros))) zero_pair.1 ?_
              have b0_116 := Lib.hid (Blk.alloc (b0_107.out) (.cells (arr (flat (pair zeros zeros))) 103))
              have b1_117 := Lib.hid (Blk.alloc (b1_108.out) (.cells (arr (flat (pair zeros zeros))) 103))
              have bel_118 := Lib.hid (Below.alloc (bel_109.out) ((bel_109.out).size) (.cells (arr (flat (pair zeros zeros))) 103))
              have rd_119 := Lib.hid (RdB.alloc (rd_110.out) (.cells (arr (flat (pair zeros zeros))) 103))
              have rr_120 := Lib.hid (RdB.alloc (rr_111.out) (.cells (arr (flat (pair zeros zeros))) 103))
              have ne121 := Lib.hid (Nat.ne_of_lt (Blk.lt b0_107.out))
              have ne122 := Lib.hid (Nat.ne_of_lt (Blk.lt b1_108.out))
              have lb123 := Lib.hid (bel_109.out.size)
              have x_124 := Lib.hid (Blk.new (w105) 103 (arr (flat (pair zeros zeros))))
              obtain ⟨g112, hg113⟩ : ∃ g, g = (w105).heap.size := ⟨_, rfl⟩
              obtain ⟨w114, hw115⟩ : ∃ w', w' = (w105).alloc (.cells (arr (flat (pair zeros zeros))) 103) := ⟨_, rfl⟩
              rw [← hw115] at b0_116 b1_117 bel_118 rd_119 rr_120 x_124
              rw [← hg113] at ne121 ne122 lb123 x_124
              rw [← hg113, ← hw115]
              clear hg113 hw115
              refine hK.out _ _ ⟨b0_116.out, b1_117.out⟩ (fun _ => ?_); clear hK K
              try simp only [Act.put, List.setIfInBounds_toArray, List.set_cons_zero, List.set_cons_succ]
              refine wpAnyH_ready (rs := [7]) (by kernel_rfl) (by simp) ?_
              refine AllReadyH.cons (o := { dst := some 12, op := Go.Op.alloc 103, type := 0, pos := "solve.go:190", after := #[], guard := none }) rfl (fun K hK => ?_) ?_
              · -- 7: alloc
                rw [if_pos (by rfl)]
                refine wp_alloc_row 103 rfl (arr (flat (pair zeros zeros))) zero_pair.1 ?_
                have b0_129 := Lib.hid (Blk.alloc (b0_116.out) (.cells (arr (flat (pair zeros zeros))) 103))
                have b1_130 := Lib.hid (Blk.alloc (b1_117.out) (.cells (arr (flat (pair zeros zeros))) 103))
                have bel_131 := Lib.hid (Below.alloc (bel_118.out) ((bel_118.out).size) (.cells (arr (flat (pair zeros zeros))) 103))
                have rd_132 := Lib.hid (RdB.alloc (rd_119.out) (.cells (arr (flat (pair zeros zeros))) 103))
                have rr_133 := Lib.hid (RdB.alloc (rr_120.out) (.cells (arr (flat (pair zeros zeros))) 103))
                have x_134 := Lib.hid (Blk.alloc (x_124.out) (.cells (arr (flat (pair zeros zeros))) 103))
                have ne135 := Lib.hid (Nat.ne_of_lt (Blk.lt b0_116.out))
                have ne136 := Lib.hid (Nat.ne_of_lt (Blk.lt b1_117.out))
                have lb137 := Lib.hid (bel_118.out.size)
                have ne138 := Lib.hid (Nat.ne_of_lt (Blk.lt x_124.out))
                have y_139 := Lib.hid (Blk.new (w114) 103 (arr (flat (pair zeros zeros))))
                obtain ⟨g125, hg126⟩ : ∃ g, g = (w114).heap.size := ⟨_, rfl⟩
                obtain ⟨w127, hw128⟩ : ∃ w', w' = (w114).alloc (.cells (arr (flat (pair zeros zeros))) 103) := ⟨_, rfl⟩
                rw [← hw128] at b0_129 b1_130 bel_131 rd_132 rr_133 x_134 y_139
                rw [← hg126] at ne135 ne136 lb137 ne138 y_139
                rw [← hg126, ← hw128]
                clear hg126 hw128
                refine hK.out _ _ ⟨b0_129.out, b1_130.out⟩ (fun _ => ?_); clear hK K
                try simp only [Act.put, List.setIfInBounds_toArray, List.set_cons_zero, List.set_cons_succ]
                refine wpAnyH_ready (rs := [8]) (by kernel_rfl) (by simp) ?_
                refine AllReadyH.cons (o := { dst := none, op := Go.Op.store 103 (Go.Operand.tmp 11) (Go.Operand.tmp 36), type := 0, pos := "solve.go:190", after := #[{ on := 6, ground := Go.Ground.data }, { on := 2, ground := Go.Ground.data }, { on := 5, ground := Go.Ground.chain }, { on := 0, ground := Go.Ground.phase }, { on := 1, ground := Go.Ground.phase }, { on := 2, ground := Go.Ground.phase }, { on := 3, ground := Go.Ground.textOnly Go.Departure.lateStores }, { on := 4, ground := Go.Ground.textOnly Go.Departure.lateStores }, { on := 5, ground := Go.Ground.textOnly Go.Departure.lateStoresUnsure }, { on := 6, ground := Go.Ground.phase }, { on := 7, ground := Go.Ground.phase }], guard := none }) rfl (fun K hK => ?_) ?_
                · -- 8: store
                  rw [if_pos (by rfl)]
                  refine wp_store_row 103 (.tmp 11) (.tmp 36) rfl _ (arr (flat (pair x0 x1))) rfl rfl 103 (arr (flat (pair zeros zeros))) x_134.out (size_pair HX0.out HX1.out) (by rw [arr_size, arr_size, pair_length rfl rfl, pair_length HX0.out HX1.out]) (arr_one _) ?_
                  have b0_142 := Lib.hid (Blk.rowFar (b0_129.out) (ne121.out) (arr (flat (pair x0 x1))))
                  have b1_143 := Lib.hid (Blk.rowFar (b1_130.out) (ne122.out) (arr (flat (pair x0 x1))))
                  have bel_144 := Lib.hid (below_setRow (bel_131.out) (lb123.out) (arr (flat (pair x0 x1))))
                  have x_145 := Lib.hid (Blk.row (x_134.out) (arr (flat (pair x0 x1))))
                  have y_146 := Lib.hid (Blk.rowFar (y_139.out) ((Ne.symm ne138.out)) (arr (flat (pair x0 x1))))
                  obtain ⟨w140, hw141⟩ : ∃ w', w' = (w127).setRow g112 (arr (flat (pair x0 x1))) := ⟨_, rfl⟩
                  rw [← hw141] at b0_142 b1_143 bel_144 x_145 y_146
                  rw [← hw141]
                  clear hw141
                  refine hK.out _ _ ⟨b0_142.out, b1_143.out⟩ (fun _ => ?_); clear hK K
                  try simp only [Act.put, List.setIfInBounds_toArray, List.set_cons_zero, List.set_cons_succ]
                  refine wpAnyH_ready (rs := [9]) (by kernel_rfl) (by simp) ?_
                  refine AllReadyH.cons (o := { dst := none, op := Go.Op.store 103 (Go.Operand.tmp 12) (Go.Operand.tmp 39), type := 0, pos := "solve.go:190", after := #[{ on := 7, ground := Go.Ground.data }, { on := 5, ground := Go.Ground.data }, { on := 8, ground := Go.Ground.chain }, { on := 0, ground := Go.Ground.phase }, { on := 1, ground := Go.Ground.phase }, { on := 2, ground := Go.Ground.phase }, { on := 3, ground := Go.Ground.phase }, { on := 4, ground := Go.Ground.phase }, { on := 5, ground := Go.Ground.phase }, { on := 6, ground := Go.Ground.phase }, { on := 7, ground := Go.Ground.phase }, { on := 8, ground := Go.Ground.phase }], guard := none }) rfl (fun K hK => ?_) ?_
                  · -- 9: store
                    rw [if_pos (by rfl)]
                    refine wp_store_row 103 (.tmp 12) (.tmp 39) rfl _ (arr (flat (pair y0 y1))) rfl rfl 103 (arr (flat (pair zeros zeros))) y_146.out (size_pair HY0.out HY1.out) (by rw [arr_size, arr_size, pair_length rfl rfl, pair_length HY0.out HY1.out]) (arr_one _) ?_
                    have b0_149 := Lib.hid (Blk.rowFar (b0_142.out) (ne135.out) (arr (flat (pair y0 y1))))
                    have b1_150 := Lib.hid (Blk.rowFar (b1_143.out) (ne136.out) (arr (flat (pair y0 y1))))
                    have bel_151 := Lib.hid (below_setRow (bel_144.out) (lb137.out) (arr (flat (pair y0 y1))))
                    have x_152 := Lib.hid (Blk.rowFar (x_145.out) (ne138.out) (arr (flat (pair y0 y1))))
                    have y_153 := Lib.hid (Blk.row (y_146.out) (arr (flat (pair y0 y1))))
                    obtain ⟨w147, hw148⟩ : ∃ w', w' = (w140).setRow g125 (arr (flat (pair y0 y1))) := ⟨_, rfl⟩
                    rw [← hw148] at b0_149 b1_150 bel_151 x_152 y_153
                    rw [← hw148]
                    clear hw148
                    refine hK.out _ _ ⟨b0_149.out, b1_150.out⟩ (fun _ => ?_); clear hK K
                    try simp only [Act.put, List.setIfInBounds_toArray, List.set_cons_zero, List.set_cons_succ]
                    refine wpAnyH_done (by kernel_rfl) ?_ _
                    go_wp2
                    go_meet
                    exact ⟨_, _, rfl, rfl, x_152.out, y_153.out, b0_149.out, bel_151.out⟩
                  exact AllReadyH.nil
                exact AllReadyH.nil
              exact AllReadyH.nil
            refine AllReadyH.cons (o := { dst := some 12, op := Go.Op.alloc 103, type := 0, pos := "solve.go:190", after := #[], guard := none }) rfl (fun K hK => ?_) ?_
            · -- 7: alloc
              rw [if_pos (by rfl)]
              refine wp_alloc_row 103 rfl (arr (flat (pair zeros zeros))) zero_pair.1 ?_
              have b0_158 := Lib.hid (Blk.alloc (b0_107.out) (.cells (arr (flat (pair zeros zeros))) 103))
              have b1_159 := Lib.hid (Blk.alloc (b1_108.out) (.cells (arr (flat (pair zeros zeros))) 103))
              have bel_160 := Lib.hid (Below.alloc (bel_109.out) ((bel_109.out).size) (.cells (arr (flat (pair zeros zeros))) 103))
              have rd_161 := Lib.hid (RdB.alloc (rd_110.out) (.cells (arr (flat (pair zeros zeros))) 103))
              have rr_162 := Lib.hid (RdB.alloc (rr_111.out) (.cells (arr (flat (pair zeros zeros))) 103))
              have ne163 := Lib.hid (Nat.ne_of_lt (Blk.lt b0_107.out))
              have ne164 := Lib.hid (Nat.ne_of_lt (Blk.lt b1_108.out))
              have lb165 := Lib.hid (bel_109.out.size)
              have y_166 := Lib.hid (Blk.new (w105) 103 (arr (flat (pair zeros zeros))))
              obtain ⟨g154, hg155⟩ : ∃ g, g = (w105).heap.size := ⟨_, rfl⟩
              obtain ⟨w156, hw157⟩ : ∃ w', w' = (w105).alloc (.cells (arr (flat (pair zeros zeros))) 103) := ⟨_, rfl⟩
              rw [← hw157] at b0_158 b1_159 bel_160 rd_161 rr_162 y_166
              rw [← hg155] at ne163 ne164 lb165 y_166
              rw [← hg155, ← hw157]
              clear hg155 hw157
              refine hK.out _ _ ⟨b0_158.out, b1_159.out⟩ (fun _ => ?_); clear hK K
              try simp only [Act.put, List.setIfInBounds_toArray, List.set_cons_zero, List.set_cons_succ]
              refine wpAnyH_ready (rs := [6]) (by kernel_rfl) (by simp) ?_
              refine AllReadyH.cons (o := { dst := some 11, op := Go.Op.alloc 103, type := 0, pos := "solve.go:190", after := #[], guard := none }) rfl (fun K hK => ?_) ?_
              · -- 6: alloc
                rw [if_pos (by rfl)]
                refine wp_alloc_row 103 rfl (arr (flat (pair zeros zeros))) zero_pair.1 ?_
                have b0_171 := Lib.hid (Blk.alloc (b0_158.out) (.cells (arr (flat (pair zeros zeros))) 103))
                have b1_172 := Lib.hid (Blk.alloc (b1_159.out) (.cells (arr (flat (pair zeros zeros))) 103))
                have bel_173 := Lib.hid (Below.alloc (bel_160.out) ((bel_160.out).size) (.cells (arr (flat (pair zeros zeros))) 103))
                have rd_174 := Lib.hid (RdB.alloc (rd_161.out) (.cells (arr (flat (pair zeros zeros))) 103))
                have rr_175 := Lib.hid (RdB.alloc (rr_162.out) (.cells (arr (flat (pair zeros zeros))) 103))
                have y_176 := Lib.hid (Blk.alloc (y_166.out) (.cells (arr (flat (pair zeros zeros))) 103))
                have ne177 := Lib.hid (Nat.ne_of_lt (Blk.lt b0_158.out))
                have ne178 := Lib.hid (Nat.ne_of_lt (Blk.lt b1_159.out))
                have lb179 := Lib.hid (bel_160.out.size)
                have ne180 := Lib.hid (Nat.ne_of_lt (Blk.lt y_166.out))
                have x_181 := Lib.hid (Blk.new (w156) 103 (arr (flat (pair zeros zeros))))
                obtain ⟨g167, hg168⟩ : ∃ g, g = (w156).heap.size := ⟨_, rfl⟩
                obtain ⟨w169, hw170⟩ : ∃ w', w' = (w156).alloc (.cells (arr (flat (pair zeros zeros))) 103) := ⟨_, rfl⟩
                rw [← hw170] at b0_171 b1_172 bel_173 rd_174 rr_175 y_176 x_181
                rw [← hg168] at ne177 ne178 lb179 ne180 x_181
                rw [← hg168, ← hw170]
                clear hg168 hw170
                refine hK.out _ _ ⟨b0_171.out, b1_172.out⟩ (fun _ => ?_); clear hK K
                try simp only [Act.put, List.setIfInBounds_toArray, List.set_cons_zero, List.set_cons_succ]
                refine wpAnyH_ready (rs := [8]) (by kernel_rfl) (by simp) ?_
                refine AllReadyH.cons (o := { dst := none, op := Go.Op.store 103 (Go.Operand.tmp 11) (Go.Operand.tmp 36), type := 0, pos := "solve.go:190", after := #[{ on := 6, ground := Go.Ground.data }, { on := 2, ground := Go.Ground.data }, { on := 5, ground := Go.Ground.chain }, { on := 0, ground := Go.Ground.phase }, { on := 1, ground := Go.Ground.phase }, { on := 2, ground := Go.Ground.phase }, { on := 3, ground := Go.Ground.textOnly Go.Departure.lateStores }, { on := 4, ground := Go.Ground.textOnly Go.Departure.lateStores }, { on := 5, ground := Go.Ground.textOnly Go.Departure.lateStoresUnsure }, { on := 6, ground := Go.Ground.phase }, { on := 7, ground := Go.Ground.phase }], guard := none }) rfl (fun K hK => ?_) ?_
                · -- 8: store
                  rw [if_pos (by rfl)]
                  refine wp_store_row 103 (.tmp 11) (.tmp 36) rfl _ (arr (flat (pair x0 x1))) rfl rfl 103 (arr (flat (pair zeros zeros))) x_181.out (size_pair HX0.out HX1.out) (by rw [arr_size, arr_size, pair_length rfl rfl, pair_length HX0.out HX1.out]) (arr_one _) ?_
                  have b0_184 := Lib.hid (Blk.rowFar (b0_171.out) (ne177.out) (arr (flat (pair x0 x1))))
                  have b1_185 := Lib.hid (Blk.rowFar (b1_172.out) (ne178.out) (arr (flat (pair x0 x1))))
                  have bel_186 := Lib.hid (below_setRow (bel_173.out) (lb179.out) (arr (flat (pair x0 x1))))
                  have y_187 := Lib.hid (Blk.rowFar (y_176.out) (ne180.out) (arr (flat (pair x0 x1))))
                  have x_188 := Lib.hid (Blk.row (x_181.out) (arr (flat (pair x0 x1))))
                  obtain ⟨w182, hw183⟩ : ∃ w', w' = (w169).setRow g167 (arr (flat (pair x0 x1))) := ⟨_, rfl⟩
                  rw [← hw183] at b0_184 b1_185 bel_186 y_187 x_188
                  rw [← hw183]
                  clear hw183
                  refine hK.out _ _ ⟨b0_184.out, b1_185.out⟩ (fun _ => ?_); clear hK K
                  try simp only [Act.put, List.setIfInBounds_toArray, List.set_cons_zero, List.set_cons_succ]
                  refine wpAnyH_ready (rs := [9]) (by kernel_rfl) (by simp) ?_
                  refine AllReadyH.cons (o := { dst := none, op := Go.Op.store 103 (Go.Operand.tmp 12) (Go.Operand.tmp 39), type := 0, pos := "solve.go:190", after := #[{ on := 7, ground := Go.Ground.data }, { on := 5, ground := Go.Ground.data }, { on := 8, ground := Go.Ground.chain }, { on := 0, ground := Go.Ground.phase }, { on := 1, ground := Go.Ground.phase }, { on := 2, ground := Go.Ground.phase }, { on := 3, ground := Go.Ground.phase }, { on := 4, ground := Go.Ground.phase }, { on := 5, ground := Go.Ground.phase }, { on := 6, ground := Go.Ground.phase }, { on := 7, ground := Go.Ground.phase }, { on := 8, ground := Go.Ground.phase }], guard := none }) rfl (fun K hK => ?_) ?_
                  · -- 9: store
                    rw [if_pos (by rfl)]
                    refine wp_store_row 103 (.tmp 12) (.tmp 39) rfl _ (arr (flat (pair y0 y1))) rfl rfl 103 (arr (flat (pair zeros zeros))) y_187.out (size_pair HY0.out HY1.out) (by rw [arr_size, arr_size, pair_length rfl rfl, pair_length HY0.out HY1.out]) (arr_one _) ?_
                    have b0_191 := Lib.hid (Blk.rowFar (b0_184.out) (ne163.out) (arr (flat (pair y0 y1))))
                    have b1_192 := Lib.hid (Blk.rowFar (b1_185.out) (ne164.out) (arr (flat (pair y0 y1))))
                    have bel_193 := Lib.hid (below_setRow (bel_186.out) (lb165.out) (arr (flat (pair y0 y1))))
                    have y_194 := Lib.hid (Blk.row (y_187.out) (arr (flat (pair y0 y1))))
                    have x_195 := Lib.hid (Blk.rowFar (x_188.out) ((Ne.symm ne180.out)) (arr (flat (pair y0 y1))))
                    obtain ⟨w189, hw190⟩ : ∃ w', w' = (w182).setRow g154 (arr (flat (pair y0 y1))) := ⟨_, rfl⟩
                    rw [← hw190] at b0_191 b1_192 bel_193 y_194 x_195
                    rw [← hw190]
                    clear hw190
                    refine hK.out _ _ ⟨b0_191.out, b1_192.out⟩ (fun _ => ?_); clear hK K
                    try simp only [Act.put, List.setIfInBounds_toArray, List.set_cons_zero, List.set_cons_succ]
                    refine wpAnyH_done (by kernel_rfl) ?_ _
                    go_wp2
                    go_meet
                    exact ⟨_, _, rfl, rfl, x_195.out, y_194.out, b0_191.out, bel_193.out⟩
                  exact AllReadyH.nil
                exact AllReadyH.nil
              exact AllReadyH.nil
            exact AllReadyH.nil
          refine AllReadyH.cons (o := { dst := some 11, op := Go.Op.alloc 103, type := 0, pos := "solve.go:190", after := #[], guard := none }) rfl (fun K hK => ?_) ?_
          · -- 6: alloc
            rw [if_pos (by rfl)]
            refine wp_alloc_row 103 rfl (arr (flat (pair zeros zeros))) zero_pair.1 ?_
            have b0_200 := Lib.hid (Blk.alloc (b0_100.out) (.cells (arr (flat (pair zeros zeros))) 103))
            have b1_201 := Lib.hid (Blk.alloc (b1_101.out) (.cells (arr (flat (pair zeros zeros))) 103))
            have bel_202 := Lib.hid (Below.alloc (bel_102.out) ((bel_102.out).size) (.cells (arr (flat (pair zeros zeros))) 103))
            have rd_203 := Lib.hid (RdB.alloc (rd_103.out) (.cells (arr (flat (pair zeros zeros))) 103))
            have rr_204 := Lib.hid (RdB.alloc (rr_104.out) (.cells (arr (flat (pair zeros zeros))) 103))
            have ne205 := Lib.hid (Nat.ne_of_lt (Blk.lt b0_100.out))
            have ne206 := Lib.hid (Nat.ne_of_lt (Blk.lt b1_101.out))
            have lb207 := Lib.hid (bel_102.out.size)
            have x_208 := Lib.hid (Blk.new (w98) 103 (arr (flat (pair zeros zeros))))
            obtain ⟨g196, hg197⟩ : ∃ g, g = (w98).heap.size := ⟨_, rfl⟩
            obtain ⟨w198, hw199⟩ : ∃ w', w' = (w98).alloc (.cells (arr (flat (pair zeros zeros))) 103) := ⟨_, rfl⟩
            rw [← hw199] at b0_200 b1_201 bel_202 rd_203 rr_204 x_208
            rw [← hg197] at ne205 ne206 lb207 x_208
            rw [← hg197, ← hw199]
            clear hg197 hw199
            refine hK.out _ _ ⟨b0_200.out, b1_201.out⟩ (fun _ => ?_); clear hK K
            try simp only [Act.put, List.setIfInBounds_toArray, List.set_cons_zero, List.set_cons_succ]
            refine wpAnyH_ready (rs := [5, 7]) (by kernel_rfl) (by simp) ?_
            refine AllReadyH.cons (o := { dst := some 39, op := Go.Op.call { callee := Go.Callee.value (Go.Operand.func 94), args := #[Go.Operand.tmp 37, Go.Operand.tmp 38], argTypes := #[70, 3] }, type := 103, pos := "solve.go:190", after := #[{ on := 3, ground := Go.Ground.data }, { on := 4, ground := Go.Ground.data }, { on := 2, ground := Go.Ground.chain }], guard := none }) rfl (fun K hK => ?_) ?_
            · -- 5: call
              go_simp
              go_at_call 94
              refine (HE2.out _ rr_204.out).mono ?_
              rintro e w209 ⟨rfl, hb210⟩
              dsimp only
              have b0_211 := Lib.hid (Blk.keep (b0_200.out) hb210)
              have b1_212 := Lib.hid (Blk.keep (b1_201.out) hb210)
              have bel_213 := Lib.hid (Below.trans (bel_202.out) (Below.mono hb210 ((bel_202.out).size)))
              have rd_214 := Lib.hid (RdB.below (rd_203.out) hb210)
              have rr_215 := Lib.hid (RdB.below (rr_204.out) hb210)
              have x_216 := Lib.hid (Blk.keep (x_208.out) hb210)
              refine hK.out _ _ ⟨b0_211.out, b1_212.out⟩ (fun _ => ?_); clear hK K
              try simp only [Act.put, List.setIfInBounds_toArray, List.set_cons_zero, List.set_cons_succ]
              refine wpAnyH_ready (rs := [7]) (by kernel_rfl) (by simp) ?_
              refine AllReadyH.cons (o := { dst := some 12, op := Go.Op.alloc 103, type := 0, pos := "solve.go:190", after := #[], guard := none }) rfl (fun K hK => ?_) ?_
              · -- 7: alloc
                rw [if_pos (by rfl)]
                refine wp_alloc_row 103 rfl (arr (flat (pair zeros zeros))) zero_pair.1 ?_
                have b0_221 := Lib.hid (Blk.alloc (b0_211.out) (.cells (arr (flat (pair zeros zeros))) 103))
                have b1_222 := Lib.hid (Blk.alloc (b1_212.out) (.cells (arr (flat (pair zeros zeros))) 103))
                have bel_223 := Lib.hid (Below.alloc (bel_213.out) ((bel_213.out).size) (.cells (arr (flat (pair zeros zeros))) 103))
                have rd_224 := Lib.hid (RdB.alloc (rd_214.out) (.cells (arr (flat (pair zeros zeros))) 103))
                have rr_225 := Lib.hid (RdB.alloc (rr_215.out) (.cells (arr (flat (pair zeros zeros))) 103))
                have x_226 := Lib.hid (Blk.alloc (x_216.out) (.cells (arr (flat (pair zeros zeros))) 103))
                have ne227 := Lib.hid (Nat.ne_of_lt (Blk.lt b0_211.out))
                have ne228 := Lib.hid (Nat.ne_of_lt (Blk.lt b1_212.out))
                have lb229 := Lib.hid (bel_213.out.size)
                have ne230 := Lib.hid (Nat.ne_of_lt (Blk.lt x_216.out))
                have y_231 := Lib.hid (Blk.new (w209) 103 (arr (flat (pair zeros zeros))))
                obtain ⟨g217, hg218⟩ : ∃ g, g = (w209).heap.size := ⟨_, rfl⟩
                obtain ⟨w219, hw220⟩ : ∃ w', w' = (w209).alloc (.cells (arr (flat (pair zeros zeros))) 103) := ⟨_, rfl⟩
                rw [← hw220] at b0_221 b1_222 bel_223 rd_224 rr_225 x_226 y_231
                rw [← hg218] at ne227 ne228 lb229 ne230 y_231
                rw [← hg218, ← hw220]
                clear hg218 hw220
                refine hK.out _ _ ⟨b0_221.out, b1_222.out⟩ (fun _ => ?_); clear hK K
                try simp only [Act.put, List.setIfInBounds_toArray, List.set_cons_zero, List.set_cons_succ]
                refine wpAnyH_ready (rs := [8]) (by kernel_rfl) (by simp) ?_
                refine AllReadyH.cons (o := { dst := none, op := Go.Op.store 103 (Go.Operand.tmp 11) (Go.Operand.tmp 36), type := 0, pos := "solve.go:190", after := #[{ on := 6, ground := Go.Ground.data }, { on := 2, ground := Go.Ground.data }, { on := 5, ground := Go.Ground.chain }, { on := 0, ground := Go.Ground.phase }, { on := 1, ground := Go.Ground.phase }, { on := 2, ground := Go.Ground.phase }, { on := 3, ground := Go.Ground.textOnly Go.Departure.lateStores }, { on := 4, ground := Go.Ground.textOnly Go.Departure.lateStores }, { on := 5, ground := Go.Ground.textOnly Go.Departure.lateStoresUnsure }, { on := 6, ground := Go.Ground.phase }, { on := 7, ground := Go.Ground.phase }], guard := none }) rfl (fun K hK => ?_) ?_
                · -- 8: store
                  rw [if_pos (by rfl)]
                  refine wp_store_row 103 (.tmp 11) (.tmp 36) rfl _ (arr (flat (pair x0 x1))) rfl rfl 103 (arr (flat (pair zeros zeros))) x_226.out (size_pair HX0.out HX1.out) (by rw [arr_size, arr_size, pair_length rfl rfl, pair_length HX0.out HX1.out]) (arr_one _) ?_
                  have b0_234 := Lib.hid (Blk.rowFar (b0_221.out) (ne205.out) (arr (flat (pair x0 x1))))
                  have b1_235 := Lib.hid (Blk.rowFar (b1_222.out) (ne206.out) (arr (flat (pair x0 x1))))
                  have bel_236 := Lib.hid (below_setRow (bel_223.out) (lb207.out) (arr (flat (pair x0 x1))))
                  have x_237 := Lib.hid (Blk.row (x_226.out) (arr (flat (pair x0 x1))))
                  have y_238 := Lib.hid (Blk.rowFar (y_231.out) ((Ne.symm ne230.out)) (arr (flat (pair x0 x1))))
                  obtain ⟨w232, hw233⟩ : ∃ w', w' = (w219).setRow g196 (arr (flat (pair x0 x1))) := ⟨_, rfl⟩
                  rw [← hw233] at b0_234 b1_235 bel_236 x_237 y_238
                  rw [← hw233]
                  clear hw233
                  refine hK.out _ _ ⟨b0_234.out, b1_235.out⟩ (fun _ => ?_); clear hK K
                  try simp only [Act.put, List.setIfInBounds_toArray, List.set_cons_zero, List.set_cons_succ]
                  refine wpAnyH_ready (rs := [9]) (by kernel_rfl) (by simp) ?_
                  refine AllReadyH.cons (o := { dst := none, op := Go.Op.store 103 (Go.Operand.tmp 12) (Go.Operand.tmp 39), type := 0, pos := "solve.go:190", after := #[{ on := 7, ground := Go.Ground.data }, { on := 5, ground := Go.Ground.data }, { on := 8, ground := Go.Ground.chain }, { on := 0, ground := Go.Ground.phase }, { on := 1, ground := Go.Ground.phase }, { on := 2, ground := Go.Ground.phase }, { on := 3, ground := Go.Ground.phase }, { on := 4, ground := Go.Ground.phase }, { on := 5, ground := Go.Ground.phase }, { on := 6, ground := Go.Ground.phase }, { on := 7, ground := Go.Ground.phase }, { on := 8, ground := Go.Ground.phase }], guard := none }) rfl (fun K hK => ?_) ?_
                  · -- 9: store
                    rw [if_pos (by rfl)]
                    refine wp_store_row 103 (.tmp 12) (.tmp 39) rfl _ (arr (flat (pair y0 y1))) rfl rfl 103 (arr (flat (pair zeros zeros))) y_238.out (size_pair HY0.out HY1.out) (by rw [arr_size, arr_size, pair_length rfl rfl, pair_length HY0.out HY1.out]) (arr_one _) ?_
                    have b0_241 := Lib.hid (Blk.rowFar (b0_234.out) (ne227.out) (arr (flat (pair y0 y1))))
                    have b1_242 := Lib.hid (Blk.rowFar (b1_235.out) (ne228.out) (arr (flat (pair y0 y1))))
                    have bel_243 := Lib.hid (below_setRow (bel_236.out) (lb229.out) (arr (flat (pair y0 y1))))
                    have x_244 := Lib.hid (Blk.rowFar (x_237.out) (ne230.out) (arr (flat (pair y0 y1))))
                    have y_245 := Lib.hid (Blk.row (y_238.out) (arr (flat (pair y0 y1))))
                    obtain ⟨w239, hw240⟩ : ∃ w', w' = (w232).setRow g217 (arr (flat (pair y0 y1))) := ⟨_, rfl⟩
                    rw [← hw240] at b0_241 b1_242 bel_243 x_244 y_245
                    rw [← hw240]
                    clear hw240
                    refine hK.out _ _ ⟨b0_241.out, b1_242.out⟩ (fun _ => ?_); clear hK K
                    try simp only [Act.put, List.setIfInBounds_toArray, List.set_cons_zero, List.set_cons_succ]
                    refine wpAnyH_done (by kernel_rfl) ?_ _
                    go_wp2
                    go_meet
                    exact ⟨_, _, rfl, rfl, x_244.out, y_245.out, b0_241.out, bel_243.out⟩
                  exact AllReadyH.nil
                exact AllReadyH.nil
              exact AllReadyH.nil
            refine AllReadyH.cons (o := { dst := some 12, op := Go.Op.alloc 103, type := 0, pos := "solve.go:190", after := #[], guard := none }) rfl (fun K hK => ?_) ?_
            · -- 7: alloc
              rw [if_pos (by rfl)]
              refine wp_alloc_row 103 rfl (arr (flat (pair zeros zeros))) zero_pair.1 ?_
              have b0_250 := Lib.hid (Blk.alloc (b0_200.out) (.cells (arr (flat (pair zeros zeros))) 103))
              have b1_251 := Lib.hid (Blk.alloc (b1_201.out) (.cells (arr (flat (pair zeros zeros))) 103))
              have bel_252 := Lib.hid (Below.alloc (bel_202.out) ((bel_202.out).size) (.cells (arr (flat (pair zeros zeros))) 103))
              have rd_253 := Lib.hid (RdB.alloc (rd_203.out) (.cells (arr (flat (pair zeros zeros))) 103))
              have rr_254 := Lib.hid (RdB.alloc (rr_204.out) (.cells (arr (flat (pair zeros zeros))) 103))
              have x_255 := Lib.hid (Blk.alloc (x_208.out) (.cells (arr (flat (pair zeros zeros))) 103))
              have ne256 := Lib.hid (Nat.ne_of_lt (Blk.lt b0_200.out))
              have ne257 := Lib.hid (Nat.ne_of_lt (Blk.lt b1_201.out))
              have lb258 := Lib.hid (bel_202.out.size)
              have ne259 := Lib.hid (Nat.ne_of_lt (Blk.lt x_208.out))
              have y_260 := Lib.hid (Blk.new (w198) 103 (arr (flat (pair zeros zeros))))
              obtain ⟨g246, hg247⟩ : ∃ g, g = (w198).heap.size := ⟨_, rfl⟩
              obtain ⟨w248, hw249⟩ : ∃ w', w' = (w198).alloc (.cells (arr (flat (pair zeros zeros))) 103) := ⟨_, rfl⟩
              rw [← hw249] at b0_250 b1_251 bel_252 rd_253 rr_254 x_255 y_260
              rw [← hg247] at ne256 ne257 lb258 ne259 y_260
              rw [← hg247, ← hw249]
              clear hg247 hw249
              refine hK.out _ _ ⟨b0_250.out, b1_251.out⟩ (fun _ => ?_); clear hK K
              try simp only [Act.put, List.setIfInBounds_toArray, List.set_cons_zero, List.set_cons_succ]
              refine wpAnyH_ready (rs := [5]) (by kernel_rfl) (by simp) ?_
              refine AllReadyH.cons (o := { dst := some 39, op := Go.Op.call { callee := Go.Callee.value (Go.Operand.func 94), args := #[Go.Operand.tmp 37, Go.Operand.tmp 38], argTypes := #[70, 3] }, type := 103, pos := "solve.go:190", after := #[{ on := 3, ground := Go.Ground.data }, { on := 4, ground := Go.Ground.data }, { on := 2, ground := Go.Ground.chain }], guard := none }) rfl (fun K hK => ?_) ?_
              · -- 5: call
                go_simp
                go_at_call 94
                refine (HE2.out _ rr_254.out).mono ?_
                rintro e w261 ⟨rfl, hb262⟩
                dsimp only
                have b0_263 := Lib.hid (Blk.keep (b0_250.out) hb262)
                have b1_264 := Lib.hid (Blk.keep (b1_251.out) hb262)
                have bel_265 := Lib.hid (Below.trans (bel_252.out) (Below.mono hb262 ((bel_252.out).size)))
                have rd_266 := Lib.hid (RdB.below (rd_253.out) hb262)
                have rr_267 := Lib.hid (RdB.below (rr_254.out) hb262)
                have x_268 := Lib.hid (Blk.keep (x_255.out) hb262)
                have y_269 := Lib.hid (Blk.keep (y_260.out) hb262)
                refine hK.out _ _ ⟨b0_263.out, b1_264.out⟩ (fun _ => ?_); clear hK K
                try simp only [Act.put, List.setIfInBounds_toArray, List.set_cons_zero, List.set_cons_succ]
                refine wpAnyH_ready (rs := [8]) (by kernel_rfl) (by simp) ?_
                refine AllReadyH.cons (o := { dst := none, op := Go.Op.store 103 (Go.Operand.tmp 11) (Go.Operand.tmp 36), type := 0, pos := "solve.go:190", after := #[{ on := 6, ground := Go.Ground.data }, { on := 2, ground := Go.Ground.data }, { on := 5, ground := Go.Ground.chain }, { on := 0, ground := Go.Ground.phase }, { on := 1, ground := Go.Ground.phase }, { on := 2, ground := Go.Ground.phase }, { on := 3, ground := Go.Ground.textOnly Go.Departure.lateStores }, { on := 4, ground := Go.Ground.textOnly Go.Departure.lateStores }, { on := 5, ground := Go.Ground.textOnly Go.Departure.lateStoresUnsure }, { on := 6, ground := Go.Ground.phase }, { on := 7, ground := Go.Ground.phase }], guard := none }) rfl (fun K hK => ?_) ?_
                · -- 8: store
                  rw [if_pos (by rfl)]
                  refine wp_store_row 103 (.tmp 11) (.tmp 36) rfl _ (arr (flat (pair x0 x1))) rfl rfl 103 (arr (flat (pair zeros zeros))) x_268.out (size_pair HX0.out HX1.out) (by rw [arr_size, arr_size, pair_length rfl rfl, pair_length HX0.out HX1.out]) (arr_one _) ?_
                  have b0_272 := Lib.hid (Blk.rowFar (b0_263.out) (ne205.out) (arr (flat (pair x0 x1))))
                  have b1_273 := Lib.hid (Blk.rowFar (b1_264.out) (ne206.out) (arr (flat (pair x0 x1))))
                  have bel_274 := Lib.hid (below_setRow (bel_265.out) (lb207.out) (arr (flat (pair x0 x1))))
                  have x_275 := Lib.hid (Blk.row (x_268.out) (arr (flat (pair x0 x1))))
                  have y_276 := Lib.hid (Blk.rowFar (y_269.out) ((Ne.symm ne259.out)) (arr (flat (pair x0 x1))))
                  obtain ⟨w270, hw271⟩ : ∃ w', w' = (w261).setRow g196 (arr (flat (pair x0 x1))) := ⟨_, rfl⟩
                  rw [← hw271] at b0_272 b1_273 bel_274 x_275 y_276
                  rw [← hw271]
                  clear hw271
                  refine hK.out _ _ ⟨b0_272.out, b1_273.out⟩ (fun _ => ?_); clear hK K
                  try simp only [Act.put, List.setIfInBounds_toArray, List.set_cons_zero, List.set_cons_succ]
                  refine wpAnyH_ready (rs := [9]) (by kernel_rfl) (by simp) ?_
                  refine AllReadyH.cons (o := { dst := none, op := Go.Op.store 103 (Go.Operand.tmp 12) (Go.Operand.tmp 39), type := 0, pos := "solve.go:190", after := #[{ on := 7, ground := Go.Ground.data }, { on := 5, ground := Go.Ground.data }, { on := 8, ground := Go.Ground.chain }, { on := 0, ground := Go.Ground.phase }, { on := 1, ground := Go.Ground.phase }, { on := 2, ground := Go.Ground.phase }, { on := 3, ground := Go.Ground.phase }, { on := 4, ground := Go.Ground.phase }, { on := 5, ground := Go.Ground.phase }, { on := 6, ground := Go.Ground.phase }, { on := 7, ground := Go.Ground.phase }, { on := 8, ground := Go.Ground.phase }], guard := none }) rfl (fun K hK => ?_) ?_
                  · -- 9: store
                    rw [if_pos (by rfl)]
                    refine wp_store_row 103 (.tmp 12) (.tmp 39) rfl _ (arr (flat (pair y0 y1))) rfl rfl 103 (arr (flat (pair zeros zeros))) y_276.out (size_pair HY0.out HY1.out) (by rw [arr_size, arr_size, pair_length rfl rfl, pair_length HY0.out HY1.out]) (arr_one _) ?_
                    have b0_279 := Lib.hid (Blk.rowFar (b0_272.out) (ne256.out) (arr (flat (pair y0 y1))))
                    have b1_280 := Lib.hid (Blk.rowFar (b1_273.out) (ne257.out) (arr (flat (pair y0 y1))))
                    have bel_281 := Lib.hid (below_setRow (bel_274.out) (lb258.out) (arr (flat (pair y0 y1))))
                    have x_282 := Lib.hid (Blk.rowFar (x_275.out) (ne259.out) (arr (flat (pair y0 y1))))
                    have y_283 := Lib.hid (Blk.row (y_276.out) (arr (flat (pair y0 y1))))
                    obtain ⟨w277, hw278⟩ : ∃ w', w' = (w270).setRow g246 (arr (flat (pair y0 y1))) := ⟨_, rfl⟩
                    rw [← hw278] at b0_279 b1_280 bel_281 x_282 y_283
                    rw [← hw278]
                    clear hw278
                    refine hK.out _ _ ⟨b0_279.out, b1_280.out⟩ (fun _ => ?_); clear hK K
                    try simp only [Act.put, List.setIfInBounds_toArray, List.set_cons_zero, List.set_cons_succ]
                    refine wpAnyH_done (by kernel_rfl) ?_ _
                    go_wp2
                    go_meet
                    exact ⟨_, _, rfl, rfl, x_282.out, y_283.out, b0_279.out, bel_281.out⟩
                  exact AllReadyH.nil
                exact AllReadyH.nil
              exact AllReadyH.nil
            exact AllReadyH.nil
          refine AllReadyH.cons (o := { dst := some 12, op := Go.Op.alloc 103, type := 0, pos := "solve.go:190", after := #[], guard := none }) rfl (fun K hK => ?_) ?_
          · -- 7: alloc
            rw [if_pos (by rfl)]
            refine wp_alloc_row 103 rfl (arr (flat (pair zeros zeros))) zero_pair.1 ?_
            have b0_288 := Lib.hid (Blk.alloc (b0_100.out) (.cells (arr (flat (pair zeros zeros))) 103))
            have b1_289 := Lib.hid (Blk.alloc (b1_101.out) (.cells (arr (flat (pair zeros zeros))) 103))
            have bel_290 := Lib.hid (Below.alloc (bel_102.out) ((bel_102.out).size) (.cells (arr (flat (pair zeros zeros))) 103))
            have rd_291 := Lib.hid (RdB.alloc (rd_103.out) (.cells (arr (flat (pair zeros zeros))) 103))
            have rr_292 := Lib.hid (RdB.alloc (rr_104.out) (.cells (arr (flat (pair zeros zeros))) 103))
            have ne293 := Lib.hid (Nat.ne_of_lt (Blk.lt b0_100.out))
            have ne294 := Lib.hid (Nat.ne_of_lt (Blk.lt b1_101.out))
            have lb295 := Lib.hid (bel_102.out.size)
            have y_296 := Lib.hid (Blk.new (w98) 103 (arr (flat (pair zeros zeros))))
            obtain ⟨g284, hg285⟩ : ∃ g, g = (w98).heap.size := ⟨_, rfl⟩
            obtain ⟨w286, hw287⟩ : ∃ w', w' = (w98).alloc (.cells (arr (flat (pair zeros zeros))) 103) := ⟨_, rfl⟩
            rw [← hw287] at b0_288 b1_289 bel_290 rd_291 rr_292 y_296
            rw [← hg285] at ne293 ne294 lb295 y_296
            rw [← hg285, ← hw287]
            clear hg285 hw287
            refine hK.out _ _ ⟨b0_288.out, b1_289.out⟩ (fun _ => ?_); clear hK K
            try simp only [Act.put, List.setIfInBounds_toArray, List.set_cons_zero, List.set_cons_succ]
            refine wpAnyH_ready (rs := [5, 6]) (by kernel_rfl) (by simp) ?_
            refine AllReadyH.cons (o := { dst := some 39, op := Go.Op.call { callee := Go.Callee.value (Go.Operand.func 94), args := #[Go.Operand.tmp 37, Go.Operand.tmp 38], argTypes := #[70, 3] }, type := 103, pos := "solve.go:190", after := #[{ on := 3, ground := Go.Ground.data }, { on := 4, ground := Go.Ground.data }, { on := 2, ground := Go.Ground.chain }], guard := none }) rfl (fun K hK => ?_) ?_
            · -- 5: call
              go_simp
              go_at_call 94
              refine (HE2.out _ rr_292.out).mono ?_
              rintro e w297 ⟨rfl, hb298⟩
              dsimp only
              have b0_299 := Lib.hid (Blk.keep (b0_288.out) hb298)
              have b1_300 := Lib.hid (Blk.keep (b1_289.out) hb298)
              have bel_301 := Lib.hid (Below.trans (bel_290.out) (Below.mono hb298 ((bel_290.out).size)))
              have rd_302 := Lib.hid (RdB.below (rd_291.out) hb298)
              have rr_303 := Lib.hid (RdB.below (rr_292.out) hb298)
              have y_304 := Lib.hid (Blk.keep (y_296.out) hb298)
              refine hK.out _ _ ⟨b0_299.out, b1_300.out⟩ (fun _ => ?_); clear hK K
              try simp only [Act.put, List.setIfInBounds_toArray, List.set_cons_zero, List.set_cons_succ]
              refine wpAnyH_ready (rs := [6]) (by kernel_rfl) (by simp) ?_
              refine AllReadyH.cons (o := { dst := some 11, op := Go.Op.alloc 103, type := 0, pos := "solve.go:190", after := #[], guard := none }) rfl (fun K hK => ?_) ?_
              · -- 6: alloc
                rw [if_pos (by rfl)]
                refine wp_alloc_row 103 rfl (arr (flat (pair zeros zeros))) zero_pair.1 ?_
                have b0_309 := Lib.hid (Blk.alloc (b0_299.out) (.cells (arr (flat (pair zeros zeros))) 103))
                have b1_310 := Lib.hid (Blk.alloc (b1_300.out) (.cells (arr (flat (pair zeros zeros))) 103))
                have bel_311 := Lib.hid (Below.alloc (bel_301.out) ((bel_301.out).size) (.cells (arr (flat (pair zeros zeros))) 103))
                have rd_312 := Lib.hid (RdB.alloc (rd_302.out) (.cells (arr (flat (pair zeros zeros))) 103))
                have rr_313 := Lib.hid (RdB.alloc (rr_303.out) (.cells (arr (flat (pair zeros zeros))) 103))
                have y_314 := Lib.hid (Blk.alloc (y_304.out) (.cells (arr (flat (pair zeros zeros))) 103))
                have ne315 := Lib.hid (Nat.ne_of_lt (Blk.lt b0_299.out))
                have ne316 := Lib.hid (Nat.ne_of_lt (Blk.lt b1_300.out))
                have lb317 := Lib.hid (bel_301.out.size)
                have ne318 := Lib.hid (Nat.ne_of_lt (Blk.lt y_304.out))
                have x_319 := Lib.hid (Blk.new (w297) 103 (arr (flat (pair zeros zeros))))
                obtain ⟨g305, hg306⟩ : ∃ g, g = (w297).heap.size := ⟨_, rfl⟩
                obtain ⟨w307, hw308⟩ : ∃ w', w' = (w297).alloc (.cells (arr (flat (pair zeros zeros))) 103) := ⟨_, rfl⟩
                rw [← hw308] at b0_309 b1_310 bel_311 rd_312 rr_313 y_314 x_319
                rw [← hg306] at ne315 ne316 lb317 ne318 x_319
                rw [← hg306, ← hw308]
                clear hg306 hw308
                refine hK.out _ _ ⟨b0_309.out, b1_310.out⟩ (fun _ => ?_); clear hK K
                try simp only [Act.put, List.setIfInBounds_toArray, List.set_cons_zero, List.set_cons_succ]
                refine wpAnyH_ready (rs := [8]) (by kernel_rfl) (by simp) ?_
                refine AllReadyH.cons (o := { dst := none, op := Go.Op.store 103 (Go.Operand.tmp 11) (Go.Operand.tmp 36), type := 0, pos := "solve.go:190", after := #[{ on := 6, ground := Go.Ground.data }, { on := 2, ground := Go.Ground.data }, { on := 5, ground := Go.Ground.chain }, { on := 0, ground := Go.Ground.phase }, { on := 1, ground := Go.Ground.phase }, { on := 2, ground := Go.Ground.phase }, { on := 3, ground := Go.Ground.textOnly Go.Departure.lateStores }, { on := 4, ground := Go.Ground.textOnly Go.Departure.lateStores }, { on := 5, ground := Go.Ground.textOnly Go.Departure.lateStoresUnsure }, { on := 6, ground := Go.Ground.phase }, { on := 7, ground := Go.Ground.phase }], guard := none }) rfl (fun K hK => ?_) ?_
                · -- 8: store
                  rw [if_pos (by rfl)]
                  refine wp_store_row 103 (.tmp 11) (.tmp 36) rfl _ (arr (flat (pair x0 x1))) rfl rfl 103 (arr (flat (pair zeros zeros))) x_319.out (size_pair HX0.out HX1.out) (by rw [arr_size, arr_size, pair_length rfl rfl, pair_length HX0.out HX1.out]) (arr_one _) ?_
                  have b0_322 := Lib.hid (Blk.rowFar (b0_309.out) (ne315.out) (arr (flat (pair x0 x1))))
                  have b1_323 := Lib.hid (Blk.rowFar (b1_310.out) (ne316.out) (arr (flat (pair x0 x1))))
                  have bel_324 := Lib.hid (below_setRow (bel_311.out) (lb317.out) (arr (flat (pair x0 x1))))
                  have y_325 := Lib.hid (Blk.rowFar (y_314.out) (ne318.out) (arr (flat (pair x0 x1))))
                  have x_326 := Lib.hid (Blk.row (x_319.out) (arr (flat (pair x0 x1))))
                  obtain ⟨w320, hw321⟩ : ∃ w', w' = (w307).setRow g305 (arr (flat (pair x0 x1))) := ⟨_, rfl⟩
                  rw [← hw321] at b0_322 b1_323 bel_324 y_325 x_326
                  rw [← hw321]
                  clear hw321
                  refine hK.out _ _ ⟨b0_322.out, b1_323.out⟩ (fun _ => ?_); clear hK K
                  try simp only [Act.put, List.setIfInBounds_toArray, List.set_cons_zero, List.set_cons_succ]
                  refine wpAnyH_ready (rs := [9]) (by kernel_rfl) (by simp) ?_
                  refine AllReadyH.cons (o := { dst := none, op := Go.Op.store 103 (Go.Operand.tmp 12) (Go.Operand.tmp 39), type := 0, pos := "solve.go:190", after := #[{ on := 7, ground := Go.Ground.data }, { on := 5, ground := Go.Ground.data }, { on := 8, ground := Go.Ground.chain }, { on := 0, ground := Go.Ground.phase }, { on := 1, ground := Go.Ground.phase }, { on := 2, ground := Go.Ground.phase }, { on := 3, ground := Go.Ground.phase }, { on := 4, ground := Go.Ground.phase }, { on := 5, ground := Go.Ground.phase }, { on := 6, ground := Go.Ground.phase }, { on := 7, ground := Go.Ground.phase }, { on := 8, ground := Go.Ground.phase }], guard := none }) rfl (fun K hK => ?_) ?_
                  · -- 9: store
                    rw [if_pos (by rfl)]
                    refine wp_store_row 103 (.tmp 12) (.tmp 39) rfl _ (arr (flat (pair y0 y1))) rfl rfl 103 (arr (flat (pair zeros zeros))) y_325.out (size_pair HY0.out HY1.out) (by rw [arr_size, arr_size, pair_length rfl rfl, pair_length HY0.out HY1.out]) (arr_one _) ?_
                    have b0_329 := Lib.hid (Blk.rowFar (b0_322.out) (ne293.out) (arr (flat (pair y0 y1))))
                    have b1_330 := Lib.hid (Blk.rowFar (b1_323.out) (ne294.out) (arr (flat (pair y0 y1))))
                    have bel_331 := Lib.hid (below_setRow (bel_324.out) (lb295.out) (arr (flat (pair y0 y1))))
                    have y_332 := Lib.hid (Blk.row (y_325.out) (arr (flat (pair y0 y1))))
                    have x_333 := Lib.hid (Blk.rowFar (x_326.out) ((Ne.symm ne318.out)) (arr (flat (pair y0 y1))))
                    obtain ⟨w327, hw328⟩ : ∃ w', w' = (w320).setRow g284 (arr (flat (pair y0 y1))) := ⟨_, rfl⟩
                    rw [← hw328] at b0_329 b1_330 bel_331 y_332 x_333
                    rw [← hw328]
                    clear hw328
                    refine hK.out _ _ ⟨b0_329.out, b1_330.out⟩ (fun _ => ?_); clear hK K
                    try simp only [Act.put, List.setIfInBounds_toArray, List.set_cons_zero, List.set_cons_succ]
                    refine wpAnyH_done (by kernel_rfl) ?_ _
                    go_wp2
                    go_meet
                    exact ⟨_, _, rfl, rfl, x_333.out, y_332.out, b0_329.out, bel_331.out⟩
                  exact AllReadyH.nil
                exact AllReadyH.nil
              exact AllReadyH.nil
            refine AllReadyH.cons (o := { dst := some 11, op := Go.Op.alloc 103, type := 0, pos := "solve.go:190", after := #[], guard := none }) rfl (fun K hK => ?_) ?_
            · -- 6: alloc
              rw [if_pos (by rfl)]
              refine wp_alloc_row 103 rfl (arr (flat (pair zeros zeros))) zero_pair.1 ?_
              have b0_338 := Lib.hid (Blk.alloc (b0_288.out) (.cells (arr (flat (pair zeros zeros))) 103))
              have b1_339 := Lib.hid (Blk.alloc (b1_289.out) (.cells (arr (flat (pair zeros zeros))) 103))
              have bel_340 := Lib.hid (Below.alloc (bel_290.out) ((bel_290.out).size) (.cells (arr (flat (pair zeros zeros))) 103))
              have rd_341 := Lib.hid (RdB.alloc (rd_291.out) (.cells (arr (flat (pair zeros zeros))) 103))
              have rr_342 := Lib.hid (RdB.alloc (rr_292.out) (.cells (arr (flat (pair zeros zeros))) 103))
              have y_343 := Lib.hid (Blk.alloc (y_296.out) (.cells (arr (flat (pair zeros zeros))) 103))
              have ne344 := Lib.hid (Nat.ne_of_lt (Blk.lt b0_288.out))
              have ne345 := Lib.hid (Nat.ne_of_lt (Blk.lt b1_289.out))
              have lb346 := Lib.hid (bel_290.out.size)
              have ne347 := Lib.hid (Nat.ne_of_lt (Blk.lt y_296.out))
              have x_348 := Lib.hid (Blk.new (w286) 103 (arr (flat (pair zeros zeros))))
              obtain ⟨g334, hg335⟩ : ∃ g, g = (w286).heap.size := ⟨_, rfl⟩
              obtain ⟨w336, hw337⟩ : ∃ w', w' = (w286).alloc (.cells (arr (flat (pair zeros zeros))) 103) := ⟨_, rfl⟩
              rw [← hw337] at b0_338 b1_339 bel_340 rd_341 rr_342 y_343 x_348
              rw [← hg335] at ne344 ne345 lb346 ne347 x_348
              rw [← hg335, ← hw337]
              clear hg335 hw337
              refine hK.out _ _ ⟨b0_338.out, b1_339.out⟩ (fun _ => ?_); clear hK K
              try simp only [Act.put, List.setIfInBounds_toArray, List.set_cons_zero, List.set_cons_succ]
              refine wpAnyH_ready (rs := [5]) (by kernel_rfl) (by simp) ?_
              refine AllReadyH.cons (o := { dst := some 39, op := Go.Op.call { callee := Go.Callee.value (Go.Operand.func 94), args := #[Go.Operand.tmp 37, Go.Operand.tmp 38], argTypes := #[70, 3] }, type := 103, pos := "solve.go:190", after := #[{ on := 3, ground := Go.Ground.data }, { on := 4, ground := Go.Ground.data }, { on := 2, ground := Go.Ground.chain }], guard := none }) rfl (fun K hK => ?_) ?_
              · -- 5: call
                go_simp
                go_at_call 94
                refine (HE2.out _ rr_342.out).mono ?_
                rintro e w349 ⟨rfl, hb350⟩
                dsimp only
                have b0_351 := Lib.hid (Blk.keep (b0_338.out) hb350)
                have b1_352 := Lib.hid (Blk.keep (b1_339.out) hb350)
                have bel_353 := Lib.hid (Below.trans (bel_340.out) (Below.mono hb350 ((bel_340.out).size)))
                have rd_354 := Lib.hid (RdB.below (rd_341.out) hb350)
                have rr_355 := Lib.hid (RdB.below (rr_342.out) hb350)
                have y_356 := Lib.hid (Blk.keep (y_343.out) hb350)
                have x_357 := Lib.hid (Blk.keep (x_348.out) hb350)
                refine hK.out _ _ ⟨b0_351.out, b1_352.out⟩ (fun _ => ?_); clear hK K
                try simp only [Act.put, List.setIfInBounds_toArray, List.set_cons_zero, List.set_cons_succ]
                refine wpAnyH_ready (rs := [8]) (by kernel_rfl) (by simp) ?_
                refine AllReadyH.cons (o := { dst := none, op := Go.Op.store 103 (Go.Operand.tmp 11) (Go.Operand.tmp 36), type := 0, pos := "solve.go:190", after := #[{ on := 6, ground := Go.Ground.data }, { on := 2, ground := Go.Ground.data }, { on := 5, ground := Go.Ground.chain }, { on := 0, ground := Go.Ground.phase }, { on := 1, ground := Go.Ground.phase }, { on := 2, ground := Go.Ground.phase }, { on := 3, ground := Go.Ground.textOnly Go.Departure.lateStores }, { on := 4, ground := Go.Ground.textOnly Go.Departure.lateStores }, { on := 5, ground := Go.Ground.textOnly Go.Departure.lateStoresUnsure }, { on := 6, ground := Go.Ground.phase }, { on := 7, ground := Go.Ground.phase }], guard := none }) rfl (fun K hK => ?_) ?_
                · -- 8: store
                  rw [if_pos (by rfl)]
                  refine wp_store_row 103 (.tmp 11) (.tmp 36) rfl _ (arr (flat (pair x0 x1))) rfl rfl 103 (arr (flat (pair zeros zeros))) x_357.out (size_pair HX0.out HX1.out) (by rw [arr_size, arr_size, pair_length rfl rfl, pair_length HX0.out HX1.out]) (arr_one _) ?_
                  have b0_360 := Lib.hid (Blk.rowFar (b0_351.out) (ne344.out) (arr (flat (pair x0 x1))))
                  have b1_361 := Lib.hid (Blk.rowFar (b1_352.out) (ne345.out) (arr (flat (pair x0 x1))))
                  have bel_362 := Lib.hid (below_setRow (bel_353.out) (lb346.out) (arr (flat (pair x0 x1))))
                  have y_363 := Lib.hid (Blk.rowFar (y_356.out) (ne347.out) (arr (flat (pair x0 x1))))
                  have x_364 := Lib.hid (Blk.row (x_357.out) (arr (flat (pair x0 x1))))
                  obtain ⟨w358, hw359⟩ : ∃ w', w' = (w349).setRow g334 (arr (flat (pair x0 x1))) := ⟨_, rfl⟩
                  rw [← hw359] at b0_360 b1_361 bel_362 y_363 x_364
                  rw [← hw359]
                  clear hw359
                  refine hK.out _ _ ⟨b0_360.out, b1_361.out⟩ (fun _ => ?_); clear hK K
                  try simp only [Act.put, List.setIfInBounds_toArray, List.set_cons_zero, List.set_cons_succ]
                  refine wpAnyH_ready (rs := [9]) (by kernel_rfl) (by simp) ?_
                  refine AllReadyH.cons (o := { dst := none, op := Go.Op.store 103 (Go.Operand.tmp 12) (Go.Operand.tmp 39), type := 0, pos := "solve.go:190", after := #[{ on := 7, ground := Go.Ground.data }, { on := 5, ground := Go.Ground.data }, { on := 8, ground := Go.Ground.chain }, { on := 0, ground := Go.Ground.phase }, { on := 1, ground := Go.Ground.phase }, { on := 2, ground := Go.Ground.phase }, { on := 3, ground := Go.Ground.phase }, { on := 4, ground := Go.Ground.phase }, { on := 5, ground := Go.Ground.phase }, { on := 6, ground := Go.Ground.phase }, { on := 7, ground := Go.Ground.phase }, { on := 8, ground := Go.Ground.phase }], guard := none }) rfl (fun K hK => ?_) ?_
                  · -- 9: store
                    rw [if_pos (by rfl)]
                    refine wp_store_row 103 (.tmp 12) (.tmp 39) rfl _ (arr (flat (pair y0 y1))) rfl rfl 103 (arr (flat (pair zeros zeros))) y_363.out (size_pair HY0.out HY1.out) (by rw [arr_size, arr_size, pair_length rfl rfl, pair_length HY0.out HY1.out]) (arr_one _) ?_
                    have b0_367 := Lib.hid (Blk.rowFar (b0_360.out) (ne293.out) (arr (flat (pair y0 y1))))
                    have b1_368 := Lib.hid (Blk.rowFar (b1_361.out) (ne294.out) (arr (flat (pair y0 y1))))
                    have bel_369 := Lib.hid (below_setRow (bel_362.out) (lb295.out) (arr (flat (pair y0 y1))))
                    have y_370 := Lib.hid (Blk.row (y_363.out) (arr (flat (pair y0 y1))))
                    have x_371 := Lib.hid (Blk.rowFar (x_364.out) ((Ne.symm ne347.out)) (arr (flat (pair y0 y1))))
                    obtain ⟨w365, hw366⟩ : ∃ w', w' = (w358).setRow g284 (arr (flat (pair y0 y1))) := ⟨_, rfl⟩
                    rw [← hw366] at b0_367 b1_368 bel_369 y_370 x_371
                    rw [← hw366]
                    clear hw366
                    refine hK.out _ _ ⟨b0_367.out, b1_368.out⟩ (fun _ => ?_); clear hK K
                    try simp only [Act.put, List.setIfInBounds_toArray, List.set_cons_zero, List.set_cons_succ]
                    refine wpAnyH_done (by kernel_rfl) ?_ _
                    go_wp2
                    go_meet
                    exact ⟨_, _, rfl, rfl, x_371.out, y_370.out, b0_367.out, bel_369.out⟩
                  exact AllReadyH.nil
                exact AllReadyH.nil
              exact AllReadyH.nil
            exact AllReadyH.nil
          exact AllReadyH.nil
        refine AllReadyH.cons (o := { dst := some 11, op := Go.Op.alloc 103, type := 0, pos := "solve.go:190", after := #[], guard := none }) rfl (fun K hK => ?_) ?_
        · -- 6: alloc
          rw [if_pos (by rfl)]
          refine wp_alloc_row 103 rfl (arr (flat (pair zeros zeros))) zero_pair.1 ?_
          have b0_376 := Lib.hid (Blk.alloc (C0.out) (.cells (arr (flat (pair zeros zeros))) 103))
          have b1_377 := Lib.hid (Blk.alloc (C1.out) (.cells (arr (flat (pair zeros zeros))) 103))
          have bel_378 := Lib.hid (Below.alloc (HBE.out) ((HBE.out).size) (.cells (arr (flat (pair zeros zeros))) 103))
          have rd_379 := Lib.hid (RdB.alloc (RD1.out) (.cells (arr (flat (pair zeros zeros))) 103))
          have rr_380 := Lib.hid (RdB.alloc (RD2.out) (.cells (arr (flat (pair zeros zeros))) 103))
          have ne381 := Lib.hid (Nat.ne_of_lt (Blk.lt C0.out))
          have ne382 := Lib.hid (Nat.ne_of_lt (Blk.lt C1.out))
          have lb383 := Lib.hid (HBE.out.size)
          have x_384 := Lib.hid (Blk.new (w92) 103 (arr (flat (pair zeros zeros))))
          obtain ⟨g372, hg373⟩ : ∃ g, g = (w92).heap.size := ⟨_, rfl⟩
          obtain ⟨w374, hw375⟩ : ∃ w', w' = (w92).alloc (.cells (arr (flat (pair zeros zeros))) 103) := ⟨_, rfl⟩
          rw [← hw375] at b0_376 b1_377 bel_378 rd_379 rr_380 x_384
          rw [← hg373] at ne381 ne382 lb383 x_384
          rw [← hg373, ← hw375]
          clear hg373 hw375
          refine hK.out _ _ ⟨b0_376.out, b1_377.out⟩ (fun _ => ?_); clear hK K
          try simp only [Act.put, List.setIfInBounds_toArray, List.set_cons_zero, List.set_cons_succ]
          refine wpAnyH_ready (rs := [2, 7]) (by kernel_rfl) (by simp) ?_
          refine AllReadyH.cons (o := { dst := some 36, op := Go.Op.call { callee := Go.Callee.value (Go.Operand.func 94), args := #[Go.Operand.tmp 34, Go.Operand.tmp 35], argTypes := #[70, 3] }, type := 103, pos := "solve.go:190", after := #[{ on := 0, ground := Go.Ground.data }, { on := 1, ground := Go.Ground.data }], guard := none }) rfl (fun K hK => ?_) ?_
          · -- 2: call
            go_simp
            go_at_call 94
            refine (HE1.out _ rd_379.out).mono ?_
            rintro e w385 ⟨rfl, hb386⟩
            dsimp only
            have b0_387 := Lib.hid (Blk.keep (b0_376.out) hb386)
            have b1_388 := Lib.hid (Blk.keep (b1_377.out) hb386)
            have bel_389 := Lib.hid (Below.trans (bel_378.out) (Below.mono hb386 ((bel_378.out).size)))
            have rd_390 := Lib.hid (RdB.below (rd_379.out) hb386)
            have rr_391 := Lib.hid (RdB.below (rr_380.out) hb386)
            have x_392 := Lib.hid (Blk.keep (x_384.out) hb386)
            refine hK.out _ _ ⟨b0_387.out, b1_388.out⟩ (fun _ => ?_); clear hK K
            try simp only [Act.put, List.setIfInBounds_toArray, List.set_cons_zero, List.set_cons_succ]
            refine wpAnyH_ready (rs := [5, 7]) (by kernel_rfl) (by simp) ?_
            refine AllReadyH.cons (o := { dst := some 39, op := Go.Op.call { callee := Go.Callee.value (Go.Operand.func 94), args := #[Go.Operand.tmp 37, Go.Operand.tmp 38], argTypes := #[70, 3] }, type := 103, pos := "solve.go:190", after := #[{ on := 3, ground := Go.Ground.data }, { on := 4, ground := Go.Ground.data }, { on := 2, ground := Go.Ground.chain }], guard := none }) rfl (fun K hK => ?_) ?_
            · -- 5: call
              go_simp
              go_at_call 94
              refine (HE2.out _ rr_391.out).mono ?_
              rintro e w393 ⟨rfl, hb394⟩
              dsimp only
              have b0_395 := Lib.hid (Blk.keep (b0_387.out) hb394)
              have b1_396 := Lib.hid (Blk.keep (b1_388.out) hb394)
              have bel_397 := Lib.hid (Below.trans (bel_389.out) (Below.mono hb394 ((bel_389.out).size)))
              have rd_398 := Lib.hid (RdB.below (rd_390.out) hb394)
              have rr_399 := Lib.hid (RdB.below (rr_391.out) hb394)
              have x_400 := Lib.hid (Blk.keep (x_392.out) hb394)
              refine hK.out _ _ ⟨b0_395.out, b1_396.out⟩ (fun _ => ?_); clear hK K
              try simp only [Act.put, List.setIfInBounds_toArray, List.set_cons_zero, List.set_cons_succ]
              refine wpAnyH_ready (rs := [7]) (by kernel_rfl) (by simp) ?_
              refine AllReadyH.cons (o := { dst := some 12, op := Go.Op.alloc 103, type := 0, pos := "solve.go:190", after := #[], guard := none }) rfl (fun K hK => ?_) ?_
              · -- 7: alloc
                rw [if_pos (by rfl)]
                refine wp_alloc_row 103 rfl (arr (flat (pair zeros zeros))) zero_pair.1 ?_
                have b0_405 := Lib.hid (Blk.alloc (b0_395.out) (.cells (arr (flat (pair zeros zeros))) 103))
                have b1_406 := Lib.hid (Blk.alloc (b1_396.out) (.cells (arr (flat (pair zeros zeros))) 103))
                have bel_407 := Lib.hid (Below.alloc (bel_397.out) ((bel_397.out).size) (.cells (arr (flat (pair zeros zeros))) 103))
                have rd_408 := Lib.hid (RdB.alloc (rd_398.out) (.cells (arr (flat (pair zeros zeros))) 103))
                have rr_409 := Lib.hid (RdB.alloc (rr_399.out) (.cells (arr (flat (pair zeros zeros))) 103))
                have x_410 := Lib.hid (Blk.alloc (x_400.out) (.cells (arr (flat (pair zeros zeros))) 103))
                have ne411 := Lib.hid (Nat.ne_of_lt (Blk.lt b0_395.out))
                have ne412 := Lib.hid (Nat.ne_of_lt (Blk.lt b1_396.out))
                have lb413 := Lib.hid (bel_397.out.size)
                have ne414 := Lib.hid (Nat.ne_of_lt (Blk.lt x_400.out))
                have y_415 := Lib.hid (Blk.new (w393) 103 (arr (flat (pair zeros zeros))))
                obtain ⟨g401, hg402⟩ : ∃ g, g = (w393).heap.size := ⟨_, rfl⟩
                obtain ⟨w403, hw404⟩ : ∃ w', w' = (w393).alloc (.cells (arr (flat (pair zeros zeros))) 103) := ⟨_, rfl⟩
                rw [← hw404] at b0_405 b1_406 bel_407 rd_408 rr_409 x_410 y_415
                rw [← hg402] at ne411 ne412 lb413 ne414 y_415
                rw [← hg402, ← hw404]
                clear hg402 hw404
                refine hK.out _ _ ⟨b0_405.out, b1_406.out⟩ (fun _ => ?_); clear hK K
                try simp only [Act.put, List.setIfInBounds_toArray, List.set_cons_zero, List.set_cons_succ]
                refine wpAnyH_ready (rs := [8]) (by kernel_rfl) (by simp) ?_
                refine AllReadyH.cons (o := { dst := none, op := Go.Op.store 103 (Go.Operand.tmp 11) (Go.Operand.tmp 36), type := 0, pos := "solve.go:190", after := #[{ on := 6, ground := Go.Ground.data }, { on := 2, ground := Go.Ground.data }, { on := 5, ground := Go.Ground.chain }, { on := 0, ground := Go.Ground.phase }, { on := 1, ground := Go.Ground.phase }, { on := 2, ground := Go.Ground.phase }, { on := 3, ground := Go.Ground.textOnly Go.Departure.lateStores }, { on := 4, ground := Go.Ground.textOnly Go.Departure.lateStores }, { on := 5, ground := Go.Ground.textOnly Go.Departure.lateStoresUnsure }, { on := 6, ground := Go.Ground.phase }, { on := 7, ground := Go.Ground.phase }], guard := none }) rfl (fun K hK => ?_) ?_
                · -- 8: store
                  rw [if_pos (by rfl)]
                  refine wp_store_row 103 (.tmp 11) (.tmp 36) rfl _ (arr (flat (pair x0 x1))) rfl rfl 103 (arr (flat (pair zeros zeros))) x_410.out (size_pair HX0.out HX1.out) (by rw [arr_size, arr_size, pair_length rfl rfl, pair_length HX0.out HX1.out]) (arr_one _) ?_
                  have b0_418 := Lib.hid (Blk.rowFar (b0_405.out) (ne381.out) (arr (flat (pair x0 x1))))
                  have b1_419 := Lib.hid (Blk.rowFar (b1_406.out) (ne382.out) (arr (flat (pair x0 x1))))
                  have bel_420 := Lib.hid (below_setRow (bel_407.out) (lb383.out) (arr (flat (pair x0 x1))))
                  have x_421 := Lib.hid (Blk.row (x_410.out) (arr (flat (pair x0 x1))))
                  have y_422 := Lib.hid (Blk.rowFar (y_415.out) ((Ne.symm ne414.out)) (arr (flat (pair x0 x1))))
                  obtain ⟨w416, hw417⟩ : ∃ w', w' = (w403).setRow g372 (arr (flat (pair x0 x1))) := ⟨_, rfl⟩
                  rw [← hw417] at b0_418 b1_419 bel_420 x_421 y_422
                  rw [← hw417]
                  clear hw417
                  refine hK.out _ _ ⟨b0_418.out, b1_419.out⟩ (fun _ => ?_); clear hK K
                  try simp only [Act.put, List.setIfInBounds_toArray, List.set_cons_zero, List.set_cons_succ]
                  refine wpAnyH_ready (rs := [9]) (by kernel_rfl) (by simp) ?_
                  refine AllReadyH.cons (o := { dst := none, op := Go.Op.store 103 (Go.Operand.tmp 12) (Go.Operand.tmp 39), type := 0, pos := "solve.go:190", after := #[{ on := 7, ground := Go.Ground.data }, { on := 5, ground := Go.Ground.data }, { on := 8, ground := Go.Ground.chain }, { on := 0, ground := Go.Ground.phase }, { on := 1, ground := Go.Ground.phase }, { on := 2, ground := Go.Ground.phase }, { on := 3, ground := Go.Ground.phase }, { on := 4, ground := Go.Ground.phase }, { on := 5, ground := Go.Ground.phase }, { on := 6, ground := Go.Ground.phase }, { on := 7, ground := Go.Ground.phase }, { on := 8, ground := Go.Ground.phase }], guard := none }) rfl (fun K hK => ?_) ?_
                  · -- 9: store
                    rw [if_pos (by rfl)]
                    refine wp_store_row 103 (.tmp 12) (.tmp 39) rfl _ (arr (flat (pair y0 y1))) rfl rfl 103 (arr (flat (pair zeros zeros))) y_422.out (size_pair HY0.out HY1.out) (by rw [arr_size, arr_size, pair_length rfl rfl, pair_length HY0.out HY1.out]) (arr_one _) ?_
                    have b0_425 := Lib.hid (Blk.rowFar (b0_418.out) (ne411.out) (arr (flat (pair y0 y1))))
                    have b1_426 := Lib.hid (Blk.rowFar (b1_419.out) (ne412.out) (arr (flat (pair y0 y1))))
                    have bel_427 := Lib.hid (below_setRow (bel_420.out) (lb413.out) (arr (flat (pair y0 y1))))
                    have x_428 := Lib.hid (Blk.rowFar (x_421.out) (ne414.out) (arr (flat (pair y0 y1))))
                    have y_429 := Lib.hid (Blk.row (y_422.out) (arr (flat (pair y0 y1))))
                    obtain ⟨w423, hw424⟩ : ∃ w', w' = (w416).setRow g401 (arr (flat (pair y0 y1))) := ⟨_, rfl⟩
                    rw [← hw424] at b0_425 b1_426 bel_427 x_428 y_429
                    rw [← hw424]
                    clear hw424
                    refine hK.out _ _ ⟨b0_425.out, b1_426.out⟩ (fun _ => ?_); clear hK K
                    try simp only [Act.put, List.setIfInBounds_toArray, List.set_cons_zero, List.set_cons_succ]
                    refine wpAnyH_done (by kernel_rfl) ?_ _
                    go_wp2
                    go_meet
                    exact ⟨_, _, rfl, rfl, x_428.out, y_429.out, b0_425.out, bel_427.out⟩
                  exact AllReadyH.nil
                exact AllReadyH.nil
              exact AllReadyH.nil
            refine AllReadyH.cons (o := { dst := some 12, op := Go.Op.alloc 103, type := 0, pos := "solve.go:190", after := #[], guard := none }) rfl (fun K hK => ?_) ?_
            · -- 7: alloc
              rw [if_pos (by rfl)]
              refine wp_alloc_row 103 rfl (arr (flat (pair zeros zeros))) zero_pair.1 ?_
              have b0_434 := Lib.hid (Blk.alloc (b0_387.out) (.cells (arr (flat (pair zeros zeros))) 103))
              have b1_435 := Lib.hid (Blk.alloc (b1_388.out) (.cells (arr (flat (pair zeros zeros))) 103))
              have bel_436 := Lib.hid (Below.alloc (bel_389.out) ((bel_389.out).size) (.cells (arr (flat (pair zeros zeros))) 103))
              have rd_437 := Lib.hid (RdB.alloc (rd_390.out) (.cells (arr (flat (pair zeros zeros))) 103))
              have rr_438 := Lib.hid (RdB.alloc (rr_391.out) (.cells (arr (flat (pair zeros zeros))) 103))
              have x_439 := Lib.hid (Blk.alloc (x_392.out) (.cells (arr (flat (pair zeros zeros))) 103))
              have ne440 := Lib.hid (Nat.ne_of_lt (Blk.lt b0_387.out))
              have ne441 := Lib.hid (Nat.ne_of_lt (Blk.lt b1_388.out))
              have lb442 := Lib.hid (bel_389.out.size)
              have ne443 := Lib.hid (Nat.ne_of_lt (Blk.lt x_392.out))
              have y_444 := Lib.hid (Blk.new (w385) 103 (arr (flat (pair zeros zeros))))
              obtain ⟨g430, hg431⟩ : ∃ g, g = (w385).heap.size := ⟨_, rfl⟩
              obtain ⟨w432, hw433⟩ : ∃ w', w' = (w385).alloc (.cells (arr (flat (pair zeros zeros))) 103) := ⟨_, rfl⟩
              rw [← hw433] at b0_434 b1_435 bel_436 rd_437 rr_438 x_439 y_444
              rw [← hg431] at ne440 ne441 lb442 ne443 y_444
              rw [← hg431, ← hw433]
              clear hg431 hw433
              refine hK.out _ _ ⟨b0_434.out, b1_435.out⟩ (fun _ => ?_); clear hK K
              try simp only [Act.put, List.setIfInBounds_toArray, List.set_cons_zero, List.set_cons_succ]
              refine wpAnyH_ready (rs := [5]) (by kernel_rfl) (by simp) ?_
              refine AllReadyH.cons (o := { dst := some 39, op := Go.Op.call { callee := Go.Callee.value (Go.Operand.func 94), args := #[Go.Operand.tmp 37, Go.Operand.tmp 38], argTypes := #[70, 3] }, type := 103, pos := "solve.go:190", after := #[{ on := 3, ground := Go.Ground.data }, { on := 4, ground := Go.Ground.data }, { on := 2, ground := Go.Ground.chain }], guard := none }) rfl (fun K hK => ?_) ?_
              · -- 5: call
                go_simp
                go_at_call 94
                refine (HE2.out _ rr_438.out).mono ?_
                rintro e w445 ⟨rfl, hb446⟩
                dsimp only
                have b0_447 := Lib.hid (Blk.keep (b0_434.out) hb446)
                have b1_448 := Lib.hid (Blk.keep (b1_435.out) hb446)
                have bel_449 := Lib.hid (Below.trans (bel_436.out) (Below.mono hb446 ((bel_436.out).size)))
                have rd_450 := Lib.hid (RdB.below (rd_437.out) hb446)
                have rr_451 := Lib.hid (RdB.below (rr_438.out) hb446)
                have x_452 := Lib.hid (Blk.keep (x_439.out) hb446)
                have y_453 := Lib.hid (Blk.keep (y_444.out) hb446)
                refine hK.out _ _ ⟨b0_447.out, b1_448.out⟩ (fun _ => ?_); clear hK K
                try simp only [Act.put, List.setIfInBounds_toArray, List.set_cons_zero, List.set_cons_succ]
                refine wpAnyH_ready (rs := [8]) (by kernel_rfl) (by simp) ?_
                refine AllReadyH.cons (o := { dst := none, op := Go.Op.store 103 (Go.Operand.tmp 11) (Go.Operand.tmp 36), type := 0, pos := "solve.go:190", after := #[{ on := 6, ground := Go.Ground.data }, { on := 2, ground := Go.Ground.data }, { on := 5, ground := Go.Ground.chain }, { on := 0, ground := Go.Ground.phase }, { on := 1, ground := Go.Ground.phase }, { on := 2, ground := Go.Ground.phase }, { on := 3, ground := Go.Ground.textOnly Go.Departure.lateStores }, { on := 4, ground := Go.Ground.textOnly Go.Departure.lateStores }, { on := 5, ground := Go.Ground.textOnly Go.Departure.lateStoresUnsure }, { on := 6, ground := Go.Ground.phase }, { on := 7, ground := Go.Ground.phase }], guard := none }) rfl (fun K hK => ?_) ?_
                · -- 8: store
                  rw [if_pos (by rfl)]
                  refine wp_store_row 103 (.tmp 11) (.tmp 36) rfl _ (arr (flat (pair x0 x1))) rfl rfl 103 (arr (flat (pair zeros zeros))) x_452.out (size_pair HX0.out HX1.out) (by rw [arr_size, arr_size, pair_length rfl rfl, pair_length HX0.out HX1.out]) (arr_one _) ?_
                  have b0_456 := Lib.hid (Blk.rowFar (b0_447.out) (ne381.out) (arr (flat (pair x0 x1))))
                  have b1_457 := Lib.hid (Blk.rowFar (b1_448.out) (ne382.out) (arr (flat (pair x0 x1))))
                  have bel_458 := Lib.hid (below_setRow (bel_449.out) (lb383.out) (arr (flat (pair x0 x1))))
                  have x_459 := Lib.hid (Blk.row (x_452.out) (arr (flat (pair x0 x1))))
                  have y_460 := Lib.hid (Blk.rowFar (y_453.out) ((Ne.symm ne443.out)) (arr (flat (pair x0 x1))))
                  obtain ⟨w454, hw455⟩ : ∃ w', w' = (w445).setRow g372 (arr (flat (pair x0 x1))) := ⟨_, rfl⟩
                  rw [← hw455] at b0_456 b1_457 bel_458 x_459 y_460
                  rw [← hw455]
                  clear hw455
                  refine hK.out _ _ ⟨b0_456.out, b1_457.out⟩ (fun _ => ?_); clear hK K
                  try simp only [Act.put, List.setIfInBounds_toArray, List.set_cons_zero, List.set_cons_succ]
                  refine wpAnyH_ready (rs := [9]) (by kernel_rfl) (by simp) ?_
                  refine AllReadyH.cons (o := { dst := none, op := Go.Op.store 103 (Go.Operand.tmp 12) (Go.Operand.tmp 39), type := 0, pos := "solve.go:190", after := #[{ on := 7, ground := Go.Ground.data }, { on := 5, ground := Go.Ground.data }, { on := 8, ground := Go.Ground.chain }, { on := 0, ground := Go.Ground.phase }, { on := 1, ground := Go.Ground.phase }, { on := 2, ground := Go.Ground.phase }, { on := 3, ground := Go.Ground.phase }, { on := 4, ground := Go.Ground.phase }, { on := 5, ground := Go.Ground.phase }, { on := 6, ground := Go.Ground.phase }, { on := 7, ground := Go.Ground.phase }, { on := 8, ground := Go.Ground.phase }], guard := none }) rfl (fun K hK => ?_) ?_
                  · -- 9: store
                    rw [if_pos (by rfl)]
                    refine wp_store_row 103 (.tmp 12) (.tmp 39) rfl _ (arr (flat (pair y0 y1))) rfl rfl 103 (arr (flat (pair zeros zeros))) y_460.out (size_pair HY0.out HY1.out) (by rw [arr_size, arr_size, pair_length rfl rfl, pair_length HY0.out HY1.out]) (arr_one _) ?_
                    have b0_463 := Lib.hid (Blk.rowFar (b0_456.out) (ne440.out) (arr (flat (pair y0 y1))))
                    have b1_464 := Lib.hid (Blk.rowFar (b1_457.out) (ne441.out) (arr (flat (pair y0 y1))))
                    have bel_465 := Lib.hid (below_setRow (bel_458.out) (lb442.out) (arr (flat (pair y0 y1))))
                    have x_466 := Lib.hid (Blk.rowFar (x_459.out) (ne443.out) (arr (flat (pair y0 y1))))
                    have y_467 := Lib.hid (Blk.row (y_460.out) (arr (flat (pair y0 y1))))
                    obtain ⟨w461, hw462⟩ : ∃ w', w' = (w454).setRow g430 (arr (flat (pair y0 y1))) := ⟨_, rfl⟩
                    rw [← hw462] at b0_463 b1_464 bel_465 x_466 y_467
                    rw [← hw462]
                    clear hw462
                    refine hK.out _ _ ⟨b0_463.out, b1_464.out⟩ (fun _ => ?_); clear hK K
                    try simp only [Act.put, List.setIfInBounds_toArray, List.set_cons_zero, List.set_cons_succ]
                    refine wpAnyH_done (by kernel_rfl) ?_ _
                    go_wp2
                    go_meet
                    exact ⟨_, _, rfl, rfl, x_466.out, y_467.out, b0_463.out, bel_465.out⟩
                  exact AllReadyH.nil
                exact AllReadyH.nil
              exact AllReadyH.nil
            exact AllReadyH.nil
          refine AllReadyH.cons (o := { dst := some 12, op := Go.Op.alloc 103, type := 0, pos := "solve.go:190", after := #[], guard := none }) rfl (fun K hK => ?_) ?_
          · -- 7: alloc
            rw [if_pos (by rfl)]
            refine wp_alloc_row 103 rfl (arr (flat (pair zeros zeros))) zero_pair.1 ?_
            have b0_472 := Lib.hid (Blk.alloc (b0_376.out) (.cells (arr (flat (pair zeros zeros))) 103))
            have b1_473 := Lib.hid (Blk.alloc (b1_377.out) (.cells (arr (flat (pair zeros zeros))) 103))
            have bel_474 := Lib.hid (Below.alloc (bel_378.out) ((bel_378.out).size) (.cells (arr (flat (pair zeros zeros))) 103))
            have rd_475 := Lib.hid (RdB.alloc (rd_379.out) (.cells (arr (flat (pair zeros zeros))) 103))
            have rr_476 := Lib.hid (RdB.alloc (rr_380.out) (.cells (arr (flat (pair zeros zeros))) 103))
            have x_477 := Lib.hid (Blk.alloc (x_384.out) (.cells (arr (flat (pair zeros zeros))) 103))
            have ne478 := Lib.hid (Nat.ne_of_lt (Blk.lt b0_376.out))
            have ne479 := Lib.hid (Nat.ne_of_lt (Blk.lt b1_377.out))
            have lb480 := Lib.hid (bel_378.out.size)
            have ne481 := Lib.hid (Nat.ne_of_lt (Blk.lt x_384.out))
            have y_482 := Lib.hid (Blk.new (w374) 103 (arr (flat (pair zeros zeros))))
            obtain ⟨g468, hg469⟩ : ∃ g, g = (w374).heap.size := ⟨_, rfl⟩
            obtain ⟨w470, hw471⟩ : ∃ w', w' = (w374).alloc (.cells (arr (flat (pair zeros zeros))) 103) := ⟨_, rfl⟩
            rw [← hw471] at b0_472 b1_473 bel_474 rd_475 rr_476 x_477 y_482
            rw [← hg469] at ne478 ne479 lb480 ne481 y_482
            rw [← hg469, ← hw471]
            clear hg469 hw471
            refine hK.out _ _ ⟨b0_472.out, b1_473.out⟩ (fun _ => ?_); clear hK K
            try simp only [Act.put, List.setIfInBounds_toArray, List.set_cons_zero, List.set_cons_succ]
            refine wpAnyH_ready (rs := [2]) (by kernel_rfl) (by simp) ?_
            refine AllReadyH.cons (o := { dst := some 36, op := Go.Op.call { callee := Go.Callee.value (Go.Operand.func 94), args := #[Go.Operand.tmp 34, Go.Operand.tmp 35], argTypes := #[70, 3] }, type := 103, pos := "solve.go:190", after := #[{ on := 0, ground := Go.Ground.data }, { on := 1, ground := Go.Ground.data }], guard := none }) rfl (fun K hK => ?_) ?_
            · -- 2: call
              go_simp
              go_at_call 94
              refine (HE1.out _ rd_475.out).mono ?_
              rintro e w483 ⟨rfl, hb484⟩
              dsimp only
              have b0_485 := Lib.hid (Blk.keep (b0_472.out) hb484)
              have b1_486 := Lib.hid (Blk.keep (b1_473.out) hb484)
              have bel_487 := Lib.hid (Below.trans (bel_474.out) (Below.mono hb484 ((bel_474.out).size)))
              have rd_488 := Lib.hid (RdB.below (rd_475.out) hb484)
              have rr_489 := Lib.hid (RdB.below (rr_476.out) hb484)
              have x_490 := Lib.hid (Blk.keep (x_477.out) hb484)
              have y_491 := Lib.hid (Blk.keep (y_482.out) hb484)
              refine hK.out _ _ ⟨b0_485.out, b1_486.out⟩ (fun _ => ?_); clear hK K
              try simp only [Act.put, List.setIfInBounds_toArray, List.set_cons_zero, List.set_cons_succ]
              refine wpAnyH_ready (rs := [5]) (by kernel_rfl) (by simp) ?_
              refine AllReadyH.cons (o := { dst := some 39, op := Go.Op.call { callee := Go.Callee.value (Go.Operand.func 94), args := #[Go.Operand.tmp 37, Go.Operand.tmp 38], argTypes := #[70, 3] }, type := 103, pos := "solve.go:190", after := #[{ on := 3, ground := Go.Ground.data }, { on := 4, ground := Go.Ground.data }, { on := 2, ground := Go.Ground.chain }], guard := none }) rfl (fun K hK => ?_) ?_
              · -- 5: call
                go_simp
                go_at_call 94
                refine (HE2.out _ rr_489.out).mono ?_
                rintro e w492 ⟨rfl, hb493⟩
                dsimp only
                have b0_494 := Lib.hid (Blk.keep (b0_485.out) hb493)
                have b1_495 := Lib.hid (Blk.keep (b1_486.out) hb493)
                have bel_496 := Lib.hid (Below.trans (bel_487.out) (Below.mono hb493 ((bel_487.out).size)))
                have rd_497 := Lib.hid (RdB.below (rd_488.out) hb493)
                have rr_498 := Lib.hid (RdB.below (rr_489.out) hb493)
                have x_499 := Lib.hid (Blk.keep (x_490.out) hb493)
                have y_500 := Lib.hid (Blk.keep (y_491.out) hb493)
                refine hK.out _ _ ⟨b0_494.out, b1_495.out⟩ (fun _ => ?_); clear hK K
                try simp only [Act.put, List.setIfInBounds_toArray, List.set_cons_zero, List.set_cons_succ]
                refine wpAnyH_ready (rs := [8]) (by kernel_rfl) (by simp) ?_
                refine AllReadyH.cons (o := { dst := none, op := Go.Op.store 103 (Go.Operand.tmp 11) (Go.Operand.tmp 36), type := 0, pos := "solve.go:190", after := #[{ on := 6, ground := Go.Ground.data }, { on := 2, ground := Go.Ground.data }, { on := 5, ground := Go.Ground.chain }, { on := 0, ground := Go.Ground.phase }, { on := 1, ground := Go.Ground.phase }, { on := 2, ground := Go.Ground.phase }, { on := 3, ground := Go.Ground.textOnly Go.Departure.lateStores }, { on := 4, ground := Go.Ground.textOnly Go.Departure.lateStores }, { on := 5, ground := Go.Ground.textOnly Go.Departure.lateStoresUnsure }, { on := 6, ground := Go.Ground.phase }, { on := 7, ground := Go.Ground.phase }], guard := none }) rfl (fun K hK => ?_) ?_
                · -- 8: store
                  rw [if_pos (by rfl)]
                  refine wp_store_row 103 (.tmp 11) (.tmp 36) rfl _ (arr (flat (pair x0 x1))) rfl rfl 103 (arr (flat (pair zeros zeros))) x_499.out (size_pair HX0.out HX1.out) (by rw [arr_size, arr_size, pair_length rfl rfl, pair_length HX0.out HX1.out]) (arr_one _) ?_
                  have b0_503 := Lib.hid (Blk.rowFar (b0_494.out) (ne381.out) (arr (flat (pair x0 x1))))
                  have b1_504 := Lib.hid (Blk.rowFar (b1_495.out) (ne382.out) (arr (flat (pair x0 x1))))
                  have bel_505 := Lib.hid (below_setRow (bel_496.out) (lb383.out) (arr (flat (pair x0 x1))))
                  have x_506 := Lib.hid (Blk.row (x_499.out) (arr (flat (pair x0 x1))))
                  have y_507 := Lib.hid (Blk.rowFar (y_500.out) ((Ne.symm ne481.out)) (arr (flat (pair x0 x1))))
                  obtain ⟨w501, hw502⟩ : ∃ w', w' = (w492).setRow g372 (arr (flat (pair x0 x1))) := ⟨_, rfl⟩
                  rw [← hw502] at b0_503 b1_504 bel_505 x_506 y_507
                  rw [← hw502]
                  clear hw502
                  refine hK.out _ _ ⟨b0_503.out, b1_504.out⟩ (fun _ => ?_); clear hK K
                  try simp only [Act.put, List.setIfInBounds_toArray, List.set_cons_zero, List.set_cons_succ]
                  refine wpAnyH_ready (rs := [9]) (by kernel_rfl) (by simp) ?_
                  refine AllReadyH.cons (o := { dst := none, op := Go.Op.store 103 (Go.Operand.tmp 12) (Go.Operand.tmp 39), type := 0, pos := "solve.go:190", after := #[{ on := 7, ground := Go.Ground.data }, { on := 5, ground := Go.Ground.data }, { on := 8, ground := Go.Ground.chain }, { on := 0, ground := Go.Ground.phase }, { on := 1, ground := Go.Ground.phase }, { on := 2, ground := Go.Ground.phase }, { on := 3, ground := Go.Ground.phase }, { on := 4, ground := Go.Ground.phase }, { on := 5, ground := Go.Ground.phase }, { on := 6, ground := Go.Ground.phase }, { on := 7, ground := Go.Ground.phase }, { on := 8, ground := Go.Ground.phase }], guard := none }) rfl (fun K hK => ?_) ?_
                  · -- 9: store
                    rw [if_pos (by rfl)]
                    refine wp_store_row 103 (.tmp 12) (.tmp 39) rfl _ (arr (flat (pair y0 y1))) rfl rfl 103 (arr (flat (pair zeros zeros))) y_507.out (size_pair HY0.out HY1.out) (by rw [arr_size, arr_size, pair_length rfl rfl, pair_length HY0.out HY1.out]) (arr_one _) ?_
                    have b0_510 := Lib.hid (Blk.rowFar (b0_503.out) (ne478.out) (arr (flat (pair y0 y1))))
                    have b1_511 := Lib.hid (Blk.rowFar (b1_504.out) (ne479.out) (arr (flat (pair y0 y1))))
                    have bel_512 := Lib.hid (below_setRow (bel_505.out) (lb480.out) (arr (flat (pair y0 y1))))
                    have x_513 := Lib.hid (Blk.rowFar (x_506.out) (ne481.out) (arr (flat (pair y0 y1))))
                    have y_514 := Lib.hid (Blk.row (y_507.out) (arr (flat (pair y0 y1))))
                    obtain ⟨w508, hw509⟩ : ∃ w', w' = (w501).setRow g468 (arr (flat (pair y0 y1))) := ⟨_, rfl⟩
                    rw [← hw509] at b0_510 b1_511 bel_512 x_513 y_514
                    rw [← hw509]
                    clear hw509
                    refine hK.out _ _ ⟨b0_510.out, b1_511.out⟩ (fun _ => ?_); clear hK K
                    try simp only [Act.put, List.setIfInBounds_toArray, List.set_cons_zero, List.set_cons_succ]
                    refine wpAnyH_done (by kernel_rfl) ?_ _
                    go_wp2
                    go_meet
                    exact ⟨_, _, rfl, rfl, x_513.out, y_514.out, b0_510.out, bel_512.out⟩
                  exact AllReadyH.nil
                exact AllReadyH.nil
              exact AllReadyH.nil
            exact AllReadyH.nil
          exact AllReadyH.nil
        refine AllReadyH.cons (o := { dst := some 12, op := Go.Op.alloc 103, type := 0, pos := "solve.go:190", after := #[], guard := none }) rfl (fun K hK => ?_) ?_
        · -- 7: alloc
          rw [if_pos (by rfl)]
          refine wp_alloc_row 103 rfl (arr (flat (pair zeros zeros))) zero_pair.1 ?_
          have b0_519 := Lib.hid (Blk.alloc (C0.out) (.cells (arr (flat (pair zeros zeros))) 103))
          have b1_520 := Lib.hid (Blk.alloc (C1.out) (.cells (arr (flat (pair zeros zeros))) 103))
          have bel_521 := Lib.hid (Below.alloc (HBE.out) ((HBE.out).size) (.cells (arr (flat (pair zeros zeros))) 103))
          have rd_522 := Lib.hid (RdB.alloc (RD1.out) (.cells (arr (flat (pair zeros zeros))) 103))
          have rr_523 := Lib.hid (RdB.alloc (RD2.out) (.cells (arr (flat (pair zeros zeros))) 103))
          have ne524 := Lib.hid (Nat.ne_of_lt (Blk.lt C0.out))
          have ne525 := Lib.hid (Nat.ne_of_lt (Blk.lt C1.out))
          have lb526 := Lib.hid (HBE.out.size)
          have y_527 := Lib.hid (Blk.new (w92) 103 (arr (flat (pair zeros zeros))))
          obtain ⟨g515, hg516⟩ : ∃ g, g = (w92).heap.size := ⟨_, rfl⟩
          obtain ⟨w517, hw518⟩ : ∃ w', w' = (w92).alloc (.cells (arr (flat (pair zeros zeros))) 103) := ⟨_, rfl⟩
          rw [← hw518] at b0_519 b1_520 bel_521 rd_522 rr_523 y_527
          rw [← hg516] at ne524 ne525 lb526 y_527
          rw [← hg516, ← hw518]
          clear hg516 hw518
          refine hK.out _ _ ⟨b0_519.out, b1_520.out⟩ (fun _ => ?_); clear hK K
          try simp only [Act.put, List.setIfInBounds_toArray, List.set_cons_zero, List.set_cons_succ]
          refine wpAnyH_ready (rs := [2, 6]) (by kernel_rfl) (by simp) ?_
          refine AllReadyH.cons (o := { dst := some 36, op := Go.Op.call { callee := Go.Callee.value (Go.Operand.func 94), args := #[Go.Operand.tmp 34, Go.Operand.tmp 35], argTypes := #[70, 3] }, type := 103, pos := "solve.go:190", after := #[{ on := 0, ground := Go.Ground.data }, { on := 1, ground := Go.Ground.data }], guard := none }) rfl (fun K hK => ?_) ?_
          · -- 2: call
            go_simp
            go_at_call 94
            refine (HE1.out _ rd_522.out).mono ?_
            rintro e w528 ⟨rfl, hb529⟩
            dsimp only
            have b0_530 := Lib.hid (Blk.keep (b0_519.out) hb529)
            have b1_531 := Lib.hid (Blk.keep (b1_520.out) hb529)
            have bel_532 := Lib.hid (Below.trans (bel_521.out) (Below.mono hb529 ((bel_521.out).size)))
            have rd_533 := Lib.hid (RdB.below (rd_522.out) hb529)
            have rr_534 := Lib.hid (RdB.below (rr_523.out) hb529)
            have y_535 := Lib.hid (Blk.keep (y_527.out) hb529)
            refine hK.out _ _ ⟨b0_530.out, b1_531.out⟩ (fun _ => ?_); clear hK K
            try simp only [Act.put, List.setIfInBounds_toArray, List.set_cons_zero, List.set_cons_succ]
            refine wpAnyH_ready (rs := [5, 6]) (by kernel_rfl) (by simp) ?_
            refine AllReadyH.cons (o := { dst := some 39, op := Go.Op.call { callee := Go.Callee.value (Go.Operand.func 94), args := #[Go.Operand.tmp 37, Go.Operand.tmp 38], argTypes := #[70, 3] }, type := 103, pos := "solve.go:190", after := #[{ on := 3, ground := Go.Ground.data }, { on := 4, ground := Go.Ground.data }, { on := 2, ground := Go.Ground.chain }], guard := none }) rfl (fun K hK => ?_) ?_
            · -- 5: call
              go_simp
              go_at_call 94
              refine (HE2.out _ rr_534.out).mono ?_
              rintro e w536 ⟨rfl, hb537⟩
              dsimp only
              have b0_538 := Lib.hid (Blk.keep (b0_530.out) hb537)
              have b1_539 := Lib.hid (Blk.keep (b1_531.out) hb537)
              have bel_540 := Lib.hid (Below.trans (bel_532.out) (Below.mono hb537 ((bel_532.out).size)))
              have rd_541 := Lib.hid (RdB.below (rd_533.out) hb537)
              have rr_542 := Lib.hid (RdB.below (rr_534.out) hb537)
              have y_543 := Lib.hid (Blk.keep (y_535.out) hb537)
              refine hK.out _ _ ⟨b0_538.out, b1_539.out⟩ (fun _ => ?_); clear hK K
              try simp only [Act.put, List.setIfInBounds_toArray, List.set_cons_zero, List.set_cons_succ]
              refine wpAnyH_ready (rs := [6]) (by kernel_rfl) (by simp) ?_
              refine AllReadyH.cons (o := { dst := some 11, op := Go.Op.alloc 103, type := 0, pos := "solve.go:190", after := #[], guard := none }) rfl (fun K hK => ?_) ?_
              · -- 6: alloc
                rw [if_pos (by rfl)]
                refine wp_alloc_row 103 rfl (arr (flat (pair zeros zeros))) zero_pair.1 ?_
                have b0_548 := Lib.hid (Blk.alloc (b0_538.out) (.cells (arr (flat (pair zeros zeros))) 103))
                have b1_549 := Lib.hid (Blk.alloc (b1_539.out) (.cells (arr (flat (pair zeros zeros))) 103))
                have bel_550 := Lib.hid (Below.alloc (bel_540.out) ((bel_540.out).size) (.cells (arr (flat (pair zeros zeros))) 103))
                have rd_551 := Lib.hid (RdB.alloc (rd_541.out) (.cells (arr (flat (pair zeros zeros))) 103))
                have rr_552 := Lib.hid (RdB.alloc (rr_542.out) (.cells (arr (flat (pair zeros zeros))) 103))
                have y_553 := Lib.hid (Blk.alloc (y_543.out) (.cells (arr (flat (pair zeros zeros))) 103))
                have ne554 := Lib.hid (Nat.ne_of_lt (Blk.lt b0_538.out))
                have ne555 := Lib.hid (Nat.ne_of_lt (Blk.lt b1_539.out))
                have lb556 := Lib.hid (bel_540.out.size)
                have ne557 := Lib.hid (Nat.ne_of_lt (Blk.lt y_543.out))
                have x_558 := Lib.hid (Blk.new (w536) 103 (arr (flat (pair zeros zeros))))
                obtain ⟨g544, hg545⟩ : ∃ g, g = (w536).heap.size := ⟨_, rfl⟩
                obtain ⟨w546, hw547⟩ : ∃ w', w' = (w536).alloc (.cells (arr (flat (pair zeros zeros))) 103) := ⟨_, rfl⟩
                rw [← hw547] at b0_548 b1_549 bel_550 rd_551 rr_552 y_553 x_558
                rw [← hg545] at ne554 ne555 lb556 ne557 x_558
                rw [← hg545, ← hw547]
                clear hg545 hw547
                refine hK.out _ _ ⟨b0_548.out, b1_549.out⟩ (fun _ => ?_); clear hK K
                try simp only [Act.put, List.setIfInBounds_toArray, List.set_cons_zero, List.set_cons_succ]
                refine wpAnyH_ready (rs := [8]) (by kernel_rfl) (by simp) ?_
                refine AllReadyH.cons (o := { dst := none, op := Go.Op.store 103 (Go.Operand.tmp 11) (Go.Operand.tmp 36), type := 0, pos := "solve.go:190", after := #[{ on := 6, ground := Go.Ground.data }, { on := 2, ground := Go.Ground.data }, { on := 5, ground := Go.Ground.chain }, { on := 0, ground := Go.Ground.phase }, { on := 1, ground := Go.Ground.phase }, { on := 2, ground := Go.Ground.phase }, { on := 3, ground := Go.Ground.textOnly Go.Departure.lateStores }, { on := 4, ground := Go.Ground.textOnly Go.Departure.lateStores }, { on := 5, ground := Go.Ground.textOnly Go.Departure.lateStoresUnsure }, { on := 6, ground := Go.Ground.phase }, { on := 7, ground := Go.Ground.phase }], guard := none }) rfl (fun K hK => ?_) ?_
                · -- 8: store
                  rw [if_pos (by rfl)]
                  refine wp_store_row 103 (.tmp 11) (.tmp 36) rfl _ (arr (flat (pair x0 x1))) rfl rfl 103 (arr (flat (pair zeros zeros))) x_558.out (size_pair HX0.out HX1.out) (by rw [arr_size, arr_size, pair_length rfl rfl, pair_length HX0.out HX1.out]) (arr_one _) ?_
                  have b0_561 := Lib.hid (Blk.rowFar (b0_548.out) (ne554.out) (arr (flat (pair x0 x1))))
                  have b1_562 := Lib.hid (Blk.rowFar (b1_549.out) (ne555.out) (arr (flat (pair x0 x1))))
                  have bel_563 := Lib.hid (below_setRow (bel_550.out) (lb556.out) (arr (flat (pair x0 x1))))
                  have y_564 := Lib.hid (Blk.rowFar (y_553.out) (ne557.out) (arr (flat (pair x0 x1))))
                  have x_565 := Lib.hid (Blk.row (x_558.out) (arr (flat (pair x0 x1))))
                  obtain ⟨w559, hw560⟩ : ∃ w', w' = (w546).setRow g544 (arr (flat (pair x0 x1))) := ⟨_, rfl⟩
                  rw [← hw560] at b0_561 b1_562 bel_563 y_564 x_565
                  rw [← hw560]
                  clear hw560
                  refine hK.out _ _ ⟨b0_561.out, b1_562.out⟩ (fun _ => ?_); clear hK K
                  try simp only [Act.put, List.setIfInBounds_toArray, List.set_cons_zero, List.set_cons_succ]
                  refine wpAnyH_ready (rs := [9]) (by kernel_rfl) (by simp) ?_
                  refine AllReadyH.cons (o := { dst := none, op := Go.Op.store 103 (Go.Operand.tmp 12) (Go.Operand.tmp 39), type := 0, pos := "solve.go:190", after := #[{ on := 7, ground := Go.Ground.data }, { on := 5, ground := Go.Ground.data }, { on := 8, ground := Go.Ground.chain }, { on := 0, ground := Go.Ground.phase }, { on := 1, ground := Go.Ground.phase }, { on := 2, ground := Go.Ground.phase }, { on := 3, ground := Go.Ground.phase }, { on := 4, ground := Go.Ground.phase }, { on := 5, ground := Go.Ground.phase }, { on := 6, ground := Go.Ground.phase }, { on := 7, ground := Go.Ground.phase }, { on := 8, ground := Go.Ground.phase }], guard := none }) rfl (fun K hK => ?_) ?_
                  · -- 9: store
                    rw [if_pos (by rfl)]
                    refine wp_store_row 103 (.tmp 12) (.tmp 39) rfl _ (arr (flat (pair y0 y1))) rfl rfl 103 (arr (flat (pair zeros zeros))) y_564.out (size_pair HY0.out HY1.out) (by rw [arr_size, arr_size, pair_length rfl rfl, pair_length HY0.out HY1.out]) (arr_one _) ?_
                    have b0_568 := Lib.hid (Blk.rowFar (b0_561.out) (ne524.out) (arr (flat (pair y0 y1))))
                    have b1_569 := Lib.hid (Blk.rowFar (b1_562.out) (ne525.out) (arr (flat (pair y0 y1))))
                    have bel_570 := Lib.hid (below_setRow (bel_563.out) (lb526.out) (arr (flat (pair y0 y1))))
                    have y_571 := Lib.hid (Blk.row (y_564.out) (arr (flat (pair y0 y1))))
                    have x_572 := Lib.hid (Blk.rowFar (x_565.out) ((Ne.symm ne557.out)) (arr (flat (pair y0 y1))))
                    obtain ⟨w566, hw567⟩ : ∃ w', w' = (w559).setRow g515 (arr (flat (pair y0 y1))) := ⟨_, rfl⟩
                    rw [← hw567] at b0_568 b1_569 bel_570 y_571 x_572
                    rw [← hw567]
                    clear hw567
                    refine hK.out _ _ ⟨b0_568.out, b1_569.out⟩ (fun _ => ?_); clear hK K
                    try simp only [Act.put, List.setIfInBounds_toArray, List.set_cons_zero, List.set_cons_succ]
                    refine wpAnyH_done (by kernel_rfl) ?_ _
                    go_wp2
                    go_meet
                    exact ⟨_, _, rfl, rfl, x_572.out, y_571.out, b0_568.out, bel_570.out⟩
                  exact AllReadyH.nil
                exact AllReadyH.nil
              exact AllReadyH.nil
            refine AllReadyH.cons (o := { dst := some 11, op := Go.Op.alloc 103, type := 0, pos := "solve.go:190", after := #[], guard := none }) rfl (fun K hK => ?_) ?_
            · -- 6: alloc
              rw [if_pos (by rfl)]
              refine wp_alloc_row 103 rfl (arr (flat (pair zeros zeros))) zero_pair.1 ?_
              have b0_577 := Lib.hid (Blk.alloc (b0_530.out) (.cells (arr (flat (pair zeros zeros))) 103))
              have b1_578 := Lib.hid (Blk.alloc (b1_531.out) (.cells (arr (flat (pair zeros zeros))) 103))
              have bel_579 := Lib.hid (Below.alloc (bel_532.out) ((bel_532.out).size) (.cells (arr (flat (pair zeros zeros))) 103))
              have rd_580 := Lib.hid (RdB.alloc (rd_533.out) (.cells (arr (flat (pair zeros zeros))) 103))
              have rr_581 := Lib.hid (RdB.alloc (rr_534.out) (.cells (arr (flat (pair zeros zeros))) 103))
              have y_582 := Lib.hid (Blk.alloc (y_535.out) (.cells (arr (flat (pair zeros zeros))) 103))
              have ne583 := Lib.hid (Nat.ne_of_lt (Blk.lt b0_530.out))
              have ne584 := Lib.hid (Nat.ne_of_lt (Blk.lt b1_531.out))
              have lb585 := Lib.hid (bel_532.out.size)
              have ne586 := Lib.hid (Nat.ne_of_lt (Blk.lt y_535.out))
              have x_587 := Lib.hid (Blk.new (w528) 103 (arr (flat (pair zeros zeros))))
              obtain ⟨g573, hg574⟩ : ∃ g, g = (w528).heap.size := ⟨_, rfl⟩
              obtain ⟨w575, hw576⟩ : ∃ w', w' = (w528).alloc (.cells (arr (flat (pair zeros zeros))) 103) := ⟨_, rfl⟩
              rw [← hw576] at b0_577 b1_578 bel_579 rd_580 rr_581 y_582 x_587
              rw [← hg574] at ne583 ne584 lb585 ne586 x_587
              rw [← hg574, ← hw576]
              clear hg574 hw576
              refine hK.out _ _ ⟨b0_577.out, b1_578.out⟩ (fun _ => ?_); clear hK K
              try simp only [Act.put, List.setIfInBounds_toArray, List.set_cons_zero, List.set_cons_succ]
              refine wpAnyH_ready (rs := [5]) (by kernel_rfl) (by simp) ?_
              refine AllReadyH.cons (o := { dst := some 39, op := Go.Op.call { callee := Go.Callee.value (Go.Operand.func 94), args := #[Go.Operand.tmp 37, Go.Operand.tmp 38], argTypes := #[70, 3] }, type := 103, pos := "solve.go:190", after := #[{ on := 3, ground := Go.Ground.data }, { on := 4, ground := Go.Ground.data }, { on := 2, ground := Go.Ground.chain }], guard := none }) rfl (fun K hK => ?_) ?_
              · -- 5: call
                go_simp
                go_at_call 94
                refine (HE2.out _ rr_581.out).mono ?_
                rintro e w588 ⟨rfl, hb589⟩
                dsimp only
                have b0_590 := Lib.hid (Blk.keep (b0_577.out) hb589)
                have b1_591 := Lib.hid (Blk.keep (b1_578.out) hb589)
                have bel_592 := Lib.hid (Below.trans (bel_579.out) (Below.mono hb589 ((bel_579.out).size)))
                have rd_593 := Lib.hid (RdB.below (rd_580.out) hb589)
                have rr_594 := Lib.hid (RdB.below (rr_581.out) hb589)
                have y_595 := Lib.hid (Blk.keep (y_582.out) hb589)
                have x_596 := Lib.hid (Blk.keep (x_587.out) hb589)
                refine hK.out _ _ ⟨b0_590.out, b1_591.out⟩ (fun _ => ?_); clear hK K
                try simp only [Act.put, List.setIfInBounds_toArray, List.set_cons_zero, List.set_cons_succ]
                refine wpAnyH_ready (rs := [8]) (by kernel_rfl) (by simp) ?_
                refine AllReadyH.cons (o := { dst := none, op := Go.Op.store 103 (Go.Operand.tmp 11) (Go.Operand.tmp 36), type := 0, pos := "solve.go:190", after := #[{ on := 6, ground := Go.Ground.data }, { on := 2, ground := Go.Ground.data }, { on := 5, ground := Go.Ground.chain }, { on := 0, ground := Go.Ground.phase }, { on := 1, ground := Go.Ground.phase }, { on := 2, ground := Go.Ground.phase }, { on := 3, ground := Go.Ground.textOnly Go.Departure.lateStores }, { on := 4, ground := Go.Ground.textOnly Go.Departure.lateStores }, { on := 5, ground := Go.Ground.textOnly Go.Departure.lateStoresUnsure }, { on := 6, ground := Go.Ground.phase }, { on := 7, ground := Go.Ground.phase }], guard := none }) rfl (fun K hK => ?_) ?_
                · -- 8: store
                  rw [if_pos (by rfl)]
                  refine wp_store_row 103 (.tmp 11) (.tmp 36) rfl _ (arr (flat (pair x0 x1))) rfl rfl 103 (arr (flat (pair zeros zeros))) x_596.out (size_pair HX0.out HX1.out) (by rw [arr_size, arr_size, pair_length rfl rfl, pair_length HX0.out HX1.out]) (arr_one _) ?_
                  have b0_599 := Lib.hid (Blk.rowFar (b0_590.out) (ne583.out) (arr (flat (pair x0 x1))))
                  have b1_600 := Lib.hid (Blk.rowFar (b1_591.out) (ne584.out) (arr (flat (pair x0 x1))))
                  have bel_601 := Lib.hid (below_setRow (bel_592.out) (lb585.out) (arr (flat (pair x0 x1))))
                  have y_602 := Lib.hid (Blk.rowFar (y_595.out) (ne586.out) (arr (flat (pair x0 x1))))
                  have x_603 := Lib.hid (Blk.row (x_596.out) (arr (flat (pair x0 x1))))
                  obtain ⟨w597, hw598⟩ : ∃ w', w' = (w588).setRow g573 (arr (flat (pair x0 x1))) := ⟨_, rfl⟩
                  rw [← hw598] at b0_599 b1_600 bel_601 y_602 x_603
                  rw [← hw598]
                  clear hw598
                  refine hK.out _ _ ⟨b0_599.out, b1_600.out⟩ (fun _ => ?_); clear hK K
                  try simp only [Act.put, List.setIfInBounds_toArray, List.set_cons_zero, List.set_cons_succ]
                  refine wpAnyH_ready (rs := [9]) (by kernel_rfl) (by simp) ?_
                  refine AllReadyH.cons (o := { dst := none, op := Go.Op.store 103 (Go.Operand.tmp 12) (Go.Operand.tmp 39), type := 0, pos := "solve.go:190", after := #[{ on := 7, ground := Go.Ground.data }, { on := 5, ground := Go.Ground.data }, { on := 8, ground := Go.Ground.chain }, { on := 0, ground := Go.Ground.phase }, { on := 1, ground := Go.Ground.phase }, { on := 2, ground := Go.Ground.phase }, { on := 3, ground := Go.Ground.phase }, { on := 4, ground := Go.Ground.phase }, { on := 5, ground := Go.Ground.phase }, { on := 6, ground := Go.Ground.phase }, { on := 7, ground := Go.Ground.phase }, { on := 8, ground := Go.Ground.phase }], guard := none }) rfl (fun K hK => ?_) ?_
                  · -- 9: store
                    rw [if_pos (by rfl)]
                    refine wp_store_row 103 (.tmp 12) (.tmp 39) rfl _ (arr (flat (pair y0 y1))) rfl rfl 103 (arr (flat (pair zeros zeros))) y_602.out (size_pair HY0.out HY1.out) (by rw [arr_size, arr_size, pair_length rfl rfl, pair_length HY0.out HY1.out]) (arr_one _) ?_
                    have b0_606 := Lib.hid (Blk.rowFar (b0_599.out) (ne524.out) (arr (flat (pair y0 y1))))
                    have b1_607 := Lib.hid (Blk.rowFar (b1_600.out) (ne525.out) (arr (flat (pair y0 y1))))
                    have bel_608 := Lib.hid (below_setRow (bel_601.out) (lb526.out) (arr (flat (pair y0 y1))))
                    have y_609 := Lib.hid (Blk.row (y_602.out) (arr (flat (pair y0 y1))))
                    have x_610 := Lib.hid (Blk.rowFar (x_603.out) ((Ne.symm ne586.out)) (arr (flat (pair y0 y1))))
                    obtain ⟨w604, hw605⟩ : ∃ w', w' = (w597).setRow g515 (arr (flat (pair y0 y1))) := ⟨_, rfl⟩
                    rw [← hw605] at b0_606 b1_607 bel_608 y_609 x_610
                    rw [← hw605]
                    clear hw605
                    refine hK.out _ _ ⟨b0_606.out, b1_607.out⟩ (fun _ => ?_); clear hK K
                    try simp only [Act.put, List.setIfInBounds_toArray, List.set_cons_zero, List.set_cons_succ]
                    refine wpAnyH_done (by kernel_rfl) ?_ _
                    go_wp2
                    go_meet
                    exact ⟨_, _, rfl, rfl, x_610.out, y_609.out, b0_606.out, bel_608.out⟩
                  exact AllReadyH.nil
                exact AllReadyH.nil
              exact AllReadyH.nil
            exact AllReadyH.nil
          refine AllReadyH.cons (o := { dst := some 11, op := Go.Op.alloc 103, type := 0, pos := "solve.go:190", after := #[], guard := none }) rfl (fun K hK => ?_) ?_
          · -- 6: alloc
            rw [if_pos (by rfl)]
            refine wp_alloc_row 103 rfl (arr (flat (pair zeros zeros))) zero_pair.1 ?_
            have b0_615 := Lib.hid (Blk.alloc (b0_519.out) (.cells (arr (flat (pair zeros zeros))) 103))
            have b1_616 := Lib.hid (Blk.alloc (b1_520.out) (.cells (arr (flat (pair zeros zeros))) 103))
            have bel_617 := Lib.hid (Below.alloc (bel_521.out) ((bel_521.out).size) (.cells (arr (flat (pair zeros zeros))) 103))
            have rd_618 := Lib.hid (RdB.alloc (rd_522.out) (.cells (arr (flat (pair zeros zeros))) 103))
            have rr_619 := Lib.hid (RdB.alloc (rr_523.out) (.cells (arr (flat (pair zeros zeros))) 103))
            have y_620 := Lib.hid (Blk.alloc (y_527.out) (.cells (arr (flat (pair zeros zeros))) 103))
            have ne621 := Lib.hid (Nat.ne_of_lt (Blk.lt b0_519.out))
            have ne622 := Lib.hid (Nat.ne_of_lt (Blk.lt b1_520.out))
            have lb623 := Lib.hid (bel_521.out.size)
            have ne624 := Lib.hid (Nat.ne_of_lt (Blk.lt y_527.out))
            have x_625 := Lib.hid (Blk.new (w517) 103 (arr (flat (pair zeros zeros))))
            obtain ⟨g611, hg612⟩ : ∃ g, g = (w517).heap.size := ⟨_, rfl⟩
            obtain ⟨w613, hw614⟩ : ∃ w', w' = (w517).alloc (.cells (arr (flat (pair zeros zeros))) 103) := ⟨_, rfl⟩
            rw [← hw614] at b0_615 b1_616 bel_617 rd_618 rr_619 y_620 x_625
            rw [← hg612] at ne621 ne622 lb623 ne624 x_625
            rw [← hg612, ← hw614]
            clear hg612 hw614
            refine hK.out _ _ ⟨b0_615.out, b1_616.out⟩ (fun _ => ?_); clear hK K
            try simp only [Act.put, List.setIfInBounds_toArray, List.set_cons_zero, List.set_cons_succ]
            refine wpAnyH_ready (rs := [2]) (by kernel_rfl) (by simp) ?_
            refine AllReadyH.cons (o := { dst := some 36, op := Go.Op.call { callee := Go.Callee.value (Go.Operand.func 94), args := #[Go.Operand.tmp 34, Go.Operand.tmp 35], argTypes := #[70, 3] }, type := 103, pos := "solve.go:190", after := #[{ on := 0, ground := Go.Ground.data }, { on := 1, ground := Go.Ground.data }], guard := none }) rfl (fun K hK => ?_) ?_
            · -- 2: call
              go_simp
              go_at_call 94
              refine (HE1.out _ rd_618.out).mono ?_
              rintro e w626 ⟨rfl, hb627⟩
              dsimp only
              have b0_628 := Lib.hid (Blk.keep (b0_615.out) hb627)
              have b1_629 := Lib.hid (Blk.keep (b1_616.out) hb627)
              have bel_630 := Lib.hid (Below.trans (bel_617.out) (Below.mono hb627 ((bel_617.out).size)))
              have rd_631 := Lib.hid (RdB.below (rd_618.out) hb627)
              have rr_632 := Lib.hid (RdB.below (rr_619.out) hb627)
              have y_633 := Lib.hid (Blk.keep (y_620.out) hb627)
              have x_634 := Lib.hid (Blk.keep (x_625.out) hb627)
              refine hK.out _ _ ⟨b0_628.out, b1_629.out⟩ (fun _ => ?_); clear hK K
              try simp only [Act.put, List.setIfInBounds_toArray, List.set_cons_zero, List.set_cons_succ]
              refine wpAnyH_ready (rs := [5]) (by kernel_rfl) (by simp) ?_
              refine AllReadyH.cons (o := { dst := some 39, op := Go.Op.call { callee := Go.Callee.value (Go.Operand.func 94), args := #[Go.Operand.tmp 37, Go.Operand.tmp 38], argTypes := #[70, 3] }, type := 103, pos := "solve.go:190", after := #[{ on := 3, ground := Go.Ground.data }, { on := 4, ground := Go.Ground.data }, { on := 2, ground := Go.Ground.chain }], guard := none }) rfl (fun K hK => ?_) ?_
              · -- 5: call
                go_simp
                go_at_call 94
                refine (HE2.out _ rr_632.out).mono ?_
                rintro e w635 ⟨rfl, hb636⟩
                dsimp only
                have b0_637 := Lib.hid (Blk.keep (b0_628.out) hb636)
                have b1_638 := Lib.hid (Blk.keep (b1_629.out) hb636)
                have bel_639 := Lib.hid (Below.trans (bel_630.out) (Below.mono hb636 ((bel_630.out).size)))
                have rd_640 := Lib.hid (RdB.below (rd_631.out) hb636)
                have rr_641 := Lib.hid (RdB.below (rr_632.out) hb636)
                have y_642 := Lib.hid (Blk.keep (y_633.out) hb636)
                have x_643 := Lib.hid (Blk.keep (x_634.out) hb636)
                refine hK.out _ _ ⟨b0_637.out, b1_638.out⟩ (fun _ => ?_); clear hK K
                try simp only [Act.put, List.setIfInBounds_toArray, List.set_cons_zero, List.set_cons_succ]
                refine wpAnyH_ready (rs := [8]) (by kernel_rfl) (by simp) ?_
                refine AllReadyH.cons (o := { dst := none, op := Go.Op.store 103 (Go.Operand.tmp 11) (Go.Operand.tmp 36), type := 0, pos := "solve.go:190", after := #[{ on := 6, ground := Go.Ground.data }, { on := 2, ground := Go.Ground.data }, { on := 5, ground := Go.Ground.chain }, { on := 0, ground := Go.Ground.phase }, { on := 1, ground := Go.Ground.phase }, { on := 2, ground := Go.Ground.phase }, { on := 3, ground := Go.Ground.textOnly Go.Departure.lateStores }, { on := 4, ground := Go.Ground.textOnly Go.Departure.lateStores }, { on := 5, ground := Go.Ground.textOnly Go.Departure.lateStoresUnsure }, { on := 6, ground := Go.Ground.phase }, { on := 7, ground := Go.Ground.phase }], guard := none }) rfl (fun K hK => ?_) ?_
                · -- 8: store
                  rw [if_pos (by rfl)]
                  refine wp_store_row 103 (.tmp 11) (.tmp 36) rfl _ (arr (flat (pair x0 x1))) rfl rfl 103 (arr (flat (pair zeros zeros))) x_643.out (size_pair HX0.out HX1.out) (by rw [arr_size, arr_size, pair_length rfl rfl, pair_length HX0.out HX1.out]) (arr_one _) ?_
                  have b0_646 := Lib.hid (Blk.rowFar (b0_637.out) (ne621.out) (arr (flat (pair x0 x1))))
                  have b1_647 := Lib.hid (Blk.rowFar (b1_638.out) (ne622.out) (arr (flat (pair x0 x1))))
                  have bel_648 := Lib.hid (below_setRow (bel_639.out) (lb623.out) (arr (flat (pair x0 x1))))
                  have y_649 := Lib.hid (Blk.rowFar (y_642.out) (ne624.out) (arr (flat (pair x0 x1))))
                  have x_650 := Lib.hid (Blk.row (x_643.out) (arr (flat (pair x0 x1))))
                  obtain ⟨w644, hw645⟩ : ∃ w', w' = (w635).setRow g611 (arr (flat (pair x0 x1))) := ⟨_, rfl⟩
                  rw [← hw645] at b0_646 b1_647 bel_648 y_649 x_650
                  rw [← hw645]
                  clear hw645
                  refine hK.out _ _ ⟨b0_646.out, b1_647.out⟩ (fun _ => ?_); clear hK K
                  try simp only [Act.put, List.setIfInBounds_toArray, List.set_cons_zero, List.set_cons_succ]
                  refine wpAnyH_ready (rs := [9]) (by kernel_rfl) (by simp) ?_
                  refine AllReadyH.cons (o := { dst := none, op := Go.Op.store 103 (Go.Operand.tmp 12) (Go.Operand.tmp 39), type := 0, pos := "solve.go:190", after := #[{ on := 7, ground := Go.Ground.data }, { on := 5, ground := Go.Ground.data }, { on := 8, ground := Go.Ground.chain }, { on := 0, ground := Go.Ground.phase }, { on := 1, ground := Go.Ground.phase }, { on := 2, ground := Go.Ground.phase }, { on := 3, ground := Go.Ground.phase }, { on := 4, ground := Go.Ground.phase }, { on := 5, ground := Go.Ground.phase }, { on := 6, ground := Go.Ground.phase }, { on := 7, ground := Go.Ground.phase }, { on := 8, ground := Go.Ground.phase }], guard := none }) rfl (fun K hK => ?_) ?_
                  · -- 9: store
                    rw [if_pos (by rfl)]
                    refine wp_store_row 103 (.tmp 12) (.tmp 39) rfl _ (arr (flat (pair y0 y1))) rfl rfl 103 (arr (flat (pair zeros zeros))) y_649.out (size_pair HY0.out HY1.out) (by rw [arr_size, arr_size, pair_length rfl rfl, pair_length HY0.out HY1.out]) (arr_one _) ?_
                    have b0_653 := Lib.hid (Blk.rowFar (b0_646.out) (ne524.out) (arr (flat (pair y0 y1))))
                    have b1_654 := Lib.hid (Blk.rowFar (b1_647.out) (ne525.out) (arr (flat (pair y0 y1))))
                    have bel_655 := Lib.hid (below_setRow (bel_648.out) (lb526.out) (arr (flat (pair y0 y1))))
                    have y_656 := Lib.hid (Blk.row (y_649.out) (arr (flat (pair y0 y1))))
                    have x_657 := Lib.hid (Blk.rowFar (x_650.out) ((Ne.symm ne624.out)) (arr (flat (pair y0 y1))))
                    obtain ⟨w651, hw652⟩ : ∃ w', w' = (w644).setRow g515 (arr (flat (pair y0 y1))) := ⟨_, rfl⟩
                    rw [← hw652] at b0_653 b1_654 bel_655 y_656 x_657
                    rw [← hw652]
                    clear hw652
                    refine hK.out _ _ ⟨b0_653.out, b1_654.out⟩ (fun _ => ?_); clear hK K
                    try simp only [Act.put, List.setIfInBounds_toArray, List.set_cons_zero, List.set_cons_succ]
                    refine wpAnyH_done (by kernel_rfl) ?_ _
                    go_wp2
                    go_meet
                    exact ⟨_, _, rfl, rfl, x_657.out, y_656.out, b0_653.out, bel_655.out⟩
                  exact AllReadyH.nil
                exact AllReadyH.nil
              exact AllReadyH.nil
            exact AllReadyH.nil
          exact AllReadyH.nil
        exact AllReadyH.nil
      case rest =>
        obtain ⟨g1, g2, rfl, rfl, hx, hy, hsy, hbe⟩ := hcut
        have hlx := hx.lt; have hly := hy.lt; have hls := hsy.lt
        have hbs := hbe.size
        have X := Lib.hid hx; have Y := Lib.hid hy; have S := Lib.hid hsy; have BE := Lib.hid hbe; clear hx hy hsy hbe
        have hp60 : (p : Int) ≤ 60 := by omega
        have hcx : ∀ k, k < 60 → wc.cell? ⟨g1, k, none⟩ = some (.int .i64 (at_ (flat (pair x0 x1)) k)) ∧ wc.cell? ⟨g1, 60 + k, none⟩ = some (.int .i64 (at_ (flat (pair x0 x1)) (60 + k))) := fun k hk => ⟨(X.out.cell _).trans (arr_get _ _ (by rw [pair_length HX0.out HX1.out]; omega)), (X.out.cell _).trans (arr_get _ _ (by rw [pair_length HX0.out HX1.out]; omega))⟩
        by_cases hsame : x0 = y0 ∧ x1 = y1
        · have hV : V = [] := by rw [← HV.out, hsame.1, hsame.2]; exact chgL_same _ _
          have heqv := fun w => eql_pair_yes HX0.out HX1.out HY0.out HY1.out hsame w
          have HVE := Lib.hid hV
          clear hsame hV hcx
          go_wp2_with (first | (refine wpList_load_row rfl 103 (.tmp 11) rfl _ rfl _ (arr (flat (pair x0 x1))) (0, 0) _ X.out Try.underlying103 rfl (size_pair HX0.out HX1.out) ?_) | (refine wpList_load_row rfl 103 (.tmp 12) rfl _ rfl _ (arr (flat (pair y0 y1))) (0, 0) _ Y.out Try.underlying103 rfl (size_pair HY0.out HY1.out) ?_))
          go_ret2
          exact ⟨none, 0, 0, rfl, by rw [HVE.out]; exact OwnI.nil_ _ _, BE.out⟩
        · have heqv := fun w => eql_pair_no HX0.out HX1.out HY0.out HY1.out hsame w
          clear hsame hcx
          have k0 : wc.cell? ⟨w.heap.size, 0, none⟩ = some (.int .i64 (p : Int)) := S.out.cell 0
          go_wp2_with (first | (refine wpList_load_row rfl 103 (.tmp 11) rfl _ rfl _ (arr (flat (pair x0 x1))) (0, 0) _ X.out Try.underlying103 rfl (size_pair HX0.out HX1.out) ?_) | (refine wpList_load_row rfl 103 (.tmp 12) rfl _ rfl _ (arr (flat (pair y0 y1))) (0, 0) _ Y.out Try.underlying103 rfl (size_pair HY0.out HY1.out) ?_))
          clear heqv
          go_loopw [46, 13] (fun i v wr => ∃ k : Nat, k ≤ p ∧ i = .int .i64 k ∧ wr.ownsRow wc.heap.size 3 1 v (chgL (pair x0 x1) (pair y0 y1) k).length ((chgL (pair x0 x1) (pair y0 y1) k).map (Value.int .i64)) ∧ Blk wr g1 103 (arr (flat (pair x0 x1))) ∧ Blk wr g2 103 (arr (flat (pair y0 y1))) ∧ Below w.heap.size w wr ∧ wc.heap.size ≤ wr.heap.size) (fun i _ _ => p - (intOf i).toNat)
          case atStart => exact ⟨0, Nat.zero_le _, rfl, World.ownsRow_nil _ _ _ _, X.out, Y.out, BE.out, Nat.le_refl _⟩
          case round =>
            obtain ⟨k, hk, rfl, hown, hx, hy, hbe, hsz⟩ := hrel
            by_cases hlt : k < p
            · have hlt' : (k : Int) < p := by omega
              have hk60 : k < 60 := by omega
              have hk60' : (k : Int) < 60 := by omega
              have u0 : wr.cell? ⟨g1, k, none⟩ = some (.int .i64 (at_ (flat (pair x0 x1)) k)) := (hx.cell _).trans (arr_get _ _ (by rw [pair_length HX0.out HX1.out]; omega))
              have u1 : wr.cell? ⟨g1, 60 + k, none⟩ = some (.int .i64 (at_ (flat (pair x0 x1)) (60 + k))) := (hx.cell _).trans (arr_get _ _ (by rw [pair_length HX0.out HX1.out]; omega))
              have u2 : wr.cell? ⟨g2, k, none⟩ = some (.int .i64 (at_ (flat (pair y0 y1)) k)) := (hy.cell _).trans (arr_get _ _ (by rw [pair_length HY0.out HY1.out]; omega))
              have u3 : wr.cell? ⟨g2, 60 + k, none⟩ = some (.int .i64 (at_ (flat (pair y0 y1)) (60 + k))) := (hy.cell _).trans (arr_get _ _ (by rw [pair_length HY0.out HY1.out]; omega))
              have hz1 := hx.lt; have hz2 := hy.lt
              have hchg : chgP (pair x0 x1) (pair y0 y1) k = decide (at_ (flat (pair x0 x1)) k ≠ at_ (flat (pair y0 y1)) k ∨ at_ (flat (pair x0 x1)) (60 + k) ≠ at_ (flat (pair y0 y1)) (60 + k)) := rfl
              have hsucc := chgL_succ (pair x0 x1) (pair y0 y1) k
              have hlen2 := chgL_length (pair x0 x1) (pair y0 y1) k
              have X2 := Lib.hid hx; have Y2 := Lib.hid hy; have BE2 := Lib.hid hbe; have OW := Lib.hid hown; have SU := Lib.hid hsucc; clear hx hy hbe hown hsucc
              generalize at_ (flat (pair x0 x1)) k = e0 at *
              generalize at_ (flat (pair x0 x1)) (60 + k) = e1 at *
              generalize at_ (flat (pair y0 y1)) k = d0 at *
              generalize at_ (flat (pair y0 y1)) (60 + k) = d1 at *
              have CH := Lib.hid hchg; clear hchg
              by_cases hd0 : e0 = d0
              · have hb0 : (e0 != d0) = false := by simp [hd0]
                by_cases hd1 : e1 = d1
                · have hb1 : (e1 != d1) = false := by simp [hd1]
                  rw [CH.out, if_neg (by simp [hd0, hd1])] at SU
                  clear hd0 hd1
                  go_wp2
                  go_quiet (fail)
                  go_wp2
                  go_roundw
                  case rel => exact ⟨k + 1, by omega, by go_num, (by rw [SU.out]; exact OW.out), X2.out, Y2.out, bdN BE2.out _, hsz⟩
                  case measure => simp [intOf]; omega
                · have hb1 : (e1 != d1) = true := by simpa using hd1
                  rw [CH.out, if_pos (by simp [hd1])] at SU
                  go_wp2
                  go_quiet (fail)
                  have OW2 := Lib.hid ((show (wr.drewN nq).ownsRow wc.heap.size 3 1 _ _ _ from OW.out).alloc (.cells #[.int .i64 (k : Int)] 3))
                  have N2 := Lib.hid (Blk.new (wr.drewN nq) 3 #[.int .i64 (k : Int)])
                  have X3 := Lib.hid ((show Blk (wr.drewN nq) _ _ _ from X2.out).alloc (.cells #[.int .i64 (k : Int)] 3))
                  have Y3 := Lib.hid ((show Blk (wr.drewN nq) _ _ _ from Y2.out).alloc (.cells #[.int .i64 (k : Int)] 3))
                  have BE3 := Lib.hid ((bdN BE2.out nq).alloc (bdN BE2.out nq).size (.cells #[.int .i64 (k : Int)] 3))
                  have hsz2 : wc.heap.size ≤ (wr.drewN nq).heap.size := hsz
                  go_wp2_with (at_builtin; refine wpList_append_own _ rfl (.tmp 69) (.tmp 71) 33 rfl wc.heap.size 3 i0 _ 1 8 Try.underlying33 HI.out HZ0.out HZ1.out HZ2.out rfl (by omega) u13 _ _ rfl OW2.out ⟨(wr.drewN nq).heap.size, 0, none⟩ 1 1 [.int .i64 (k : Int)] rfl rfl (fun j u hu => by rw [Addr.add_lit, Nat.zero_add, N2.out.cell]; simpa using hu) (by simp [Value.oneCell']) (by unfold maxLen; omega) (by omega) (by rw [World.size_alloc]; omega) ?_; intro v' w4 hown4 hg4 _; have HO4 := Lib.hid hown4; have HG4 := Lib.hid hg4; clear hown4 hg4)
                  have hrow : ∀ q, u13.ownBlock = some q → wc.heap.size ≤ q := fun q hq => (OW2.out.lt q hq).1
                  go_roundw
                  case rel => exact ⟨k + 1, by omega, by go_num, (by rw [SU.out, List.length_append, List.map_append]; exact HO4.out), blk_grown X3.out HG4.out (fun e => by have := hrow _ e; omega), blk_grown Y3.out HG4.out (fun e => by have := hrow _ e; omega), BE3.out.grown HG4.out BE3.out.size (fun q e => by have := hrow _ e; omega), by have := HG4.out.size; rw [World.size_alloc] at this; omega⟩
                  case measure => (simp [intOf]; omega)
              · have hb0 : (e0 != d0) = true := by simpa using hd0
                rw [CH.out, if_pos (by simp [hd0])] at SU
                go_wp2
                go_quiet (fail)
                have OW2 := Lib.hid ((show (wr.drewN nq).ownsRow wc.heap.size 3 1 _ _ _ from OW.out).alloc (.cells #[.int .i64 (k : Int)] 3))
                have N2 := Lib.hid (Blk.new (wr.drewN nq) 3 #[.int .i64 (k : Int)])
                have X3 := Lib.hid ((show Blk (wr.drewN nq) _ _ _ from X2.out).alloc (.cells #[.int .i64 (k : Int)] 3))
                have Y3 := Lib.hid ((show Blk (wr.drewN nq) _ _ _ from Y2.out).alloc (.cells #[.int .i64 (k : Int)] 3))
                have BE3 := Lib.hid ((bdN BE2.out nq).alloc (bdN BE2.out nq).size (.cells #[.int .i64 (k : Int)] 3))
                have hsz2 : wc.heap.size ≤ (wr.drewN nq).heap.size := hsz
                go_wp2_with (at_builtin; refine wpList_append_own _ rfl (.tmp 69) (.tmp 71) 33 rfl wc.heap.size 3 i0 _ 1 8 Try.underlying33 HI.out HZ0.out HZ1.out HZ2.out rfl (by omega) u13 _ _ rfl OW2.out ⟨(wr.drewN nq).heap.size, 0, none⟩ 1 1 [.int .i64 (k : Int)] rfl rfl (fun j u hu => by rw [Addr.add_lit, Nat.zero_add, N2.out.cell]; simpa using hu) (by simp [Value.oneCell']) (by unfold maxLen; omega) (by omega) (by rw [World.size_alloc]; omega) ?_; intro v' w4 hown4 hg4 _; have HO4 := Lib.hid hown4; have HG4 := Lib.hid hg4; clear hown4 hg4)
                have hrow : ∀ q, u13.ownBlock = some q → wc.heap.size ≤ q := fun q hq => (OW2.out.lt q hq).1
                go_roundw
                case rel => exact ⟨k + 1, by omega, by go_num, (by rw [SU.out, List.length_append, List.map_append]; exact HO4.out), blk_grown X3.out HG4.out (fun e => by have := hrow _ e; omega), blk_grown Y3.out HG4.out (fun e => by have := hrow _ e; omega), BE3.out.grown HG4.out BE3.out.size (fun q e => by have := hrow _ e; omega), by have := HG4.out.size; rw [World.size_alloc] at this; omega⟩
                case measure => (simp [intOf]; omega)
            · obtain rfl : k = p := by omega
              rw [HV.out] at hown
              obtain ⟨A5, c5, hv5, -⟩ := own_form hown
              have OW := Lib.hid hown; clear hown
              subst hv5
              go_wp2
              go_ret2
              exact ⟨_, _, _, rfl, owns_base OW.out hbs, hbe⟩
    · rw [if_neg hs]
      have HSC := Lib.hid hs
      have hne : (scode p (l ++ [x]) [a] != 0) = true := by simpa using hs
      obtain ⟨q, hq⟩ : ∃ q, scode p (l ++ [x]) [a] = q := ⟨_, rfl⟩
      rw [hq] at HSC hne ⊢
      have HQ := Lib.hid hq; clear hs hq

      go_enter Try.func50, Try.ntmps50
      go_wp2_with fail
      refine HC.out.mono ?_
      rintro e w1 ⟨A2, n2, c2, rfl, ho, hb1⟩
      have hor := OwnB.rd (ho trivial)
      obtain rfl : n2 = n + 1 := by have := hor.1.len; omega
      have RO := Lib.hid hor.1; clear ho hor
      have hB1 := hB.trans (hb1.mono hB.size)
      have C0 := Lib.hid (B0.out.keep hb1)
      have r1 := rdI_one (w1.alloc (.cells #[.int .i64 p, .slice A2 (n + 1) c2] 24)) a
      simp only [World.size_alloc] at r1
      have hB2 := (hB1.alloc hB1.size (.cells #[.int .i64 p, .slice A2 (n + 1) c2] 24))
      have hB3 := hB2.alloc hB2.size (.cells #[.int .i64 a] 3)
      have hb2' : Below w1.heap.size w1 ((w1.alloc (.cells #[.int .i64 p, .slice A2 (n + 1) c2] 24)).alloc (.cells #[.int .i64 a] 3)) := ((Below.refl _ w1).alloc (Nat.le_refl _) _).alloc (by simp) _
      have hsv := solvable_any p A2 _ (n + 1) c2 1 1 (l ++ [x]) [a] _ (RO.out.below hb2') (by unfold maxLen; omega) r1 (by omega)
      have C0' := Lib.hid ((C0.out.alloc (.cells #[.int .i64 p, .slice A2 (n + 1) c2] 24)).alloc (.cells #[.int .i64 a] 3))
      have RO' := Lib.hid (RO.out.below hb2')
      have HSV := Lib.hid hsv; have HB3 := Lib.hid hB3; clear hsv r1 hb2' hB2 hB3
      have k0 : (w1.alloc (.cells #[.int .i64 p, .slice A2 (n + 1) c2] 24)).cell? ⟨w1.heap.size, 0, none⟩ = some (.int .i64 p) := (Blk.new w1 24 #[.int .i64 p, .slice A2 (n + 1) c2]).cell 0
      have k1 : (w1.alloc (.cells #[.int .i64 p, .slice A2 (n + 1) c2] 24)).cell? ⟨w1.heap.size, 1, none⟩ = some (.slice A2 (n + 1) c2) := (Blk.new w1 24 #[.int .i64 p, .slice A2 (n + 1) c2]).cell 1

      rw [HQ.out] at HSV
      rw [sysR_no HSC.out] at HSV
      go_wp2_with fail
      refine HSV.out.mono ?_
      rintro e w2 ⟨rfl, hb2⟩
      have hB4 := HB3.out.trans (hb2.mono HB3.out.size)
      go_wp2
      go_ret2
      exact ⟨none, 0, 0, rfl, OwnI.nil_ _ _, (by have hsz_ := Below.size hB4; repeat' (first | with_reducible exact hB4 | with_reducible exact Below.refl _ _ | with_reducible refine Below.alloc ?_ ?_ _ | with_reducible refine Below.setCell ?_ ?_ _ | with_reducible refine Below.drew ?_ | with_reducible refine below_setRow ?_ ?_ _ | omega | (simp; done) | (simp; omega)))⟩
  · rw [if_neg hw]
    generalize withC p l x = q at *
    simp only [sysR_no hw] at HC
    have hne : (q != 0) = true := by simpa using hw
    clear hw
    go_enter Try.func50, Try.ntmps50
    go_wp2_with fail
    refine HC.out.mono ?_
    rintro e w1 ⟨A2, n2, c2, rfl, -, hb1⟩
    have hB1 := hB.trans (hb1.mono hB.size)
    go_wp2
    go_ret2
    exact ⟨none, 0, 0, rfl, OwnI.nil_ _ _, (by have hsz_ := Below.size hB1; repeat' (first | with_reducible exact hB1 | with_reducible exact Below.refl _ _ | with_reducible refine Below.alloc ?_ ?_ _ | with_reducible refine Below.setCell ?_ ?_ _ | with_reducible refine Below.drew ?_ | with_reducible refine below_setRow ?_ ?_ _ | omega | (simp; done) | (simp; omega)))⟩
end Go.Proofs.Ythlnialipjihdaa
