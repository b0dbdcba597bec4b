/- reversed of gauge. -/
import Derived.Test.YthlnialipjihdaaRigid
import Derived.Test.YthlnialipjihdaaJoined
import Derived.Deep.DeepCutAuto
import Derived.Test.YthlnialipjihdaaWith
set_option linter.unusedSimpArgs false
set_option linter.unusedVariables false
namespace Go.Proofs.Ythlnialipjihdaa
open Go.RowKit

def revB (b : Bnd) : Bnd := ⟨b.t, b.f, b.m, b.b⟩
def revL (l : List Bnd) : List Bnd := l.map revB
def swapK (l : List Bnd) (k : Nat) : List Bnd := (l.take k).map revB ++ l.drop k
theorem swapK_length (l : List Bnd) (k : Nat) : (swapK l k).length = l.length := by simp [swapK]; omega
theorem swapK_zero (l : List Bnd) : swapK l 0 = l := by simp [swapK]
theorem swapK_all (l : List Bnd) : swapK l l.length = revL l := by simp [swapK, revL]
theorem swapK_at {l : List Bnd} {k : Nat} {b : Bnd} (h : l[k]? = some b) : (swapK l k)[k]? = some b := by
  have hk := (List.getElem?_eq_some_iff.1 h).1
  unfold swapK
  rw [List.getElem?_append_right (by simp; omega), List.getElem?_drop]
  rw [List.length_map, List.length_take, show k + (k - min k l.length) = k from by omega, h]
theorem swapK_set {l : List Bnd} {k : Nat} {b : Bnd} (h : l[k]? = some b) : (swapK l k).set k (revB b) = swapK l (k + 1) := by
  have hk := (List.getElem?_eq_some_iff.1 h).1
  have hd : l.drop k = b :: l.drop (k + 1) := by
    rw [List.drop_eq_getElem_cons hk]
    congr 1
    rw [List.getElem?_eq_getElem hk] at h
    injection h
  unfold swapK
  rw [hd, List.set_append_right _ _ (by simp; omega), List.length_map, List.length_take, show k - min k l.length = 0 from by omega, List.set_cons_zero, List.take_add_one, h]
  simp

theorem bcells_set {l : List Bnd} : ∀ {k : Nat} {f t m i f' t' : Int}, l[k]? = some ⟨f, t, m, i⟩ → ((bcells l).set (k * 4) (.int .i64 f')).set (k * 4 + 1) (.int .i64 t') = bcells (l.set k ⟨f', t', m, i⟩) := by
  induction l with
  | nil => intro k f t m i f' t' h; simp at h
  | cons b l ih =>
    intro k f t m i f' t' h
    cases k with
    | zero =>
      simp only [List.getElem?_cons_zero, Option.some.injEq] at h
      subst h
      simp [bcells, Bnd.cells]
    | succ k =>
      rw [List.getElem?_cons_succ] at h
      have := ih (f' := f') (t' := t') h
      unfold bcells at this ⊢
      rw [List.set_cons_succ, List.flatMap_cons, List.flatMap_cons, ← this]
      have e : b.cells.length = 4 := rfl
      rw [List.set_append_right _ _ (by rw [e]; omega), e, List.set_append_right _ _ (by rw [e]; omega), e, show (k + 1) * 4 - 4 = k * 4 from by omega, show (k + 1) * 4 + 1 - 4 = k * 4 + 1 from by omega]

/-- An owned list of bounds, as its block. -/
theorem own_block {w : World} {base : Nat} {g n : Nat} {l : List Bnd} (h : OwnB w base (some ⟨g, 0, none⟩) n n l) : Blk w g 54 (bcells l).toArray ∧ base ≤ g ∧ l.length = n := by
  obtain ⟨hlen, h⟩ := h
  rw [bcells_length] at hlen
  rcases h with ⟨h, _⟩ | ⟨g', cap, cur, hv, hb, hg, hle, hm, hsz, ht⟩
  · cases h
  · injection hv with h1 h2 h3
    injection h1 with h1
    injection h1 with h1
    subst h1 h3
    rw [List.take_of_length_le (by rw [Array.length_toList, hsz]; exact Nat.le_refl _)] at ht
    refine ⟨?_, hb, by omega⟩
    unfold Blk
    rw [hg, ← ht]
theorem block_own {w : World} {base : Nat} {g n : Nat} {l : List Bnd} (h : Blk w g 54 (bcells l).toArray) (hb : base ≤ g) (hl : l.length = n) (hm : n ≤ maxLen) : OwnB w base (some ⟨g, 0, none⟩) n n l := by
  subst hl
  refine ⟨by rw [bcells_length], .inr ⟨g, l.length, (bcells l).toArray, rfl, hb, h, Nat.le_refl _, hm, by simp [bcells_length], ?_⟩⟩
  rw [List.take_of_length_le (by rw [List.toList_toArray, bcells_length]; exact Nat.le_refl _)]

set_option maxRecDepth 100000 in
set_option maxHeartbeats 4000000 in
theorem reversed_any (p : Int) (A : Option Addr) (n c : Nat) (l : List Bnd) (w : World) (hr : RdB w A n c l) (hn : n ≤ 1000) :
    Calls Try.prog 117 #[.agg #[.int .i64 p, .slice A n c]] w fun e w' => ∃ g, e = .returned (.agg #[.int .i64 p, .slice (some ⟨g, 0, none⟩) n n]) ∧ OwnB w' w.heap.size (some ⟨g, 0, none⟩) n n (revL l) ∧ Below w.heap.size w w' := by
  have hB : Below w.heap.size w ((w.alloc (.cells #[.int .i64 p, .slice A n c] 70)).alloc (.cells #[.int .i64 0, .slice none 0 0] 70)) := ((Below.refl _ w).alloc (Nat.le_refl _) _).alloc (by simp) _
  have hj := joinedB_any A none n c 0 0 l [] _ (hr.below hB) (RdB.nil_ _) (by omega)
  have b0 := (Blk.new w 70 #[.int .i64 p, .slice A n c]).alloc (.cells #[.int .i64 0, .slice none 0 0] 70)
  have b1 := Blk.new (w.alloc (.cells #[.int .i64 p, .slice A n c] 70)) 70 #[.int .i64 0, .slice none 0 0]
  simp only [World.size_alloc] at b1
  rw [List.append_nil, Nat.add_zero] at hj
  have HJ := Lib.hid hj; have B0 := Lib.hid b0; have B1 := Lib.hid b1; have HLEN := Lib.hid hr.len; clear hj b0 b1 hr
  have k1 : ((w.alloc (.cells #[.int .i64 p, .slice A n c] 70)).alloc (.cells #[.int .i64 0, .slice none 0 0] 70)).cell? ⟨w.heap.size, 1, none⟩ = some (.slice A n c) := B0.out.cell 1
  go_enter Try.func117, Try.ntmps117
  go_wp2_with (go_at_call 60; refine HJ.out.mono ?_; rintro e w1 ⟨g, rfl, ho, hb1⟩; have HO := Lib.hid ho; clear ho)
  have hs1 := hb1.size
  simp only [World.size_alloc] at hs1
  obtain ⟨hg, hgb, -⟩ := own_block HO.out
  simp only [World.size_alloc] at hgb
  have G := Lib.hid hg; clear hg
  have C0 := Lib.hid (B0.out.keep hb1); have C1 := Lib.hid (B1.out.keep hb1)
  have hB1 := hB.trans (hb1.mono hB.size)
  go_loopw [11] (fun i wr => ∃ k : Nat, k ≤ n ∧ i = .int .i64 k ∧ Blk wr g 54 (bcells (swapK l k)).toArray ∧ Blk wr w.heap.size 70 #[.int .i64 p, .slice A n c] ∧ Blk wr (w.heap.size + 1) 70 #[.int .i64 0, .slice none 0 0] ∧ Below w.heap.size w wr) (fun i _ => n - (intOf i).toNat)
  case atStart => exact ⟨0, Nat.zero_le _, rfl, by rw [swapK_zero]; exact G.out, C0.out, C1.out, hB1⟩
  case round =>
    obtain ⟨k, hk, rfl, g2, d0, d1, hbr⟩ := hrel
    by_cases hlt : k < n
    · have hlt' : (k : Int) < n := by omega
      obtain ⟨⟨f, t, m, i⟩, hx⟩ : ∃ b, l[k]? = some b := ⟨l[k]'(by rw [HLEN.out]; exact hlt), List.getElem?_eq_getElem _⟩
      have hsw := swapK_at hx
      have hsn := swapK_set hx
      have hcell : ∀ j, j < 4 → wr.cell? ⟨g, k * 4 + j, none⟩ = (Bnd.cells ⟨f, t, m, i⟩)[j]? := fun j hj => by
        rw [g2.cell, List.getElem?_toArray, bcells_get _ k j _ hsw hj]
      have u0 : wr.cell? ⟨g, k * 4, none⟩ = some (.int .i64 f) := hcell 0 (by omega)
      have u1 : wr.cell? ⟨g, k * 4 + 1, none⟩ = some (.int .i64 t) := hcell 1 (by omega)
      have u2 : wr.cell? ⟨g, k * 4 + 2, none⟩ = some (.int .i64 m) := hcell 2 (by omega)
      have u3 : wr.cell? ⟨g, k * 4 + 3, none⟩ = some (.int .i64 i) := hcell 3 (by omega)
      have z0 : wr.frozen? ⟨g, k * 4, none⟩ = false := g2.frozen _
      have z1 : wr.frozen? ⟨g, k * 4 + 1, none⟩ = false := g2.frozen _
      have hgl := g2.lt
      have hset := bcells_set (f' := t) (t' := f) hsw
      rw [show (⟨t, f, m, i⟩ : Bnd) = revB ⟨f, t, m, i⟩ from rfl, hsn] at hset
      have HSET := Lib.hid hset; have G2 := Lib.hid g2; have D0 := Lib.hid d0; have D1 := Lib.hid d1; clear hset g2 d0 d1 hsw hsn hcell hx
      have hp0 : (bcells (swapK l k)).toArray[k * 4]? = some (.int .i64 f) := (G2.out.cell _).symm.trans u0
      have hp1 : ((bcells (swapK l k)).toArray.setIfInBounds (k * 4) (.int .i64 t))[k * 4 + 1]? = some (.int .i64 t) := by
        rw [Array.getElem?_setIfInBounds_ne (by omega)]
        exact (G2.out.cell _).symm.trans u1
      have U0 := Lib.hid hp0; have U1 := Lib.hid hp1; clear hp0 hp1
      go_wp2
      have hz := D1.out.lt
      have hne : wr.heap.size ≠ g := by omega
      have C2 := Lib.hid (Blk.new wr 54 #[.int .i64 f, .int .i64 t, .int .i64 m, .int .i64 i]).drew
      have BE := Lib.hid (hbr.alloc hbr.size (.cells #[.int .i64 f, .int .i64 t, .int .i64 m, .int .i64 i] 54)).drew
      have G2' := Lib.hid (G2.out.alloc (.cells #[.int .i64 f, .int .i64 t, .int .i64 m, .int .i64 i] 54)).drew
      have D0' := Lib.hid (D0.out.alloc (.cells #[.int .i64 f, .int .i64 t, .int .i64 m, .int .i64 i] 54)).drew
      have D1' := Lib.hid (D1.out.alloc (.cells #[.int .i64 f, .int .i64 t, .int .i64 m, .int .i64 i] 54)).drew
      clear G2 D0 D1
      have G2 := G2'; have D0 := D0'; have D1 := D1'; clear G2' D0' D1' u0 u1 u2 u3 z0 z1
      generalize wr.alloc (.cells #[.int .i64 f, .int .i64 t, .int .i64 m, .int .i64 i] 54) = W0 at *
      refine wp_region_held_drew (S := (fun W' => Blk W' wr.heap.size 54 #[.int .i64 f, .int .i64 t, .int .i64 m, .int .i64 i])) (by kernel_rfl) C2.out (fun _ => ?_)
      obtain ⟨w1, hw2⟩ : ∃ w', w' = W0.drew := ⟨_, rfl⟩
      rw [← hw2] at C2 G2 D0 D1 BE
      rw [← hw2]
      clear hw2
      refine' wpAnyH_take (i := 0) (oi := { dst := some 16, op := Go.Op.move (Go.Operand.tmp 3), type := 22, pos := "graph.go:73", after := #[], guard := none }) (v := _) rfl (by kernel_rfl) (by kernel_rfl) (by kernel_rfl) (fun _ _ _ h => h) (Or.inl ⟨by rfl, ?hyR3⟩) C2.out ?reR3
      case hyR3 => (rintro W' hS0; clear hS0; go_simp; try with_reducible rfl)
      try simp only [Act.put, List.setIfInBounds_toArray, List.set_cons_zero, List.set_cons_succ]
      refine' wpAnyH_take (i := 1) (oi := { dst := some 17, op := Go.Op.move (Go.Operand.tmp 4), type := 3, pos := "graph.go:73", after := #[], guard := none }) (v := _) rfl (by kernel_rfl) (by kernel_rfl) (by kernel_rfl) (fun _ _ _ h => h) (Or.inl ⟨by rfl, ?hyR4⟩) C2.out ?reR4
      case hyR4 => (rintro W' hS0; clear hS0; go_simp; try with_reducible rfl)
      try simp only [Act.put, List.setIfInBounds_toArray, List.set_cons_zero, List.set_cons_succ]
      refine' wpAnyH_take (i := 2) (oi := { dst := some 18, op := Go.Op.move (Go.Operand.tmp 3), type := 22, pos := "graph.go:73", after := #[{ on := 10, ground := Go.Ground.gcOnly Go.Departure.lateStores }], guard := none }) (v := _) rfl (by kernel_rfl) (by kernel_rfl) (by kernel_rfl) (fun _ _ _ h => h) (Or.inl ⟨by rfl, ?hyR5⟩) C2.out ?reR5
      case hyR5 => (rintro W' hS0; clear hS0; go_simp; try with_reducible rfl)
      try simp only [Act.put, List.setIfInBounds_toArray, List.set_cons_zero, List.set_cons_succ]
      refine' wpAnyH_take (i := 3) (oi := { dst := some 19, op := Go.Op.move (Go.Operand.tmp 4), type := 3, pos := "graph.go:73", after := #[{ on := 10, ground := Go.Ground.gcOnly Go.Departure.lateStores }], guard := none }) (v := _) rfl (by kernel_rfl) (by kernel_rfl) (by kernel_rfl) (fun _ _ _ h => h) (Or.inl ⟨by rfl, ?hyR6⟩) C2.out ?reR6
      case hyR6 => (rintro W' hS0; clear hS0; go_simp; try with_reducible rfl)
      try simp only [Act.put, List.setIfInBounds_toArray, List.set_cons_zero, List.set_cons_succ]
      refine' wpAnyH_take (i := 4) (oi := { dst := some 20, op := Go.Op.fieldAddr 54 (Go.Operand.tmp 5) 1, type := 0, pos := "graph.go:73", after := #[], guard := none }) (v := _) rfl (by kernel_rfl) (by kernel_rfl) (by kernel_rfl) (fun _ _ _ h => h) (Or.inl ⟨by rfl, ?hyR7⟩) C2.out ?reR7
      case hyR7 => (rintro W' hS0; clear hS0; go_simp; try with_reducible rfl)
      try simp only [Act.put, List.setIfInBounds_toArray, List.set_cons_zero, List.set_cons_succ]
      refine' wpAnyH_take (i := 5) (oi := { dst := some 21, op := Go.Op.load 3 (Go.Operand.tmp 20), type := 3, pos := "graph.go:73", after := #[{ on := 4, ground := Go.Ground.data }], guard := none }) (v := _) rfl (by kernel_rfl) (by kernel_rfl) (by kernel_rfl) (fun _ _ _ h => h) (Or.inl ⟨by rfl, ?hyR8⟩) C2.out ?reR8
      case hyR8 => (rintro W' hS0; have hc0 : W'.cell? ⟨wr.heap.size, 1, none⟩ = some (.int .i64 t) := Blk.cell hS0 1; clear hS0; go_simp; try with_reducible rfl)
      try simp only [Act.put, List.setIfInBounds_toArray, List.set_cons_zero, List.set_cons_succ]
      refine' wpAnyH_take (i := 6) (oi := { dst := some 22, op := Go.Op.fieldAddr 54 (Go.Operand.tmp 5) 0, type := 0, pos := "graph.go:73", after := #[{ on := 10, ground := Go.Ground.gcOnly Go.Departure.lateStores }], guard := none }) (v := _) rfl (by kernel_rfl) (by kernel_rfl) (by kernel_rfl) (fun _ _ _ h => h) (Or.inl ⟨by rfl, ?hyR9⟩) C2.out ?reR9
      case hyR9 => (rintro W' hS0; clear hS0; go_simp; try with_reducible rfl)
      try simp only [Act.put, List.setIfInBounds_toArray, List.set_cons_zero, List.set_cons_succ]
      refine' wpAnyH_take (i := 7) (oi := { dst := some 23, op := Go.Op.load 3 (Go.Operand.tmp 22), type := 3, pos := "graph.go:73", after := #[{ on := 6, ground := Go.Ground.data }, { on := 10, ground := Go.Ground.gcOnly Go.Departure.lateStores }], guard := none }) (v := _) rfl (by kernel_rfl) (by kernel_rfl) (by kernel_rfl) (fun _ _ _ h => h) (Or.inl ⟨by rfl, ?hyR10⟩) C2.out ?reR10
      case hyR10 => (rintro W' hS0; have hc0 : W'.cell? ⟨wr.heap.size, 0, none⟩ = some (.int .i64 f) := Blk.cell hS0 0; clear hS0; go_simp; try with_reducible rfl)
      try simp only [Act.put, List.setIfInBounds_toArray, List.set_cons_zero, List.set_cons_succ]
      refine' wpAnyH_take (i := 8) (oi := { dst := some 24, op := Go.Op.indexAddr 22 (Go.Operand.tmp 16) (Go.Operand.tmp 17), type := 0, pos := "graph.go:73", after := #[{ on := 0, ground := Go.Ground.data }, { on := 1, ground := Go.Ground.data }, { on := 0, ground := Go.Ground.phase }, { on := 1, ground := Go.Ground.phase }, { on := 2, ground := Go.Ground.textOnly Go.Departure.lateStores }, { on := 3, ground := Go.Ground.textOnly Go.Departure.lateStores }, { on := 4, ground := Go.Ground.phase }, { on := 5, ground := Go.Ground.phase }, { on := 6, ground := Go.Ground.textOnly Go.Departure.lateStores }, { on := 7, ground := Go.Ground.textOnly Go.Departure.lateStores }], guard := none }) (v := _) rfl (by kernel_rfl) (by kernel_rfl) (by kernel_rfl) (fun _ _ _ h => h) (Or.inl ⟨by rfl, ?hyR11⟩) C2.out ?reR11
      case hyR11 => (rintro W' hS0; clear hS0; go_simp; try with_reducible rfl)
      try simp only [Act.put, List.setIfInBounds_toArray, List.set_cons_zero, List.set_cons_succ]
      refine' wpAnyH_take (i := 9) (oi := { dst := some 25, op := Go.Op.fieldAddr 54 (Go.Operand.tmp 24) 0, type := 0, pos := "graph.go:73", after := #[{ on := 8, ground := Go.Ground.data }, { on := 0, ground := Go.Ground.phase }, { on := 1, ground := Go.Ground.phase }, { on := 2, ground := Go.Ground.textOnly Go.Departure.lateStores }, { on := 3, ground := Go.Ground.textOnly Go.Departure.lateStores }, { on := 4, ground := Go.Ground.phase }, { on := 5, ground := Go.Ground.phase }, { on := 6, ground := Go.Ground.textOnly Go.Departure.lateStores }, { on := 7, ground := Go.Ground.textOnly Go.Departure.lateStores }], guard := none }) (v := _) rfl (by kernel_rfl) (by kernel_rfl) (by kernel_rfl) (fun _ _ _ h => h) (Or.inl ⟨by rfl, ?hyR12⟩) C2.out ?reR12
      case hyR12 => (rintro W' hS0; clear hS0; go_simp; try with_reducible rfl)
      try simp only [Act.put, List.setIfInBounds_toArray, List.set_cons_zero, List.set_cons_succ]
      refine wpAnyH_ready (rs := [10]) (by kernel_rfl) (by simp) ?_
      refine AllReadyH.cons (o := { dst := none, op := Go.Op.store 3 (Go.Operand.tmp 25) (Go.Operand.tmp 21), type := 0, pos := "graph.go:73", after := #[{ on := 9, ground := Go.Ground.data }, { on := 5, ground := Go.Ground.data }, { on := 0, ground := Go.Ground.phase }, { on := 1, ground := Go.Ground.phase }, { on := 2, ground := Go.Ground.textOnly Go.Departure.lateStores }, { on := 3, ground := Go.Ground.textOnly Go.Departure.lateStores }, { on := 4, ground := Go.Ground.phase }, { on := 5, ground := Go.Ground.phase }, { on := 6, ground := Go.Ground.textOnly Go.Departure.lateStores }, { on := 7, ground := Go.Ground.textOnly Go.Departure.lateStores }], guard := none }) rfl (fun K hK => ?_) ?_
      · -- 10: store
        have v0 : w1.cell? ⟨g, k * 4, none⟩ = some (.int .i64 f) := (Blk.cell G2.out _).trans U0.out
        have f0 : w1.frozen? ⟨g, k * 4, none⟩ = false := Blk.frozen G2.out _
        go_simp
        have k13 := Lib.hid (Blk.far (C2.out) (p := ⟨g, k * 4, none⟩) (by simp; omega) (.int .i64 t))
        have k14 := Lib.hid (Blk.far (D0.out) (p := ⟨g, k * 4, none⟩) (by simp; omega) (.int .i64 t))
        have k15 := Lib.hid (Blk.far (D1.out) (p := ⟨g, k * 4, none⟩) (by simp; omega) (.int .i64 t))
        have k16 := Lib.hid (Blk.set_ (G2.out) (k * 4) (.int .i64 t))
        have k17 := Lib.hid (Below.setCell (BE.out) (p := ⟨g, k * 4, none⟩) (by simp; omega) (.int .i64 t))
        obtain ⟨w18, hw19⟩ : ∃ w', w' = (w1.setCell ⟨g, k * 4, none⟩ (.int .i64 t)) := ⟨_, rfl⟩
        rw [← hw19] at k13 k16 k14 k15 k17
        rw [← hw19]
        clear hw19 v0 f0
        refine hK.out _ _ k13.out (fun _ => ?_); clear hK K
        try simp only [Act.put, List.setIfInBounds_toArray, List.set_cons_zero, List.set_cons_succ]
        refine' wpAnyH_take (i := 11) (oi := { dst := some 26, op := Go.Op.indexAddr 22 (Go.Operand.tmp 18) (Go.Operand.tmp 19), type := 0, pos := "graph.go:73", after := #[{ on := 2, ground := Go.Ground.data }, { on := 3, ground := Go.Ground.data }, { on := 0, ground := Go.Ground.phase }, { on := 1, ground := Go.Ground.phase }, { on := 2, ground := Go.Ground.phase }, { on := 3, ground := Go.Ground.phase }, { on := 4, ground := Go.Ground.phase }, { on := 5, ground := Go.Ground.phase }, { on := 6, ground := Go.Ground.phase }, { on := 7, ground := Go.Ground.phase }, { on := 8, ground := Go.Ground.phase }, { on := 9, ground := Go.Ground.phase }, { on := 10, ground := Go.Ground.phase }], guard := none }) (v := _) rfl (by kernel_rfl) (by kernel_rfl) (by kernel_rfl) (fun _ _ _ h => h) (Or.inl ⟨by rfl, ?hyR20⟩) k13.out ?reR20
        case hyR20 => (rintro W' hS0; clear hS0; go_simp; try with_reducible rfl)
        try simp only [Act.put, List.setIfInBounds_toArray, List.set_cons_zero, List.set_cons_succ]
        refine' wpAnyH_take (i := 12) (oi := { dst := some 27, op := Go.Op.fieldAddr 54 (Go.Operand.tmp 26) 1, type := 0, pos := "graph.go:73", after := #[{ on := 11, ground := Go.Ground.data }, { on := 0, ground := Go.Ground.phase }, { on := 1, ground := Go.Ground.phase }, { on := 2, ground := Go.Ground.phase }, { on := 3, ground := Go.Ground.phase }, { on := 4, ground := Go.Ground.phase }, { on := 5, ground := Go.Ground.phase }, { on := 6, ground := Go.Ground.phase }, { on := 7, ground := Go.Ground.phase }, { on := 8, ground := Go.Ground.phase }, { on := 9, ground := Go.Ground.phase }, { on := 10, ground := Go.Ground.phase }], guard := none }) (v := _) rfl (by kernel_rfl) (by kernel_rfl) (by kernel_rfl) (fun _ _ _ h => h) (Or.inl ⟨by rfl, ?hyR21⟩) k13.out ?reR21
        case hyR21 => (rintro W' hS0; clear hS0; go_simp; try with_reducible rfl)
        try simp only [Act.put, List.setIfInBounds_toArray, List.set_cons_zero, List.set_cons_succ]
        refine wpAnyH_ready (rs := [13]) (by kernel_rfl) (by simp) ?_
        refine AllReadyH.cons (o := { dst := none, op := Go.Op.store 3 (Go.Operand.tmp 27) (Go.Operand.tmp 23), type := 0, pos := "graph.go:73", after := #[{ on := 12, ground := Go.Ground.data }, { on := 7, ground := Go.Ground.data }, { on := 10, ground := Go.Ground.chain }, { on := 0, ground := Go.Ground.phase }, { on := 1, ground := Go.Ground.phase }, { on := 2, ground := Go.Ground.phase }, { on := 3, ground := Go.Ground.phase }, { on := 4, ground := Go.Ground.phase }, { on := 5, ground := Go.Ground.phase }, { on := 6, ground := Go.Ground.phase }, { on := 7, ground := Go.Ground.phase }, { on := 8, ground := Go.Ground.phase }, { on := 9, ground := Go.Ground.phase }, { on := 10, ground := Go.Ground.phase }], guard := none }) rfl (fun K hK => ?_) ?_
        · -- 13: store
          have v0 : w18.cell? ⟨g, k * 4 + 1, none⟩ = some (.int .i64 t) := (Blk.cell k16.out _).trans U1.out
          have f0 : w18.frozen? ⟨g, k * 4 + 1, none⟩ = false := Blk.frozen k16.out _
          go_simp
          have k22 := Lib.hid (Blk.far (k13.out) (p := ⟨g, k * 4 + 1, none⟩) (by simp; omega) (.int .i64 f))
          have k23 := Lib.hid (Blk.far (k14.out) (p := ⟨g, k * 4 + 1, none⟩) (by simp; omega) (.int .i64 f))
          have k24 := Lib.hid (Blk.far (k15.out) (p := ⟨g, k * 4 + 1, none⟩) (by simp; omega) (.int .i64 f))
          have k25 := Lib.hid (Blk.set_ (k16.out) (k * 4 + 1) (.int .i64 f))
          have k26 := Lib.hid (Below.setCell (k17.out) (p := ⟨g, k * 4 + 1, none⟩) (by simp; omega) (.int .i64 f))
          obtain ⟨w27, hw28⟩ : ∃ w', w' = (w18.setCell ⟨g, k * 4 + 1, none⟩ (.int .i64 f)) := ⟨_, rfl⟩
          rw [← hw28] at k22 k25 k23 k24 k26
          rw [← hw28]
          clear hw28 v0 f0
          refine hK.out _ _ k22.out (fun _ => ?_); clear hK K
          try simp only [Act.put, List.setIfInBounds_toArray, List.set_cons_zero, List.set_cons_succ]
          refine wpAnyH_done (by kernel_rfl) ?_ _
          have hfin := k25.out
          rw [List.setIfInBounds_toArray, List.setIfInBounds_toArray, HSET.out] at hfin
          go_wp2
          go_roundw
          case rel => exact ⟨k + 1, by omega, by go_num, hfin, k23.out, k24.out, k26.out⟩
          case measure => (simp [intOf]; omega)
        exact AllReadyH.nil
      exact AllReadyH.nil
    · obtain rfl : k = n := by omega
      have g3 := g2
      rw [show k = l.length from HLEN.out.symm, swapK_all] at g3
      have G3 := Lib.hid g3; have D0 := Lib.hid d0; have D1 := Lib.hid d1; clear g2 g3 d0 d1
      have y0 : wr.cell? ⟨w.heap.size, 0, none⟩ = some (.int .i64 p) := D0.out.cell 0
      have v0 : wr.cell? ⟨w.heap.size + 1, 0, none⟩ = some (.int .i64 0) := D1.out.cell 0
      have v1 : wr.cell? ⟨w.heap.size + 1, 1, none⟩ = some (.slice none 0 0) := D1.out.cell 1
      have f0 : wr.frozen? ⟨w.heap.size + 1, 0, none⟩ = false := D1.out.frozen 0
      have f1 : wr.frozen? ⟨w.heap.size + 1, 1, none⟩ = false := D1.out.frozen 1
      have hlr : (revL l).length = k := by rw [← HLEN.out]; simp [revL]
      go_wp2
      refine bodyPost_ret (v := .agg #[.int .i64 p, .slice (some ⟨g, 0, none⟩) k k]) (by simp [results, Try.results117, go_sem, v0, v1]) rfl ?_
      refine ⟨g, rfl, block_own (((G3.out.far (p := ⟨w.heap.size + 1, 0, none⟩) (by simp; omega) _)).far (p := ⟨w.heap.size + 1, 1, none⟩) (by simp; omega) _) (by omega) hlr (by unfold maxLen; omega), (hbr.setCell (p := ⟨w.heap.size + 1, 0, none⟩) (by simp) _).setCell (p := ⟨w.heap.size + 1, 1, none⟩) (by simp) _⟩
end Go.Proofs.Ythlnialipjihdaa

/- ends of gauge: both ends, in a pair of arrays. -/
namespace Go.Proofs.Ythlnialipjihdaa
open Go.RowKit

def pair (x y : List Int) : List (List Int) := [x, y]
theorem pair_sixty {x y : List Int} (hx : x.length = 60) (hy : y.length = 60) : Sixty (pair x y) := fun r hr => by
  rcases List.mem_cons.1 hr with h | h
  · rw [h]; exact hx
  · rw [List.mem_singleton.1 h]; exact hy
theorem pair_length {x y : List Int} (hx : x.length = 60) (hy : y.length = 60) : (flat (pair x y)).length = 120 := by rw [flat_length (pair_sixty hx hy)]; rfl
theorem zero_pair : (∀ w, (zeroValue 103).run Try.prog w = .ok (.agg (arr (flat (pair zeros zeros)))) w) ∧ (Try.prog.info? 103).map (·.size) = some 120 :=
  zero_of_info (by kernel_rfl)
theorem size_pair {x y : List Int} (hx : x.length = 60) (hy : y.length = 60) : (Try.prog.info? 103).map (·.size) = some (arr (flat (pair x y))).size := by rw [zero_pair.2, arr_size, pair_length hx hy]

/-- A pair of arrays is made. -/
theorem exec_pair {o : Oper} {a : Act} {W : World} (u v : Operand) (ho : o.op = .build 103 #[(0, u), (1, v)]) {x y : List Int} (hu : a.eval u = .agg (arr x)) (hv : a.eval v = .agg (arr y)) (hx : x.length = 60) (hy : y.length = 60) :
    (execOp a.eval o).run Try.prog W = .ok (.value (.agg (arr (flat (pair x y))))) W := by
  obtain ⟨ie, hq, hz, hs, -⟩ := info_parts infoS
  have hsz : (sizeOf 79).run Try.prog W = .ok 60 W := by simp [sizeOf, typeInfo, hq, hs]
  have hf := Great.fill_whole (s := 60) (by decide) [.agg (arr x), .agg (arr y)] (arr (flat (pair zeros zeros))) (by simp [Value.cells, arr_size, hx, hy]) (by rw [arr_size, pair_length rfl rfl]; rfl)
  have he : ([Value.agg (arr x), Value.agg (arr y)].flatMap fun v => v.cells.toList).toArray = arr (flat (pair x y)) := by simp [Value.cells, arr, flat, pair]
  rw [he] at hf
  unfold execOp
  simp only [ho, List.map_toArray, List.map_cons, List.map_nil, hu, hv, Instr.build, Sem.run_bind, zero_pair.1 W, Result.andThen_ok, run_underlying (Try.underlying103) W, hsz]
  have hf2 : Instr.fill (fun i => some (i * 60, 60)) (Value.agg (arr (flat (pair zeros zeros)))).cells [(0, Value.agg (arr x)), (1, Value.agg (arr y))] = some (arr (flat (pair x y))) := hf
  simp only [hf2, Sem.run_pure, Result.andThen_ok]

theorem okB_rev {l : List Bnd} (h : OkB l) : OkB (revL l) := fun b hb => by
  unfold revL at hb
  obtain ⟨c, hc, rfl⟩ := List.mem_map.1 hb
  obtain ⟨h1, h2, h3, h4, h5, h6⟩ := h c hc
  exact ⟨h3, h4, h1, h2, h5, h6⟩

def endsL (l : List Bnd) (p a : Nat) : List (List Int) := pair (setL l p (startL a)) (setL (revL l) p (startL a))
set_option maxRecDepth 100000 in
set_option maxHeartbeats 4000000 in
theorem ends_any (p a : Nat) (A : Option Addr) (n c : Nat) (l : List Bnd) (hp : p ≤ 60) (ha : a < 60) (hn400 : n ≤ 402) (hok : OkB l) (w : World) (hr : RdB w A n c l) :
    Calls Try.prog 94 #[.agg #[.int .i64 (p : Int), .slice A n c], .int .i64 (a : Int)] w fun e w' => e = .returned (.agg (arr (flat (endsL l p a)))) ∧ Below w.heap.size w w' := by
  have hB : Below w.heap.size w ((w.alloc (.cells #[.int .i64 (p : Int), .slice A n c] 70)).alloc (.cells (arr (flat (pair zeros zeros))) 103)) := ((Below.refl _ w).alloc (Nat.le_refl _) _).alloc (by simp) _
  have b0 := (Blk.new w 70 #[.int .i64 (p : Int), .slice A n c]).alloc (.cells (arr (flat (pair zeros zeros))) 103)
  have b1 := Blk.new (w.alloc (.cells #[.int .i64 (p : Int), .slice A n c] 70)) 103 (arr (flat (pair zeros zeros)))
  simp only [World.size_alloc] at b1
  have hf1 := fun w' hw' => from_any p a A n c l hp ha hn400 hok w' hw'
  have hf2 := fun B w' hw' => from_any p a (some ⟨B, 0, none⟩) n n (revL l) hp ha hn400 (okB_rev hok) w' hw'
  have hx := setL_length (l := l) (p := p) (startL_length a)
  have hy := setL_length (l := revL l) (p := p) (startL_length a)
  unfold endsL
  generalize setL l p (startL a) = x at *
  generalize setL (revL l) p (startL a) = y at *
  have RD1 := Lib.hid (hr.below hB).drew; have C0 := Lib.hid b0.drew; have C1 := Lib.hid b1.drew; have HBE := Lib.hid hB.drew; have HF1 := Lib.hid hf1; have HF2 := Lib.hid hf2; have HX := Lib.hid hx; have HY := Lib.hid hy
  clear hr b0 b1 hB hf1 hf2 hx hy hok
  have hlt := C1.out.lt
  go_enter Try.func94, Try.ntmps94
  go_wp2_with (first | (refine wpList_alloc_row rfl 103 rfl (arr (flat (pair zeros zeros))) zero_pair.1 ?_; simp only [World.size_alloc]))
  generalize (w.alloc (.cells #[.int .i64 (p : Int), .slice A n c] 70)).alloc (.cells (arr (flat (pair zeros zeros))) 103) = W0 at *
  refine wp_region_held_drew (S := (fun W' => Blk W' w.heap.size 70 #[.int .i64 (p : Int), .slice A n c])) (by kernel_rfl) C0.out (fun _ => ?_)
  obtain ⟨w29, hw30⟩ : ∃ w', w' = W0.drew := ⟨_, rfl⟩
  rw [← hw30] at C0 C1 HBE RD1
  rw [← hw30]
  clear hw30
  refine' wpAnyH_take (i := 0) (oi := { dst := some 5, op := Go.Op.load 70 (Go.Operand.tmp 2), type := 70, pos := "graph.go:134", after := #[], guard := none }) (v := _) rfl (by kernel_rfl) (by kernel_rfl) (by kernel_rfl) (fun _ _ _ h => h) (Or.inl ⟨by rfl, ?hyR31⟩) C0.out ?reR31
  case hyR31 => (rintro W' hS0; have hc0 : W'.cell? ⟨w.heap.size, 0, none⟩ = some (.int .i64 (p : Int)) := Blk.cell hS0 0; have hc1 : W'.cell? ⟨w.heap.size, 1, none⟩ = some (.slice A n c) := Blk.cell hS0 1; clear hS0; go_simp; try with_reducible rfl)
  try simp only [Act.put, List.setIfInBounds_toArray, List.set_cons_zero, List.set_cons_succ]
  refine' wpAnyH_take (i := 1) (oi := { dst := some 6, op := Go.Op.move (Go.Operand.tmp 1), type := 3, pos := "graph.go:134", after := #[], guard := none }) (v := _) rfl (by kernel_rfl) (by kernel_rfl) (by kernel_rfl) (fun _ _ _ h => h) (Or.inl ⟨by rfl, ?hyR32⟩) C0.out ?reR32
  case hyR32 => (rintro W' hS0; clear hS0; go_simp; try with_reducible rfl)
  try simp only [Act.put, List.setIfInBounds_toArray, List.set_cons_zero, List.set_cons_succ]
  refine' wpAnyH_take (i := 3) (oi := { dst := some 8, op := Go.Op.load 70 (Go.Operand.tmp 2), type := 70, pos := "graph.go:134", after := #[], guard := none }) (v := _) rfl (by kernel_rfl) (by kernel_rfl) (by kernel_rfl) (fun _ _ _ h => h) (Or.inl ⟨by rfl, ?hyR33⟩) C0.out ?reR33
  case hyR33 => (rintro W' hS0; have hc0 : W'.cell? ⟨w.heap.size, 0, none⟩ = some (.int .i64 (p : Int)) := Blk.cell hS0 0; have hc1 : W'.cell? ⟨w.heap.size, 1, none⟩ = some (.slice A n c) := Blk.cell hS0 1; clear hS0; go_simp; try with_reducible rfl)
  try simp only [Act.put, List.setIfInBounds_toArray, List.set_cons_zero, List.set_cons_succ]
  refine' wpAnyH_take (i := 5) (oi := { dst := some 10, op := Go.Op.move (Go.Operand.tmp 1), type := 3, pos := "graph.go:134", after := #[], guard := none }) (v := _) rfl (by kernel_rfl) (by kernel_rfl) (by kernel_rfl) (fun _ _ _ h => h) (Or.inl ⟨by rfl, ?hyR34⟩) C0.out ?reR34
  case hyR34 => (rintro W' hS0; clear hS0; go_simp; try with_reducible rfl)
  try simp only [Act.put, List.setIfInBounds_toArray, List.set_cons_zero, List.set_cons_succ]
  refine wpAnyH_ready (rs := [2]) (by kernel_rfl) (by simp) ?_
  refine AllReadyH.cons (o := { dst := some 7, op := Go.Op.call { callee := Go.Callee.value (Go.Operand.func 81), args := #[Go.Operand.tmp 5, Go.Operand.tmp 6], argTypes := #[70, 3] }, type := 79, pos := "graph.go:134", after := #[{ on := 0, ground := Go.Ground.data }, { on := 1, ground := Go.Ground.data }], guard := none }) rfl (fun K hK => ?_) ?_
  · -- 2: call
    go_simp
    go_at_call 81
    refine (HF1.out _ RD1.out).mono ?_
    rintro e w35 ⟨rfl, hb36⟩
    dsimp only
    have b0_37 := Lib.hid (Blk.keep (C0.out) hb36)
    have b1_38 := Lib.hid (Blk.keep (C1.out) hb36)
    have bel_39 := Lib.hid (Below.trans (HBE.out) (Below.mono hb36 ((HBE.out).size)))
    have rd_40 := Lib.hid (RdB.below (RD1.out) hb36)
    refine hK.out _ _ b0_37.out (fun _ => ?_); clear hK K
    try simp only [Act.put, List.setIfInBounds_toArray, List.set_cons_zero, List.set_cons_succ]
    refine wpAnyH_ready (rs := [4]) (by kernel_rfl) (by simp) ?_
    refine AllReadyH.cons (o := { dst := some 9, op := Go.Op.call { callee := Go.Callee.value (Go.Operand.func 117), args := #[Go.Operand.tmp 8], argTypes := #[70] }, type := 70, pos := "graph.go:134", after := #[{ on := 3, ground := Go.Ground.data }, { on := 2, ground := Go.Ground.chain }], guard := none }) rfl (fun K hK => ?_) ?_
    · -- 4: call
      go_simp
      go_at_call 117
      refine (reversed_any (p : Int) A n c l _ rd_40.out (by omega)).mono ?_
      rintro e w41 ⟨g4, rfl, ho4, hb42⟩
      dsimp only
      have rd4 := (OwnB.rd ho4).1
      have RD4 := Lib.hid rd4; clear ho4 rd4
      have b0_43 := Lib.hid (Blk.keep (b0_37.out) hb42)
      have b1_44 := Lib.hid (Blk.keep (b1_38.out) hb42)
      have bel_45 := Lib.hid (Below.trans (bel_39.out) (Below.mono hb42 ((bel_39.out).size)))
      have rd_46 := Lib.hid (RdB.below (rd_40.out) hb42)
      refine hK.out _ _ b0_43.out (fun _ => ?_); clear hK K
      try simp only [Act.put, List.setIfInBounds_toArray, List.set_cons_zero, List.set_cons_succ]
      refine wpAnyH_ready (rs := [6]) (by kernel_rfl) (by simp) ?_
      refine AllReadyH.cons (o := { dst := some 11, op := Go.Op.call { callee := Go.Callee.value (Go.Operand.func 81), args := #[Go.Operand.tmp 9, Go.Operand.tmp 10], argTypes := #[70, 3] }, type := 79, pos := "graph.go:134", after := #[{ on := 4, ground := Go.Ground.data }, { on := 5, ground := Go.Ground.data }, { on := 4, ground := Go.Ground.chain }], guard := none }) rfl (fun K hK => ?_) ?_
      · -- 6: call
        go_simp
        go_at_call 81
        refine (HF2.out _ _ RD4.out).mono ?_
        rintro e w47 ⟨rfl, hb48⟩
        dsimp only
        have b0_49 := Lib.hid (Blk.keep (b0_43.out) hb48)
        have b1_50 := Lib.hid (Blk.keep (b1_44.out) hb48)
        have bel_51 := Lib.hid (Below.trans (bel_45.out) (Below.mono hb48 ((bel_45.out).size)))
        have rd_52 := Lib.hid (RdB.below (rd_46.out) hb48)
        have rr_53 := Lib.hid (RdB.below (RD4.out) hb48)
        refine hK.out _ _ b0_49.out (fun _ => ?_); clear hK K
        try simp only [Act.put, List.setIfInBounds_toArray, List.set_cons_zero, List.set_cons_succ]
        refine' wpAnyH_take (i := 7) (oi := { dst := some 12, op := Go.Op.build 103 #[(0, Go.Operand.tmp 7), (1, Go.Operand.tmp 11)], type := 103, pos := "graph.go:134", after := #[{ on := 2, ground := Go.Ground.data }, { on := 6, ground := Go.Ground.data }], guard := none }) (v := _) rfl (by kernel_rfl) (by kernel_rfl) (by kernel_rfl) (fun _ _ _ h => h) (Or.inl ⟨by rfl, ?hyR54⟩) b0_49.out ?reR54
        case hyR54 => (rintro W' hS0; refine exec_pair (.tmp 7) (.tmp 11) ?_ ?_ ?_ HX.out HY.out; exact rfl; exact rfl; exact rfl)
        try simp only [Act.put, List.setIfInBounds_toArray, List.set_cons_zero, List.set_cons_succ]
        refine wpAnyH_ready (rs := [8]) (by kernel_rfl) (by simp) ?_
        refine AllReadyH.cons (o := { dst := none, op := Go.Op.store 103 (Go.Operand.tmp 4) (Go.Operand.tmp 12), type := 0, pos := "graph.go:134", after := #[{ on := 7, ground := Go.Ground.data }, { on := 6, ground := Go.Ground.chain }, { on := 0, ground := Go.Ground.phase }, { on := 1, ground := Go.Ground.phase }, { on := 2, ground := Go.Ground.phase }, { on := 3, ground := Go.Ground.phase }, { on := 4, ground := Go.Ground.phase }, { on := 5, ground := Go.Ground.phase }, { on := 6, ground := Go.Ground.phase }, { on := 7, ground := Go.Ground.phase }], guard := none }) rfl (fun K hK => ?_) ?_
        · -- 8: store
          rw [if_pos (by rfl)]
          refine wp_store_row 103 (.tmp 4) (.tmp 12) rfl (w.heap.size + 1) (arr (flat (pair x y))) rfl rfl 103 (arr (flat (pair zeros zeros))) b1_50.out (size_pair HX.out HY.out) (by rw [arr_size, arr_size, pair_length rfl rfl, pair_length HX.out HY.out]) (arr_one _) ?_
          have k55 := Lib.hid (Blk.rowFar (b0_49.out) (g' := w.heap.size + 1) (by omega) (arr (flat (pair x y))))
          refine hK.out _ _ k55.out (fun _ => ?_); clear hK K
          try simp only [Act.put, List.setIfInBounds_toArray, List.set_cons_zero, List.set_cons_succ]
          refine wpAnyH_done (by kernel_rfl) ?_ _
          go_wp2
          refine bodyPost_ret (results_cell_row rfl _ _ (w.heap.size + 1) 103 (arr (flat (pair x y))) (0, 0) _ rfl (Blk.row (b1_50.out) (arr (flat (pair x y)))) Try.underlying103 rfl (size_pair HX.out HY.out)) rfl ?_
          exact ⟨rfl, below_setRow (bel_51.out) (by omega) _⟩
        exact AllReadyH.nil
      exact AllReadyH.nil
    exact AllReadyH.nil
  exact AllReadyH.nil
end Go.Proofs.Ythlnialipjihdaa

/- Two pairs of arrays, compared. -/
namespace Go.Proofs.Ythlnialipjihdaa
open Go.RowKit

theorem arr_pair (a b : List Int) : arr (flat (pair a b)) = (a.map (Value.int .i64) ++ b.map (Value.int .i64)).toArray := by
  unfold arr flat pair
  rw [List.flatten_cons, List.flatten_cons, List.flatten_nil, List.append_nil, List.map_append]
theorem ext_left {α : Type} (u v : List α) : ((u ++ v).toArray).extract 0 u.length = u.toArray := by
  rw [List.extract_toArray, List.extract_eq_take_drop, List.drop_zero, Nat.sub_zero, List.take_left]
theorem ext_right {α : Type} (u v : List α) : ((u ++ v).toArray).extract u.length (u.length + v.length) = v.toArray := by
  rw [List.extract_toArray, List.extract_eq_take_drop, List.drop_left, Nat.add_sub_cancel_left, List.take_length]
theorem ext_zero {a b : List Int} {n : Nat} (ha : a.length = n) : (arr (flat (pair a b))).extract 0 n = arr a := by
  have h := ext_left (a.map (Value.int .i64)) (b.map (Value.int .i64))
  rw [List.length_map, ha] at h
  rw [arr_pair, h]
  rfl
theorem ext_one {a b : List Int} {n m : Nat} (ha : a.length = n) (hb : n + b.length = m) : (arr (flat (pair a b))).extract n m = arr b := by
  have h := ext_right (a.map (Value.int .i64)) (b.map (Value.int .i64))
  rw [List.length_map, List.length_map, ha, hb] at h
  rw [arr_pair, h]
  rfl

theorem agg_sums (w : World) : (isAgg 79).run Try.prog w = .ok true w := by
  unfold isAgg
  rw [Sem.run_bind, run_underlying Try.underlying79 w]
  rfl
theorem sizeOf_sums (w : World) : (sizeOf 79).run Try.prog w = .ok 60 w := by
  obtain ⟨ie, hq, hz, hs, -⟩ := info_parts infoS
  simp [sizeOf, typeInfo, hq, hs]
theorem part_zero {a b : List Int} (ha : a.length = 60) (w : World) : (part 79 (arr (flat (pair a b))) 0).run Try.prog w = .ok (.agg (arr a)) w := by
  unfold part
  rw [Sem.run_bind, agg_sums w, Result.andThen_ok, if_pos rfl, Sem.run_bind, sizeOf_sums w, Result.andThen_ok, Sem.run_pure, Nat.zero_add, ext_zero ha]
theorem part_one {a b : List Int} (ha : a.length = 60) (hb : b.length = 60) (w : World) : (part 79 (arr (flat (pair a b))) 60).run Try.prog w = .ok (.agg (arr b)) w := by
  unfold part
  rw [Sem.run_bind, agg_sums w, Result.andThen_ok, if_pos rfl, Sem.run_bind, sizeOf_sums w, Result.andThen_ok, Sem.run_pure, ext_one ha (by rw [hb])]

set_option maxHeartbeats 400000 in
/-- A law on arrays of two. -/
theorem run_equal_two {P : Program} (d : Nat) (t e : TypeId) (sz : Nat) (w : World) (ht : P.underlying t = some (.array 2 e)) (hsz : (sizeOf e).run P w = .ok sz w) {P1 P2 : Array Value} {X1 X2 Y1 Y2 : Value} {b1 b2 : Bool}
    (h1 : (part e P1 0).run P w = .ok X1 w) (h2 : (part e P2 0).run P w = .ok X2 w) (h3 : (part e P1 sz).run P w = .ok Y1 w) (h4 : (part e P2 sz).run P w = .ok Y2 w)
    (h5 : (Op.equalIn d e X1 X2).run P w = .ok b1 w) (h6 : (Op.equalIn d e Y1 Y2).run P w = .ok b2 w) : (Op.equalIn (d + 1) t (.agg P1) (.agg P2)).run P w = .ok (b1 && b2) w := by
  rw [Op.equalIn]
  simp only [Sem.run_bind, run_underlying ht, Result.andThen_ok, hsz, Std.Legacy.Range.forIn_eq_forIn_range', Std.Legacy.Range.size, Nat.sub_zero, Nat.add_sub_cancel, Nat.div_one]
  rw [show List.range' 0 2 = [0, 1] from rfl]
  simp only [List.forIn_cons, List.forIn_nil, Sem.run_bind, Nat.zero_mul, Nat.one_mul, h1, h2, h3, h4, h5, h6, Result.andThen_ok]
  cases b1 <;> cases b2 <;> simp [Result.andThen, h3, h4, h6]

/-- A law on two pairs of arrays. -/
theorem run_equal_pair (d : Nat) {x y x' y' : List Int} (hx : x.length = 60) (hy : y.length = 60) (hx' : x'.length = 60) (hy' : y'.length = 60) (w : World) :
    (Op.equalIn (d + 3) 103 (.agg (arr (flat (pair x y)))) (.agg (arr (flat (pair x' y'))))).run Try.prog w = .ok (decide (x = x') && decide (y = y')) w :=
  run_equal_two (d + 2) 103 79 60 w Try.underlying103 (sizeOf_sums w) (part_zero hx w) (part_zero hx' w) (part_one hx hy w) (part_one hx' hy' w)
    (run_equal_arr d 79 3 60 Try.underlying79 Try.underlying3 (fun w => by kernel_rfl) x x' hx hx' w)
    (run_equal_arr d 79 3 60 Try.underlying79 Try.underlying3 (fun w => by kernel_rfl) y y' hy hy' w)
theorem eql_pair {x y x' y' : List Int} (hx : x.length = 60) (hy : y.length = 60) (hx' : x'.length = 60) (hy' : y'.length = 60) (w : World) :
    (Op.equalIn 10000 103 (.agg (arr (flat (pair x y)))) (.agg (arr (flat (pair x' y'))))).run Try.prog w = .ok (decide (x = x') && decide (y = y')) w :=
  run_equal_pair 9997 hx hy hx' hy' w
theorem eql_pair_yes {x y x' y' : List Int} (hx : x.length = 60) (hy : y.length = 60) (hx' : x'.length = 60) (hy' : y'.length = 60) (h : x = x' ∧ y = y') (w : World) :
    (Op.equalIn 10000 103 (.agg (arr (flat (pair x y)))) (.agg (arr (flat (pair x' y'))))).run Try.prog w = .ok true w := by
  have h1 := eql_pair hx hy hx' hy' w
  rw [decide_eq_true h.1, decide_eq_true h.2] at h1
  exact h1
theorem eql_pair_no {x y x' y' : List Int} (hx : x.length = 60) (hy : y.length = 60) (hx' : x'.length = 60) (hy' : y'.length = 60) (h : ¬ (x = x' ∧ y = y')) (w : World) :
    (Op.equalIn 10000 103 (.agg (arr (flat (pair x y)))) (.agg (arr (flat (pair x' y'))))).run Try.prog w = .ok false w := by
  have h1 := eql_pair hx hy hx' hy' w
  have h2 : (decide (x = x') && decide (y = y')) = false := by
    by_cases h1 : x = x'
    · rw [decide_eq_false (p := y = y') (fun h2 => h ⟨h1, h2⟩), Bool.and_false]
    · rw [decide_eq_false h1, Bool.false_and]
  rw [h2] at h1
  exact h1
end Go.Proofs.Ythlnialipjihdaa

/- Changed of gauge. -/
namespace Go.Proofs.Ythlnialipjihdaa
open Go.RowKit

/-- Do the ends of a point differ? -/
def chgP (B C : List (List Int)) (q : Nat) : Bool := decide (at_ (flat B) q ≠ at_ (flat C) q ∨ at_ (flat B) (60 + q) ≠ at_ (flat C) (60 + q))
def chgL (B C : List (List Int)) (k : Nat) : List Int := ((List.range k).filter (chgP B C)).map (fun q : Nat => (q : Int))
def changedV (p : Int) (l : List Bnd) (x : Bnd) (a : Int) : List Int × Int :=
  if withC p l x = 0 then
    (if scode p (l ++ [x]) [a] = 0 then (chgL (endsL l p.toNat a.toNat) (endsL (l ++ [x]) p.toNat a.toNat) p.toNat, 0) else ([], scode p (l ++ [x]) [a]))
  else ([], withC p l x)

theorem chgL_succ (B C : List (List Int)) (k : Nat) : chgL B C (k + 1) = if chgP B C k = true then chgL B C k ++ [(k : Int)] else chgL B C k := by
  unfold chgL
  rw [List.range_succ, List.filter_append, List.map_append]
  by_cases h : chgP B C k = true
  · rw [if_pos h]; simp [h]
  · rw [if_neg h]; simp [h]
theorem chgL_same (B : List (List Int)) (k : Nat) : chgL B B k = [] := by
  unfold chgL
  rw [List.filter_eq_nil_iff.2 (fun q _ => by unfold chgP; simp)]
  rfl
theorem chgL_length (B C : List (List Int)) (k : Nat) : (chgL B C k).length ≤ k := by
  unfold chgL
  rw [List.length_map]
  have := List.length_filter_le (chgP B C) (List.range k)
  rwa [List.length_range] at this

theorem rdI_one (w : World) (a : Int) : RdI (w.alloc (.cells #[.int .i64 a] 3)) (some ⟨w.heap.size, 0, none⟩) 1 1 [a] := by
  refine ⟨rfl, Nat.le_refl _, (fun h => by cases h), .inr ⟨w.heap.size, 0, rfl, by simp, fun j u hu => ?_⟩⟩
  rw [Nat.zero_add, (Blk.new w 3 #[.int .i64 a]).cell j]
  simpa using hu
theorem withC_ok {p : Int} {l : List Bnd} {x : Bnd} (h : withC p l x = 0) : chk p l = 0 ∧ chk p (l ++ [x]) = 0 := by
  unfold withC at h
  split at h
  · rename_i h1; exact ⟨h1, h⟩
  · rename_i h1; exact absurd h h1

set_option maxRecDepth 100000 in
set_option maxHeartbeats 4000000 in
theorem Changed_any (p f t m i a : Int) (A : Option Addr) (n c : Nat) (l : List Bnd) (w : World) (hr : RdB w A n c l) (hn : n ≤ 1000) :
    Calls Try.prog 50 #[.agg #[.int .i64 p, .slice A n c], .agg #[.int .i64 f, .int .i64 t, .int .i64 m, .int .i64 i], .int .i64 a] w (RetL (changedV p l ⟨f, t, m, i⟩ a) w) := by
  have hB : Below w.heap.size w ((w.alloc (.cells #[.int .i64 p, .slice A n c] 24)).alloc (.cells #[.int .i64 f, .int .i64 t, .int .i64 m, .int .i64 i] 54)) := ((Below.refl _ w).alloc (Nat.le_refl _) _).alloc (by simp) _
  have hc := With_any p f t m i A n c l _ (hr.below hB) hn
  have b0 := (Blk.new w 24 #[.int .i64 p, .slice A n c]).alloc (.cells #[.int .i64 f, .int .i64 t, .int .i64 m, .int .i64 i] 54)
  have HC := Lib.hid hc; have HR := Lib.hid hr; have B0 := Lib.hid b0; clear hc hr b0
  unfold changedV
  obtain ⟨x, hx⟩ : ∃ x : Bnd, x = ⟨f, t, m, i⟩ := ⟨_, rfl⟩
  unfold RetS at HC
  rw [← hx] at HC ⊢
  by_cases hw : withC p l x = 0
  · rw [if_pos hw]
    obtain ⟨hk1, hk2⟩ := withC_ok hw
    rw [hw] at HC
    simp only [sysR_yes] at HC
    obtain ⟨hp1, hp2, hlen, -⟩ := chk_ok hk2
    have hok1 := okB_of hk1
    have hok2 := okB_of hk2
    have hn1 : n + 1 ≤ 400 := by have := HR.out.len; simp at hlen; omega
    clear hw hk1 hk2
    have HN2 : (l ++ [x]).length = n + 1 := by have := HR.out.len; simp; omega
    have HOK1 := Lib.hid hok1; have HOK2 := Lib.hid hok2; clear hok1 hok2
    by_cases hs : scode p (l ++ [x]) [a] = 0
    · rw [if_pos hs]
      have HSC := Lib.hid hs
      obtain ⟨hk, hpt, hsol⟩ := scode_ok hs
      simp only [List.all_cons, List.all_nil, Bool.and_true, isPt, decide_eq_true_eq] at hpt
      obtain ⟨ha0, ha1⟩ := hpt
      clear hs hk hsol
      obtain ⟨p, rfl⟩ := Int.eq_ofNat_of_zero_le (show 0 ≤ p by omega)
      obtain ⟨a, rfl⟩ := Int.eq_ofNat_of_zero_le ha0
      simp only [Int.toNat_natCast]
      have he1 := fun w' hw' => ends_any p a A n c l (by omega) (by omega) (by omega) HOK1.out w' hw'
      have he2 := fun A2 c2 w' hw' => ends_any p a A2 (n + 1) c2 (l ++ [x]) (by omega) (by omega) (by omega) HOK2.out w' hw'
      have hx0 := setL_length (l := l) (p := p) (startL_length a)
      have hx1 := setL_length (l := revL l) (p := p) (startL_length a)
      have hy0 := setL_length (l := l ++ [x]) (p := p) (startL_length a)
      have hy1 := setL_length (l := revL (l ++ [x])) (p := p) (startL_length a)
      have hE1 : endsL l p a = pair (setL l p (startL a)) (setL (revL l) p (startL a)) := rfl
      have hE2 : endsL (l ++ [x]) p a = pair (setL (l ++ [x]) p (startL a)) (setL (revL (l ++ [x])) p (startL a)) := rfl
      rw [hE1] at he1 ⊢
      rw [hE2] at he2 ⊢
      clear hE1 hE2
      generalize setL l p (startL a) = x0 at *
      generalize setL (revL l) p (startL a) = x1 at *
      generalize setL (l ++ [x]) p (startL a) = y0 at *
      generalize setL (revL (l ++ [x])) p (startL a) = y1 at *
      have HX0 := Lib.hid hx0; have HX1 := Lib.hid hx1; have HY0 := Lib.hid hy0; have HY1 := Lib.hid hy1; have HE1 := Lib.hid he1; have HE2' := Lib.hid he2; clear hx0 hx1 hy0 hy1 he1 he2
      obtain ⟨V, hV⟩ : ∃ V, chgL (pair x0 x1) (pair y0 y1) p = V := ⟨_, rfl⟩
      rw [hV]
      have HV := Lib.hid hV; clear hV
      obtain ⟨i0, hi0, hz0, hz1, hz2⟩ := info_parts infoI
      have HI := Lib.hid hi0; have HZ0 := Lib.hid hz0; have HZ1 := Lib.hid hz1; have HZ2 := Lib.hid hz2; clear hi0 hz0 hz1 hz2
      have hm : Try.prog.eqGuardType Try.prog.depth 103 = false := by kernel_rfl

      go_enter Try.func50, Try.ntmps50
      go_wp2_with fail
      refine HC.out.mono ?_
      rintro e w1 ⟨A2, n2, c2, rfl, ho, hb1⟩
      have hor := OwnB.rd (ho trivial)
      obtain rfl : n2 = n + 1 := by have := hor.1.len; omega
      have RO := Lib.hid hor.1; clear ho hor
      have hB1 := hB.trans (hb1.mono hB.size)
      have C0 := Lib.hid (B0.out.keep hb1)
      have r1 := rdI_one (w1.alloc (.cells #[.int .i64 p, .slice A2 (n + 1) c2] 24)) a
      simp only [World.size_alloc] at r1
      have hB2 := (hB1.alloc hB1.size (.cells #[.int .i64 p, .slice A2 (n + 1) c2] 24))
      have hB3 := hB2.alloc hB2.size (.cells #[.int .i64 a] 3)
      have hb2' : Below w1.heap.size w1 ((w1.alloc (.cells #[.int .i64 p, .slice A2 (n + 1) c2] 24)).alloc (.cells #[.int .i64 a] 3)) := ((Below.refl _ w1).alloc (Nat.le_refl _) _).alloc (by simp) _
      have hsv := solvable_any p A2 _ (n + 1) c2 1 1 (l ++ [x]) [a] _ (RO.out.below hb2') (by unfold maxLen; omega) r1 (by omega)
      have C0' := Lib.hid ((C0.out.alloc (.cells #[.int .i64 p, .slice A2 (n + 1) c2] 24)).alloc (.cells #[.int .i64 a] 3))
      have RO' := Lib.hid (RO.out.below hb2')
      have HSV := Lib.hid hsv; have HB3 := Lib.hid hB3; clear hsv r1 hb2' hB2 hB3
      have k0 : (w1.alloc (.cells #[.int .i64 p, .slice A2 (n + 1) c2] 24)).cell? ⟨w1.heap.size, 0, none⟩ = some (.int .i64 p) := (Blk.new w1 24 #[.int .i64 p, .slice A2 (n + 1) c2]).cell 0
      have k1 : (w1.alloc (.cells #[.int .i64 p, .slice A2 (n + 1) c2] 24)).cell? ⟨w1.heap.size, 1, none⟩ = some (.slice A2 (n + 1) c2) := (Blk.new w1 24 #[.int .i64 p, .slice A2 (n + 1) c2]).cell 1

      rw [HSC.out, sysR_yes] at HSV
      go_wp2_with fail
      refine HSV.out.mono ?_
      rintro e w2 ⟨rfl, hb2⟩
      have HE2 := Lib.hid (HE2'.out A2 c2)
      have hB4 := HB3.out.trans (hb2.mono HB3.out.size)
      have hs4 := hb2.size
      simp only [World.size_alloc] at hs4
      have hw1s := hB1.size
      have C0 := Lib.hid (((C0'.out.keep hb2)).alloc (.cells #[.int .i64 (p : Int), .slice A2 (n + 1) c2] 70)).drew
      have C1 := Lib.hid (Blk.new w2 70 #[.int .i64 (p : Int), .slice A2 (n + 1) c2]).drew
      have HBE := Lib.hid (hB4.alloc hB4.size (.cells #[.int .i64 (p : Int), .slice A2 (n + 1) c2] 70)).drew
      have RD1 := Lib.hid (HR.out.below (hB4.alloc hB4.size (.cells #[.int .i64 (p : Int), .slice A2 (n + 1) c2] 70))).drew
      have RD2 := Lib.hid ((RO'.out.below hb2).alloc (.cells #[.int .i64 (p : Int), .slice A2 (n + 1) c2] 70)).drew
      clear C0' RO' RO B0 HC HSV HB3 HE2' k0 k1
      go_upto_region 7 with fail
      generalize w2.alloc (.cells #[.int .i64 (p : Int), .slice A2 (n + 1) c2] 70) = W0 at *
      go_cut [11, 12] from 34 to 39 (fun s11 s12 wx => ∃ g1 g2, s11 = .pointer (some ⟨g1, 0, none⟩) ∧ s12 = .pointer (some ⟨g2, 0, none⟩) ∧ Blk wx g1 103 (arr (flat (pair x0 x1))) ∧ Blk wx g2 103 (arr (flat (pair y0 y1))) ∧ Blk wx w.heap.size 24 #[.int .i64 (p : Int), .slice A n c] ∧ Below w.heap.size w wx)
      case first =>
        refine wp_region_held_drew (S := (fun W' => Blk W' w.heap.size 24 #[.int .i64 (p : Int), .slice A n c] ∧ Blk W' w2.heap.size 70 #[.int .i64 (p : Int), .slice A2 (n + 1) c2])) (by kernel_rfl) ⟨C0.out, C1.out⟩ (fun _ => ?_)
        obtain ⟨w56, hw57⟩ : ∃ w', w' = W0.drew := ⟨_, rfl⟩
        rw [← hw57] at C0 C1 HBE RD1 RD2
        rw [← hw57]
        clear hw57
        refine' wpAnyH_take (i := 0) (oi := { dst := some 34, op := Go.Op.load 24 (Go.Operand.tmp 3), type := 24, pos := "solve.go:190", after := #[], guard := none }) (v := _) rfl (by kernel_rfl) (by kernel_rfl) (by kernel_rfl) (fun _ _ _ h => h) (Or.inl ⟨by rfl, ?hyR58⟩) ⟨C0.out, C1.out⟩ ?reR58
        case hyR58 => (rintro W' ⟨hS0, hS1⟩; have hc0 : W'.cell? ⟨w.heap.size, 0, none⟩ = some (.int .i64 (p : Int)) := Blk.cell hS0 0; have hc1 : W'.cell? ⟨w.heap.size, 1, none⟩ = some (.slice A n c) := Blk.cell hS0 1; clear hS0 hS1; go_simp; try with_reducible rfl)
        try simp only [Act.put, List.setIfInBounds_toArray, List.set_cons_zero, List.set_cons_succ]
        refine' wpAnyH_take (i := 1) (oi := { dst := some 35, op := Go.Op.move (Go.Operand.tmp 2), type := 3, pos := "solve.go:190", after := #[], guard := none }) (v := _) rfl (by kernel_rfl) (by kernel_rfl) (by kernel_rfl) (fun _ _ _ h => h) (Or.inl ⟨by rfl, ?hyR59⟩) ⟨C0.out, C1.out⟩ ?reR59
        case hyR59 => (rintro W' ⟨hS0, hS1⟩; clear hS0 hS1; go_simp; try with_reducible rfl)
        try simp only [Act.put, List.setIfInBounds_toArray, List.set_cons_zero, List.set_cons_succ]
        refine' wpAnyH_take (i := 3) (oi := { dst := some 37, op := Go.Op.load 70 (Go.Operand.tmp 10), type := 70, pos := "solve.go:190", after := #[], guard := none }) (v := _) rfl (by kernel_rfl) (by kernel_rfl) (by kernel_rfl) (fun _ _ _ h => h) (Or.inl ⟨by rfl, ?hyR60⟩) ⟨C0.out, C1.out⟩ ?reR60
        case hyR60 => (rintro W' ⟨hS0, hS1⟩; have hc0 : W'.cell? ⟨w2.heap.size, 0, none⟩ = some (.int .i64 (p : Int)) := Blk.cell hS1 0; have hc1 : W'.cell? ⟨w2.heap.size, 1, none⟩ = some (.slice A2 (n + 1) c2) := Blk.cell hS1 1; clear hS0 hS1; go_simp; try with_reducible rfl)
        try simp only [Act.put, List.setIfInBounds_toArray, List.set_cons_zero, List.set_cons_succ]
        refine' wpAnyH_take (i := 4) (oi := { dst := some 38, op := Go.Op.move (Go.Operand.tmp 2), type := 3, pos := "solve.go:190", after := #[], guard := none }) (v := _) rfl (by kernel_rfl) (by kernel_rfl) (by kernel_rfl) (fun _ _ _ h => h) (Or.inl ⟨by rfl, ?hyR61⟩) ⟨C0.out, C1.out⟩ ?reR61
        case hyR61 => (rintro W' ⟨hS0, hS1⟩; clear hS0 hS1; go_simp; try with_reducible rfl)
        try simp only [Act.put, List.setIfInBounds_toArray, List.set_cons_zero, List.set_cons_succ]
        refine wpAnyH_ready (rs := [2, 6, 7]) (by kernel_rfl) (by simp) ?_
        refine AllReadyH.cons (o := { dst := some 36, op := Go.Op.call { callee := Go.Callee.value (Go.Operand.func 94), args := #[Go.Operand.tmp 34, Go.Operand.tmp 35], argTypes := #[70, 3] }, type := 103, pos := "solve.go:190", after := #[{ on := 0, ground := Go.Ground.data }, { on := 1, ground := Go.Ground.data }], guard := none }) rfl (fun K hK => ?_) ?_
        · -- 2: call
          go_simp
          go_at_call 94
          refine (HE1.out _ RD1.out).mono ?_
          rintro e w62 ⟨rfl, hb63⟩
          dsimp only
          have b0_64 := Lib.hid (Blk.keep (C0.out) hb63)
          have b1_65 := Lib.hid (Blk.keep (C1.out) hb63)
          have bel_66 := Lib.hid (Below.trans (HBE.out) (Below.mono hb63 ((HBE.out).size)))
          have rd_67 := Lib.hid (RdB.below (RD1.out) hb63)
          have rr_68 := Lib.hid (RdB.below (RD2.out) hb63)
          refine hK.out _ _ ⟨b0_64.out, b1_65.out⟩ (fun _ => ?_); clear hK K
          try simp only [Act.put, List.setIfInBounds_toArray, List.set_cons_zero, List.set_cons_succ]
          refine wpAnyH_ready (rs := [5, 6, 7]) (by kernel_rfl) (by simp) ?_
          refine AllReadyH.cons (o := { dst := some 39, op := Go.Op.call { callee := Go.Callee.value (Go.Operand.func 94), args := #[Go.Operand.tmp 37, Go.Operand.tmp 38], argTypes := #[70, 3] }, type := 103, pos := "solve.go:190", after := #[{ on := 3, ground := Go.Ground.data }, { on := 4, ground := Go.Ground.data }, { on := 2, ground := Go.Ground.chain }], guard := none }) rfl (fun K hK => ?_) ?_
          · -- 5: call
            go_simp
            go_at_call 94
            refine (HE2.out _ rr_68.out).mono ?_
            rintro e w69 ⟨rfl, hb70⟩
            dsimp only
            have b0_71 := Lib.hid (Blk.keep (b0_64.out) hb70)
            have b1_72 := Lib.hid (Blk.keep (b1_65.out) hb70)
            have bel_73 := Lib.hid (Below.trans (bel_66.out) (Below.mono hb70 ((bel_66.out).size)))
            have rd_74 := Lib.hid (RdB.below (rd_67.out) hb70)
            have rr_75 := Lib.hid (RdB.below (rr_68.out) hb70)
            refine hK.out _ _ ⟨b0_71.out, b1_72.out⟩ (fun _ => ?_); clear hK K
            try simp only [Act.put, List.setIfInBounds_toArray, List.set_cons_zero, List.set_cons_succ]
            refine wpAnyH_ready (rs := [6, 7]) (by kernel_rfl) (by simp) ?_
            refine AllReadyH.cons (o := { dst := some 11, op := Go.Op.alloc 103, type := 0, pos := "solve.go:190", after := #[], guard := none }) rfl (fun K hK => ?_) ?_
            · -- 6: alloc
              rw [if_pos (by rfl)]
              refine wp_alloc_row 103 rfl (arr (flat (pair zeros zeros))) zero_pair.1 ?_
              have b0_80 := Lib.hid (Blk.alloc (b0_71.out) (.cells (arr (flat (pair zeros zeros))) 103))
              have b1_81 := Lib.hid (Blk.alloc (b1_72.out) (.cells (arr (flat (pair zeros zeros))) 103))
              have bel_82 := Lib.hid (Below.alloc (bel_73.out) ((bel_73.out).size) (.cells (arr (flat (pair zeros zeros))) 103))
              have rd_83 := Lib.hid (RdB.alloc (rd_74.out) (.cells (arr (flat (pair zeros zeros))) 103))
              have rr_84 := Lib.hid (RdB.alloc (rr_75.out) (.cells (arr (flat (pair zeros zeros))) 103))
              have ne85 := Lib.hid (Nat.ne_of_lt (Blk.lt b0_71.out))
              have ne86 := Lib.hid (Nat.ne_of_lt (Blk.lt b1_72.out))
              have lb87 := Lib.hid (bel_73.out.size)
              have x_88 := Lib.hid (Blk.new (w69) 103 (arr (flat (pair zeros zeros))))
              obtain ⟨g76, hg77⟩ : ∃ g, g = (w69).heap.size := ⟨_, rfl⟩
              obtain ⟨w78, hw79⟩ : ∃ w', w' = (w69).alloc (.cells (arr (flat (pair zeros zeros))) 103) := ⟨_, rfl⟩
              rw [← hw79] at b0_80 b1_81 bel_82 rd_83 rr_84 x_88
              rw [← hg77] at ne85 ne86 lb87 x_88
              rw [← hg77, ← hw79]
              clear hg77 hw79
              refine hK.out _ _ ⟨b0_80.out, b1_81.out⟩ (fun _ => ?_); clear hK K
              try simp only [Act.put, List.setIfInBounds_toArray, List.set_cons_zero, List.set_cons_succ]
              refine wpAnyH_ready (rs := [7]) (by kernel_rfl) (by simp) ?_
              refine AllReadyH.cons (o := { dst := some 12, op := Go.Op.alloc 103, type := 0, pos := "solve.go:190", after := #[], guard := none }) rfl (fun K hK => ?_) ?_
              · -- 7: alloc
                rw [if_pos (by rfl)]
                refine wp_alloc_row 103 rfl (arr (flat (pair zeros zeros))) zero_pair.1 ?_
                have b0_93 := Lib.hid (Blk.alloc (b0_80.out) (.cells (arr (flat (pair zeros zeros))) 103))
                have b1_94 := Lib.hid (Blk.alloc (b1_81.out) (.cells (arr (flat (pair zeros zeros))) 103))
                have bel_95 := Lib.hid (Below.alloc (bel_82.out) ((bel_82.out).size) (.cells (arr (flat (pair zeros zeros))) 103))
                have rd_96 := Lib.hid (RdB.alloc (rd_83.out) (.cells (arr (flat (pair zeros zeros))) 103))
                have rr_97 := Lib.hid (RdB.alloc (rr_84.out) (.cells (arr (flat (pair zeros zeros))) 103))
                have x_98 := Lib.hid (Blk.alloc (x_88.out) (.cells (arr (flat (pair zeros zeros))) 103))
                have ne99 := Lib.hid (Nat.ne_of_lt (Blk.lt b0_80.out))
                have ne100 := Lib.hid (Nat.ne_of_lt (Blk.lt b1_81.out))
                have lb101 := Lib.hid (bel_82.out.size)
                have ne102 := Lib.hid (Nat.ne_of_lt (Blk.lt x_88.out))
                have y_103 := Lib.hid (Blk.new (w78) 103 (arr (flat (pair zeros zeros))))
                obtain ⟨g89, hg90⟩ : ∃ g, g = (w78).heap.size := ⟨_, rfl⟩
                obtain ⟨w91, hw92⟩ : ∃ w', w' = (w78).alloc (.cells (arr (flat (pair zeros zeros))) 103) := ⟨_, rfl⟩
                rw [← hw92] at b0_93 b1_94 bel_95 rd_96 rr_97 x_98 y_103
                rw [← hg90] at ne99 ne100 lb101 ne102 y_103
                rw [← hg90, ← hw92]
                clear hg90 hw92
                refine hK.out _ _ ⟨b0_93.out, b1_94.out⟩ (fun _ => ?_); clear hK K
                try simp only [Act.put, List.setIfInBounds_toArray, List.set_cons_zero, List.set_cons_succ]
                refine wpAnyH_ready (rs := [8]) (by kernel_rfl) (by simp) ?_
                refine AllReadyH.cons (o := { dst := none, op := Go.Op.store 103 (Go.Operand.tmp 11) (Go.Operand.tmp 36), type := 0, pos := "solve.go:190", after := #[{ on := 6, ground := Go.Ground.data }, { on := 2, ground := Go.Ground.data }, { on := 5, ground := Go.Ground.chain }, { on := 0, ground := Go.Ground.phase }, { on := 1, ground := Go.Ground.phase }, { on := 2, ground := Go.Ground.phase }, { on := 3, ground := Go.Ground.textOnly Go.Departure.lateStores }, { on := 4, ground := Go.Ground.textOnly Go.Departure.lateStores }, { on := 5, ground := Go.Ground.textOnly Go.Departure.lateStoresUnsure }, { on := 6, ground := Go.Ground.phase }, { on := 7, ground := Go.Ground.phase }], guard := none }) rfl (fun K hK => ?_) ?_
                · -- 8: store
                  rw [if_pos (by rfl)]
                  refine wp_store_row 103 (.tmp 11) (.tmp 36) rfl _ (arr (flat (pair x0 x1))) rfl rfl 103 (arr (flat (pair zeros zeros))) x_98.out (size_pair HX0.out HX1.out) (by rw [arr_size, arr_size, pair_length rfl rfl, pair_length HX0.out HX1.out]) (arr_one _) ?_
                  have b0_106 := Lib.hid (Blk.rowFar (b0_93.out) (ne85.out) (arr (flat (pair x0 x1))))
                  have b1_107 := Lib.hid (Blk.rowFar (b1_94.out) (ne86.out) (arr (flat (pair x0 x1))))
                  have bel_108 := Lib.hid (below_setRow (bel_95.out) (lb87.out) (arr (flat (pair x0 x1))))
                  have x_109 := Lib.hid (Blk.row (x_98.out) (arr (flat (pair x0 x1))))
                  have y_110 := Lib.hid (Blk.rowFar (y_103.out) ((Ne.symm ne102.out)) (arr (flat (pair x0 x1))))
                  obtain ⟨w104, hw105⟩ : ∃ w', w' = (w91).setRow g76 (arr (flat (pair x0 x1))) := ⟨_, rfl⟩
                  rw [← hw105] at b0_106 b1_107 bel_108 x_109 y_110
                  rw [← hw105]
                  clear hw105
                  refine hK.out _ _ ⟨b0_106.out, b1_107.out⟩ (fun _ => ?_); clear hK K
                  try simp only [Act.put, List.setIfInBounds_toArray, List.set_cons_zero, List.set_cons_succ]
                  refine wpAnyH_ready (rs := [9]) (by kernel_rfl) (by simp) ?_
                  refine AllReadyH.cons (o := { dst := none, op := Go.Op.store 103 (Go.Operand.tmp 12) (Go.Operand.tmp 39), type := 0, pos := "solve.go:190", after := #[{ on := 7, ground := Go.Ground.data }, { on := 5, ground := Go.Ground.data }, { on := 8, ground := Go.Ground.chain }, { on := 0, ground := Go.Ground.phase }, { on := 1, ground := Go.Ground.phase }, { on := 2, ground := Go.Ground.phase }, { on := 3, ground := Go.Ground.phase }, { on := 4, ground := Go.Ground.phase }, { on := 5, ground := Go.Ground.phase }, { on := 6, ground := Go.Ground.phase }, { on := 7, ground := Go.Ground.phase }, { on := 8, ground := Go.Ground.phase }], guard := none }) rfl (fun K hK => ?_) ?_
                  · -- 9: store
                    rw [if_pos (by rfl)]
                    refine wp_store_row 103 (.tmp 12) (.tmp 39) rfl _ (arr (flat (pair y0 y1))) rfl rfl 103 (arr (flat (pair zeros zeros))) y_110.out (size_pair HY0.out HY1.out) (by rw [arr_size, arr_size, pair_length rfl rfl, pair_length HY0.out HY1.out]) (arr_one _) ?_
                    have b0_113 := Lib.hid (Blk.rowFar (b0_106.out) (ne99.out) (arr (flat (pair y0 y1))))
                    have b1_114 := Lib.hid (Blk.rowFar (b1_107.out) (ne100.out) (arr (flat (pair y0 y1))))
                    have bel_115 := Lib.hid (below_setRow (bel_108.out) (lb101.out) (arr (flat (pair y0 y1))))
                    have x_116 := Lib.hid (Blk.rowFar (x_109.out) (ne102.out) (arr (flat (pair y0 y1))))
                    have y_117 := Lib.hid (Blk.row (y_110.out) (arr (flat (pair y0 y1))))
                    obtain ⟨w111, hw112⟩ : ∃ w', w' = (w104).setRow g89 (arr (flat (pair y0 y1))) := ⟨_, rfl⟩
                    rw [← hw112] at b0_113 b1_114 bel_115 x_116 y_117
                    rw [← hw112]
                    clear hw112
                    refine hK.out _ _ ⟨b0_113.out, b1_114.out⟩ (fun _ => ?_); clear hK K
                    try simp only [Act.put, List.setIfInBounds_toArray, List.set_cons_zero, List.set_cons_succ]
                    refine wpAnyH_done (by kernel_rfl) ?_ _
                    go_wp2
                    go_meet
                    exact ⟨_, _, rfl, rfl, x_116.out, y_117.out, b0_113.out, bel_115.out⟩
                  exact AllReadyH.nil
                exact AllReadyH.nil
              exact AllReadyH.nil
            refine AllReadyH.cons (o := { dst := some 12, op := Go.Op.alloc 103, type := 0, pos := "solve.go:190", after := #[], guard := none }) rfl (fun K hK => ?_) ?_
            · -- 7: alloc
              rw [if_pos (by rfl)]
              refine wp_alloc_row 103 rfl (arr (flat (pair zeros zeros))) zero_pair.1 ?_
              have b0_122 := Lib.hid (Blk.alloc (b0_71.out) (.cells (arr (flat (pair zeros zeros))) 103))
              have b1_123 := Lib.hid (Blk.alloc (b1_72.out) (.cells (arr (flat (pair zeros zeros))) 103))
              have bel_124 := Lib.hid (Below.alloc (bel_73.out) ((bel_73.out).size) (.cells (arr (flat (pair zeros zeros))) 103))
              have rd_125 := Lib.hid (RdB.alloc (rd_74.out) (.cells (arr (flat (pair zeros zeros))) 103))
              have rr_126 := Lib.hid (RdB.alloc (rr_75.out) (.cells (arr (flat (pair zeros zeros))) 103))
              have ne127 := Lib.hid (Nat.ne_of_lt (Blk.lt b0_71.out))
              have ne128 := Lib.hid (Nat.ne_of_lt (Blk.lt b1_72.out))
              have lb129 := Lib.hid (bel_73.out.size)
              have y_130 := Lib.hid (Blk.new (w69) 103 (arr (flat (pair zeros zeros))))
              obtain ⟨g118, hg119⟩ : ∃ g, g = (w69).heap.size := ⟨_, rfl⟩
              obtain ⟨w120, hw121⟩ : ∃ w', w' = (w69).alloc (.cells (arr (flat (pair zeros zeros))) 103) := ⟨_, rfl⟩
              rw [← hw121] at b0_122 b1_123 bel_124 rd_125 rr_126 y_130
              rw [← hg119] at ne127 ne128 lb129 y_130
              rw [← hg119, ← hw121]
              clear hg119 hw121
              refine hK.out _ _ ⟨b0_122.out, b1_123.out⟩ (fun _ => ?_); clear hK K
              try simp only [Act.put, List.setIfInBounds_toArray, List.set_cons_zero, List.set_cons_succ]
              refine wpAnyH_ready (rs := [6]) (by kernel_rfl) (by simp) ?_
              refine AllReadyH.cons (o := { dst := some 11, op := Go.Op.alloc 103, type := 0, pos := "solve.go:190", after := #[], guard := none }) rfl (fun K hK => ?_) ?_
              · -- 6: alloc
                rw [if_pos (by rfl)]
                refine wp_alloc_row 103 rfl (arr (flat (pair zeros zeros))) zero_pair.1 ?_
                have b0_135 := Lib.hid (Blk.alloc (b0_122.out) (.cells (arr (flat (pair zeros zeros))) 103))
                have b1_136 := Lib.hid (Blk.alloc (b1_123.out) (.cells (arr (flat (pair zeros zeros))) 103))
                have bel_137 := Lib.hid (Below.alloc (bel_124.out) ((bel_124.out).size) (.cells (arr (flat (pair zeros zeros))) 103))
                have rd_138 := Lib.hid (RdB.alloc (rd_125.out) (.cells (arr (flat (pair zeros zeros))) 103))
                have rr_139 := Lib.hid (RdB.alloc (rr_126.out) (.cells (arr (flat (pair zeros zeros))) 103))
                have y_140 := Lib.hid (Blk.alloc (y_130.out) (.cells (arr (flat (pair zeros zeros))) 103))
                have ne141 := Lib.hid (Nat.ne_of_lt (Blk.lt b0_122.out))
                have ne142 := Lib.hid (Nat.ne_of_lt (Blk.lt b1_123.out))
                have lb143 := Lib.hid (bel_124.out.size)
                have ne144 := Lib.hid (Nat.ne_of_lt (Blk.lt y_130.out))
                have x_145 := Lib.hid (Blk.new (w120) 103 (arr (flat (pair zeros zeros))))
                obtain ⟨g131, hg132⟩ : ∃ g, g = (w120).heap.size := ⟨_, rfl⟩
                obtain ⟨w133, hw134⟩ : ∃ w', w' = (w120).alloc (.cells (arr (flat (pair zeros zeros))) 103) := ⟨_, rfl⟩
                rw [← hw134] at b0_135 b1_136 bel_137 rd_138 rr_139 y_140 x_145
                rw [← hg132] at ne141 ne142 lb143 ne144 x_145
                rw [← hg132, ← hw134]
                clear hg132 hw134
                refine hK.out _ _ ⟨b0_135.out, b1_136.out⟩ (fun _ => ?_); clear hK K
                try simp only [Act.put, List.setIfInBounds_toArray, List.set_cons_zero, List.set_cons_succ]
                refine wpAnyH_ready (rs := [8]) (by kernel_rfl) (by simp) ?_
                refine AllReadyH.cons (o := { dst := none, op := Go.Op.store 103 (Go.Operand.tmp 11) (Go.Operand.tmp 36), type := 0, pos := "solve.go:190", after := #[{ on := 6, ground := Go.Ground.data }, { on := 2, ground := Go.Ground.data }, { on := 5, ground := Go.Ground.chain }, { on := 0, ground := Go.Ground.phase }, { on := 1, ground := Go.Ground.phase }, { on := 2, ground := Go.Ground.phase }, { on := 3, ground := Go.Ground.textOnly Go.Departure.lateStores }, { on := 4, ground := Go.Ground.textOnly Go.Departure.lateStores }, { on := 5, ground := Go.Ground.textOnly Go.Departure.lateStoresUnsure }, { on := 6, ground := Go.Ground.phase }, { on := 7, ground := Go.Ground.phase }], guard := none }) rfl (fun K hK => ?_) ?_
                · -- 8: store
                  rw [if_pos (by rfl)]
                  refine wp_store_row 103 (.tmp 11) (.tmp 36) rfl _ (arr (flat (pair x0 x1))) rfl rfl 103 (arr (flat (pair zeros zeros))) x_145.out (size_pair HX0.out HX1.out) (by rw [arr_size, arr_size, pair_length rfl rfl, pair_length HX0.out HX1.out]) (arr_one _) ?_
                  have b0_148 := Lib.hid (Blk.rowFar (b0_135.out) (ne141.out) (arr (flat (pair x0 x1))))
                  have b1_149 := Lib.hid (Blk.rowFar (b1_136.out) (ne142.out) (arr (flat (pair x0 x1))))
                  have bel_150 := Lib.hid (below_setRow (bel_137.out) (lb143.out) (arr (flat (pair x0 x1))))
                  have y_151 := Lib.hid (Blk.rowFar (y_140.out) (ne144.out) (arr (flat (pair x0 x1))))
                  have x_152 := Lib.hid (Blk.row (x_145.out) (arr (flat (pair x0 x1))))
                  obtain ⟨w146, hw147⟩ : ∃ w', w' = (w133).setRow g131 (arr (flat (pair x0 x1))) := ⟨_, rfl⟩
                  rw [← hw147] at b0_148 b1_149 bel_150 y_151 x_152
                  rw [← hw147]
                  clear hw147
                  refine hK.out _ _ ⟨b0_148.out, b1_149.out⟩ (fun _ => ?_); clear hK K
                  try simp only [Act.put, List.setIfInBounds_toArray, List.set_cons_zero, List.set_cons_succ]
                  refine wpAnyH_ready (rs := [9]) (by kernel_rfl) (by simp) ?_
                  refine AllReadyH.cons (o := { dst := none, op := Go.Op.store 103 (Go.Operand.tmp 12) (Go.Operand.tmp 39), type := 0, pos := "solve.go:190", after := #[{ on := 7, ground := Go.Ground.data }, { on := 5, ground := Go.Ground.data }, { on := 8, ground := Go.Ground.chain }, { on := 0, ground := Go.Ground.phase }, { on := 1, ground := Go.Ground.phase }, { on := 2, ground := Go.Ground.phase }, { on := 3, ground := Go.Ground.phase }, { on := 4, ground := Go.Ground.phase }, { on := 5, ground := Go.Ground.phase }, { on := 6, ground := Go.Ground.phase }, { on := 7, ground := Go.Ground.phase }, { on := 8, ground := Go.Ground.phase }], guard := none }) rfl (fun K hK => ?_) ?_
                  · -- 9: store
                    rw [if_pos (by rfl)]
                    refine wp_store_row 103 (.tmp 12) (.tmp 39) rfl _ (arr (flat (pair y0 y1))) rfl rfl 103 (arr (flat (pair zeros zeros))) y_151.out (size_pair HY0.out HY1.out) (by rw [arr_size, arr_size, pair_length rfl rfl, pair_length HY0.out HY1.out]) (arr_one _) ?_
                    have b0_155 := Lib.hid (Blk.rowFar (b0_148.out) (ne127.out) (arr (flat (pair y0 y1))))
                    have b1_156 := Lib.hid (Blk.rowFar (b1_149.out) (ne128.out) (arr (flat (pair y0 y1))))
                    have bel_157 := Lib.hid (below_setRow (bel_150.out) (lb129.out) (arr (flat (pair y0 y1))))
                    have y_158 := Lib.hid (Blk.row (y_151.out) (arr (flat (pair y0 y1))))
                    have x_159 := Lib.hid (Blk.rowFar (x_152.out) ((Ne.symm ne144.out)) (arr (flat (pair y0 y1))))
                    obtain ⟨w153, hw154⟩ : ∃ w', w' = (w146).setRow g118 (arr (flat (pair y0 y1))) := ⟨_, rfl⟩
                    rw [← hw154] at b0_155 b1_156 bel_157 y_158 x_159
                    rw [← hw154]
                    clear hw154
                    refine hK.out _ _ ⟨b0_155.out, b1_156.out⟩ (fun _ => ?_); clear hK K
                    try simp only [Act.put, List.setIfInBounds_toArray, List.set_cons_zero, List.set_cons_succ]
                    refine wpAnyH_done (by kernel_rfl) ?_ _
                    go_wp2
                    go_meet
                    exact ⟨_, _, rfl, rfl, x_159.out, y_158.out, b0_155.out, bel_157.out⟩
                  exact AllReadyH.nil
                exact AllReadyH.nil
              exact AllReadyH.nil
            exact AllReadyH.nil
          refine AllReadyH.cons (o := { dst := some 11, op := Go.Op.alloc 103, type := 0, pos := "solve.go:190", after := #[], guard := none }) rfl (fun K hK => ?_) ?_
          · -- 6: alloc
            rw [if_pos (by rfl)]
            refine wp_alloc_row 103 rfl (arr (flat (pair zeros zeros))) zero_pair.1 ?_
            have b0_164 := Lib.hid (Blk.alloc (b0_64.out) (.cells (arr (flat (pair zeros zeros))) 103))
            have b1_165 := Lib.hid (Blk.alloc (b1_65.out) (.cells (arr (flat (pair zeros zeros))) 103))
            have bel_166 := Lib.hid (Below.alloc (bel_66.out) ((bel_66.out).size) (.cells (arr (flat (pair zeros zeros))) 103))
            have rd_167 := Lib.hid (RdB.alloc (rd_67.out) (.cells (arr (flat (pair zeros zeros))) 103))
            have rr_168 := Lib.hid (RdB.alloc (rr_68.out) (.cells (arr (flat (pair zeros zeros))) 103))
            have ne169 := Lib.hid (Nat.ne_of_lt (Blk.lt b0_64.out))
            have ne170 := Lib.hid (Nat.ne_of_lt (Blk.lt b1_65.out))
            have lb171 := Lib.hid (bel_66.out.size)
            have x_172 := Lib.hid (Blk.new (w62) 103 (arr (flat (pair zeros zeros))))
            obtain ⟨g160, hg161⟩ : ∃ g, g = (w62).heap.size := ⟨_, rfl⟩
            obtain ⟨w162, hw163⟩ : ∃ w', w' = (w62).alloc (.cells (arr (flat (pair zeros zeros))) 103) := ⟨_, rfl⟩
            rw [← hw163] at b0_164 b1_165 bel_166 rd_167 rr_168 x_172
            rw [← hg161] at ne169 ne170 lb171 x_172
            rw [← hg161, ← hw163]
            clear hg161 hw163
            refine hK.out _ _ ⟨b0_164.out, b1_165.out⟩ (fun _ => ?_); clear hK K
            try simp only [Act.put, List.setIfInBounds_toArray, List.set_cons_zero, List.set_cons_succ]
            refine wpAnyH_ready (rs := [5, 7]) (by kernel_rfl) (by simp) ?_
            refine AllReadyH.cons (o := { dst := some 39, op := Go.Op.call { callee := Go.Callee.value (Go.Operand.func 94), args := #[Go.Operand.tmp 37, Go.Operand.tmp 38], argTypes := #[70, 3] }, type := 103, pos := "solve.go:190", after := #[{ on := 3, ground := Go.Ground.data }, { on := 4, ground := Go.Ground.data }, { on := 2, ground := Go.Ground.chain }], guard := none }) rfl (fun K hK => ?_) ?_
            · -- 5: call
              go_simp
              go_at_call 94
              refine (HE2.out _ rr_168.out).mono ?_
              rintro e w173 ⟨rfl, hb174⟩
              dsimp only
              have b0_175 := Lib.hid (Blk.keep (b0_164.out) hb174)
              have b1_176 := Lib.hid (Blk.keep (b1_165.out) hb174)
              have bel_177 := Lib.hid (Below.trans (bel_166.out) (Below.mono hb174 ((bel_166.out).size)))
              have rd_178 := Lib.hid (RdB.below (rd_167.out) hb174)
              have rr_179 := Lib.hid (RdB.below (rr_168.out) hb174)
              have x_180 := Lib.hid (Blk.keep (x_172.out) hb174)
              refine hK.out _ _ ⟨b0_175.out, b1_176.out⟩ (fun _ => ?_); clear hK K
              try simp only [Act.put, List.setIfInBounds_toArray, List.set_cons_zero, List.set_cons_succ]
              refine wpAnyH_ready (rs := [7]) (by kernel_rfl) (by simp) ?_
              refine AllReadyH.cons (o := { dst := some 12, op := Go.Op.alloc 103, type := 0, pos := "solve.go:190", after := #[], guard := none }) rfl (fun K hK => ?_) ?_
              · -- 7: alloc
                rw [if_pos (by rfl)]
                refine wp_alloc_row 103 rfl (arr (flat (pair zeros zeros))) zero_pair.1 ?_
                have b0_185 := Lib.hid (Blk.alloc (b0_175.out) (.cells (arr (flat (pair zeros zeros))) 103))
                have b1_186 := Lib.hid (Blk.alloc (b1_176.out) (.cells (arr (flat (pair zeros zeros))) 103))
                have bel_187 := Lib.hid (Below.alloc (bel_177.out) ((bel_177.out).size) (.cells (arr (flat (pair zeros zeros))) 103))
                have rd_188 := Lib.hid (RdB.alloc (rd_178.out) (.cells (arr (flat (pair zeros zeros))) 103))
                have rr_189 := Lib.hid (RdB.alloc (rr_179.out) (.cells (arr (flat (pair zeros zeros))) 103))
                have x_190 := Lib.hid (Blk.alloc (x_180.out) (.cells (arr (flat (pair zeros zeros))) 103))
                have ne191 := Lib.hid (Nat.ne_of_lt (Blk.lt b0_175.out))
                have ne192 := Lib.hid (Nat.ne_of_lt (Blk.lt b1_176.out))
                have lb193 := Lib.hid (bel_177.out.size)
                have ne194 := Lib.hid (Nat.ne_of_lt (Blk.lt x_180.out))
                have y_195 := Lib.hid (Blk.new (w173) 103 (arr (flat (pair zeros zeros))))
                obtain ⟨g181, hg182⟩ : ∃ g, g = (w173).heap.size := ⟨_, rfl⟩
                obtain ⟨w183, hw184⟩ : ∃ w', w' = (w173).alloc (.cells (arr (flat (pair zeros zeros))) 103) := ⟨_, rfl⟩
                rw [← hw184] at b0_185 b1_186 bel_187 rd_188 rr_189 x_190 y_195
                rw [← hg182] at ne191 ne192 lb193 ne194 y_195
                rw [← hg182, ← hw184]
                clear hg182 hw184
                refine hK.out _ _ ⟨b0_185.out, b1_186.out⟩ (fun _ => ?_); clear hK K
                try simp only [Act.put, List.setIfInBounds_toArray, List.set_cons_zero, List.set_cons_succ]
                refine wpAnyH_ready (rs := [8]) (by kernel_rfl) (by simp) ?_
                refine AllReadyH.cons (o := { dst := none, op := Go.Op.store 103 (Go.Operand.tmp 11) (Go.Operand.tmp 36), type := 0, pos := "solve.go:190", after := #[{ on := 6, ground := Go.Ground.data }, { on := 2, ground := Go.Ground.data }, { on := 5, ground := Go.Ground.chain }, { on := 0, ground := Go.Ground.phase }, { on := 1, ground := Go.Ground.phase }, { on := 2, ground := Go.Ground.phase }, { on := 3, ground := Go.Ground.textOnly Go.Departure.lateStores }, { on := 4, ground := Go.Ground.textOnly Go.Departure.lateStores }, { on := 5, ground := Go.Ground.textOnly Go.Departure.lateStoresUnsure }, { on := 6, ground := Go.Ground.phase }, { on := 7, ground := Go.Ground.phase }], guard := none }) rfl (fun K hK => ?_) ?_
                · -- 8: store
                  rw [if_pos (by rfl)]
                  refine wp_store_row 103 (.tmp 11) (.tmp 36) rfl _ (arr (flat (pair x0 x1))) rfl rfl 103 (arr (flat (pair zeros zeros))) x_190.out (size_pair HX0.out HX1.out) (by rw [arr_size, arr_size, pair_length rfl rfl, pair_length HX0.out HX1.out]) (arr_one _) ?_
                  have b0_198 := Lib.hid (Blk.rowFar (b0_185.out) (ne169.out) (arr (flat (pair x0 x1))))
                  have b1_199 := Lib.hid (Blk.rowFar (b1_186.out) (ne170.out) (arr (flat (pair x0 x1))))
                  have bel_200 := Lib.hid (below_setRow (bel_187.out) (lb171.out) (arr (flat (pair x0 x1))))
                  have x_201 := Lib.hid (Blk.row (x_190.out) (arr (flat (pair x0 x1))))
                  have y_202 := Lib.hid (Blk.rowFar (y_195.out) ((Ne.symm ne194.out)) (arr (flat (pair x0 x1))))
                  obtain ⟨w196, hw197⟩ : ∃ w', w' = (w183).setRow g160 (arr (flat (pair x0 x1))) := ⟨_, rfl⟩
                  rw [← hw197] at b0_198 b1_199 bel_200 x_201 y_202
                  rw [← hw197]
                  clear hw197
                  refine hK.out _ _ ⟨b0_198.out, b1_199.out⟩ (fun _ => ?_); clear hK K
                  try simp only [Act.put, List.setIfInBounds_toArray, List.set_cons_zero, List.set_cons_succ]
                  refine wpAnyH_ready (rs := [9]) (by kernel_rfl) (by simp) ?_
                  refine AllReadyH.cons (o := { dst := none, op := Go.Op.store 103 (Go.Operand.tmp 12) (Go.Operand.tmp 39), type := 0, pos := "solve.go:190", after := #[{ on := 7, ground := Go.Ground.data }, { on := 5, ground := Go.Ground.data }, { on := 8, ground := Go.Ground.chain }, { on := 0, ground := Go.Ground.phase }, { on := 1, ground := Go.Ground.phase }, { on := 2, ground := Go.Ground.phase }, { on := 3, ground := Go.Ground.phase }, { on := 4, ground := Go.Ground.phase }, { on := 5, ground := Go.Ground.phase }, { on := 6, ground := Go.Ground.phase }, { on := 7, ground := Go.Ground.phase }, { on := 8, ground := Go.Ground.phase }], guard := none }) rfl (fun K hK => ?_) ?_
                  · -- 9: store
                    rw [if_pos (by rfl)]
                    refine wp_store_row 103 (.tmp 12) (.tmp 39) rfl _ (arr (flat (pair y0 y1))) rfl rfl 103 (arr (flat (pair zeros zeros))) y_202.out (size_pair HY0.out HY1.out) (by rw [arr_size, arr_size, pair_length rfl rfl, pair_length HY0.out HY1.out]) (arr_one _) ?_
                    have b0_205 := Lib.hid (Blk.rowFar (b0_198.out) (ne191.out) (arr (flat (pair y0 y1))))
                    have b1_206 := Lib.hid (Blk.rowFar (b1_199.out) (ne192.out) (arr (flat (pair y0 y1))))
                    have bel_207 := Lib.hid (below_setRow (bel_200.out) (lb193.out) (arr (flat (pair y0 y1))))
                    have x_208 := Lib.hid (Blk.rowFar (x_201.out) (ne194.out) (arr (flat (pair y0 y1))))
                    have y_209 := Lib.hid (Blk.row (y_202.out) (arr (flat (pair y0 y1))))
                    obtain ⟨w203, hw204⟩ : ∃ w', w' = (w196).setRow g181 (arr (flat (pair y0 y1))) := ⟨_, rfl⟩
                    rw [← hw204] at b0_205 b1_206 bel_207 x_208 y_209
                    rw [← hw204]
                    clear hw204
                    refine hK.out _ _ ⟨b0_205.out, b1_206.out⟩ (fun _ => ?_); clear hK K
                    try simp only [Act.put, List.setIfInBounds_toArray, List.set_cons_zero, List.set_cons_succ]
                    refine wpAnyH_done (by kernel_rfl) ?_ _
                    go_wp2
                    go_meet
                    exact ⟨_, _, rfl, rfl, x_208.out, y_209.out, b0_205.out, bel_207.out⟩
                  exact AllReadyH.nil
                exact AllReadyH.nil
              exact AllReadyH.nil
            refine AllReadyH.cons (o := { dst := some 12, op := Go.Op.alloc 103, type := 0, pos := "solve.go:190", after := #[], guard := none }) rfl (fun K hK => ?_) ?_
            · -- 7: alloc
              rw [if_pos (by rfl)]
              refine wp_alloc_row 103 rfl (arr (flat (pair zeros zeros))) zero_pair.1 ?_
              have b0_214 := Lib.hid (Blk.alloc (b0_164.out) (.cells (arr (flat (pair zeros zeros))) 103))
              have b1_215 := Lib.hid (Blk.alloc (b1_165.out) (.cells (arr (flat (pair zeros zeros))) 103))
              have bel_216 := Lib.hid (Below.alloc (bel_166.out) ((bel_166.out).size) (.cells (arr (flat (pair zeros zeros))) 103))
              have rd_217 := Lib.hid (RdB.alloc (rd_167.out) (.cells (arr (flat (pair zeros zeros))) 103))
              have rr_218 := Lib.hid (RdB.alloc (rr_168.out) (.cells (arr (flat (pair zeros zeros))) 103))
              have x_219 := Lib.hid (Blk.alloc (x_172.out) (.cells (arr (flat (pair zeros zeros))) 103))
              have ne220 := Lib.hid (Nat.ne_of_lt (Blk.lt b0_164.out))
              have ne221 := Lib.hid (Nat.ne_of_lt (Blk.lt b1_165.out))
              have lb222 := Lib.hid (bel_166.out.size)
              have ne223 := Lib.hid (Nat.ne_of_lt (Blk.lt x_172.out))
              have y_224 := Lib.hid (Blk.new (w162) 103 (arr (flat (pair zeros zeros))))
              obtain ⟨g210, hg211⟩ : ∃ g, g = (w162).heap.size := ⟨_, rfl⟩
              obtain ⟨w212, hw213⟩ : ∃ w', w' = (w162).alloc (.cells (arr (flat (pair zeros zeros))) 103) := ⟨_, rfl⟩
              rw [← hw213] at b0_214 b1_215 bel_216 rd_217 rr_218 x_219 y_224
              rw [← hg211] at ne220 ne221 lb222 ne223 y_224
              rw [← hg211, ← hw213]
              clear hg211 hw213
              refine hK.out _ _ ⟨b0_214.out, b1_215.out⟩ (fun _ => ?_); clear hK K
              try simp only [Act.put, List.setIfInBounds_toArray, List.set_cons_zero, List.set_cons_succ]
              refine wpAnyH_ready (rs := [5]) (by kernel_rfl) (by simp) ?_
              refine AllReadyH.cons (o := { dst := some 39, op := Go.Op.call { callee := Go.Callee.value (Go.Operand.func 94), args := #[Go.Operand.tmp 37, Go.Operand.tmp 38], argTypes := #[70, 3] }, type := 103, pos := "solve.go:190", after := #[{ on := 3, ground := Go.Ground.data }, { on := 4, ground := Go.Ground.data }, { on := 2, ground := Go.Ground.chain }], guard := none }) rfl (fun K hK => ?_) ?_
              · -- 5: call
                go_simp
                go_at_call 94
                refine (HE2.out _ rr_218.out).mono ?_
                rintro e w225 ⟨rfl, hb226⟩
                dsimp only
                have b0_227 := Lib.hid (Blk.keep (b0_214.out) hb226)
                have b1_228 := Lib.hid (Blk.keep (b1_215.out) hb226)
                have bel_229 := Lib.hid (Below.trans (bel_216.out) (Below.mono hb226 ((bel_216.out).size)))
                have rd_230 := Lib.hid (RdB.below (rd_217.out) hb226)
                have rr_231 := Lib.hid (RdB.below (rr_218.out) hb226)
                have x_232 := Lib.hid (Blk.keep (x_219.out) hb226)
                have y_233 := Lib.hid (Blk.keep (y_224.out) hb226)
                refine hK.out _ _ ⟨b0_227.out, b1_228.out⟩ (fun _ => ?_); clear hK K
                try simp only [Act.put, List.setIfInBounds_toArray, List.set_cons_zero, List.set_cons_succ]
                refine wpAnyH_ready (rs := [8]) (by kernel_rfl) (by simp) ?_
                refine AllReadyH.cons (o := { dst := none, op := Go.Op.store 103 (Go.Operand.tmp 11) (Go.Operand.tmp 36), type := 0, pos := "solve.go:190", after := #[{ on := 6, ground := Go.Ground.data }, { on := 2, ground := Go.Ground.data }, { on := 5, ground := Go.Ground.chain }, { on := 0, ground := Go.Ground.phase }, { on := 1, ground := Go.Ground.phase }, { on := 2, ground := Go.Ground.phase }, { on := 3, ground := Go.Ground.textOnly Go.Departure.lateStores }, { on := 4, ground := Go.Ground.textOnly Go.Departure.lateStores }, { on := 5, ground := Go.Ground.textOnly Go.Departure.lateStoresUnsure }, { on := 6, ground := Go.Ground.phase }, { on := 7, ground := Go.Ground.phase }], guard := none }) rfl (fun K hK => ?_) ?_
                · -- 8: store
                  rw [if_pos (by rfl)]
                  refine wp_store_row 103 (.tmp 11) (.tmp 36) rfl _ (arr (flat (pair x0 x1))) rfl rfl 103 (arr (flat (pair zeros zeros))) x_232.out (size_pair HX0.out HX1.out) (by rw [arr_size, arr_size, pair_length rfl rfl, pair_length HX0.out HX1.out]) (arr_one _) ?_
                  have b0_236 := Lib.hid (Blk.rowFar (b0_227.out) (ne169.out) (arr (flat (pair x0 x1))))
                  have b1_237 := Lib.hid (Blk.rowFar (b1_228.out) (ne170.out) (arr (flat (pair x0 x1))))
                  have bel_238 := Lib.hid (below_setRow (bel_229.out) (lb171.out) (arr (flat (pair x0 x1))))
                  have x_239 := Lib.hid (Blk.row (x_232.out) (arr (flat (pair x0 x1))))
                  have y_240 := Lib.hid (Blk.rowFar (y_233.out) ((Ne.symm ne223.out)) (arr (flat (pair x0 x1))))
                  obtain ⟨w234, hw235⟩ : ∃ w', w' = (w225).setRow g160 (arr (flat (pair x0 x1))) := ⟨_, rfl⟩
                  rw [← hw235] at b0_236 b1_237 bel_238 x_239 y_240
                  rw [← hw235]
                  clear hw235
                  refine hK.out _ _ ⟨b0_236.out, b1_237.out⟩ (fun _ => ?_); clear hK K
                  try simp only [Act.put, List.setIfInBounds_toArray, List.set_cons_zero, List.set_cons_succ]
                  refine wpAnyH_ready (rs := [9]) (by kernel_rfl) (by simp) ?_
                  refine AllReadyH.cons (o := { dst := none, op := Go.Op.store 103 (Go.Operand.tmp 12) (Go.Operand.tmp 39), type := 0, pos := "solve.go:190", after := #[{ on := 7, ground := Go.Ground.data }, { on := 5, ground := Go.Ground.data }, { on := 8, ground := Go.Ground.chain }, { on := 0, ground := Go.Ground.phase }, { on := 1, ground := Go.Ground.phase }, { on := 2, ground := Go.Ground.phase }, { on := 3, ground := Go.Ground.phase }, { on := 4, ground := Go.Ground.phase }, { on := 5, ground := Go.Ground.phase }, { on := 6, ground := Go.Ground.phase }, { on := 7, ground := Go.Ground.phase }, { on := 8, ground := Go.Ground.phase }], guard := none }) rfl (fun K hK => ?_) ?_
                  · -- 9: store
                    rw [if_pos (by rfl)]
                    refine wp_store_row 103 (.tmp 12) (.tmp 39) rfl _ (arr (flat (pair y0 y1))) rfl rfl 103 (arr (flat (pair zeros zeros))) y_240.out (size_pair HY0.out HY1.out) (by rw [arr_size, arr_size, pair_length rfl rfl, pair_length HY0.out HY1.out]) (arr_one _) ?_
                    have b0_243 := Lib.hid (Blk.rowFar (b0_236.out) (ne220.out) (arr (flat (pair y0 y1))))
                    have b1_244 := Lib.hid (Blk.rowFar (b1_237.out) (ne221.out) (arr (flat (pair y0 y1))))
                    have bel_245 := Lib.hid (below_setRow (bel_238.out) (lb222.out) (arr (flat (pair y0 y1))))
                    have x_246 := Lib.hid (Blk.rowFar (x_239.out) (ne223.out) (arr (flat (pair y0 y1))))
                    have y_247 := Lib.hid (Blk.row (y_240.out) (arr (flat (pair y0 y1))))
                    obtain ⟨w241, hw242⟩ : ∃ w', w' = (w234).setRow g210 (arr (flat (pair y0 y1))) := ⟨_, rfl⟩
                    rw [← hw242] at b0_243 b1_244 bel_245 x_246 y_247
                    rw [← hw242]
                    clear hw242
                    refine hK.out _ _ ⟨b0_243.out, b1_244.out⟩ (fun _ => ?_); clear hK K
                    try simp only [Act.put, List.setIfInBounds_toArray, List.set_cons_zero, List.set_cons_succ]
                    refine wpAnyH_done (by kernel_rfl) ?_ _
                    go_wp2
                    go_meet
                    exact ⟨_, _, rfl, rfl, x_246.out, y_247.out, b0_243.out, bel_245.out⟩
                  exact AllReadyH.nil
                exact AllReadyH.nil
              exact AllReadyH.nil
            exact AllReadyH.nil
          refine AllReadyH.cons (o := { dst := some 12, op := Go.Op.alloc 103, type := 0, pos := "solve.go:190", after := #[], guard := none }) rfl (fun K hK => ?_) ?_
          · -- 7: alloc
            rw [if_pos (by rfl)]
            refine wp_alloc_row 103 rfl (arr (flat (pair zeros zeros))) zero_pair.1 ?_
            have b0_252 := Lib.hid (Blk.alloc (b0_64.out) (.cells (arr (flat (pair zeros zeros))) 103))
            have b1_253 := Lib.hid (Blk.alloc (b1_65.out) (.cells (arr (flat (pair zeros zeros))) 103))
            have bel_254 := Lib.hid (Below.alloc (bel_66.out) ((bel_66.out).size) (.cells (arr (flat (pair zeros zeros))) 103))
            have rd_255 := Lib.hid (RdB.alloc (rd_67.out) (.cells (arr (flat (pair zeros zeros))) 103))
            have rr_256 := Lib.hid (RdB.alloc (rr_68.out) (.cells (arr (flat (pair zeros zeros))) 103))
            have ne257 := Lib.hid (Nat.ne_of_lt (Blk.lt b0_64.out))
            have ne258 := Lib.hid (Nat.ne_of_lt (Blk.lt b1_65.out))
            have lb259 := Lib.hid (bel_66.out.size)
            have y_260 := Lib.hid (Blk.new (w62) 103 (arr (flat (pair zeros zeros))))
            obtain ⟨g248, hg249⟩ : ∃ g, g = (w62).heap.size := ⟨_, rfl⟩
            obtain ⟨w250, hw251⟩ : ∃ w', w' = (w62).alloc (.cells (arr (flat (pair zeros zeros))) 103) := ⟨_, rfl⟩
            rw [← hw251] at b0_252 b1_253 bel_254 rd_255 rr_256 y_260
            rw [← hg249] at ne257 ne258 lb259 y_260
            rw [← hg249, ← hw251]
            clear hg249 hw251
            refine hK.out _ _ ⟨b0_252.out, b1_253.out⟩ (fun _ => ?_); clear hK K
            try simp only [Act.put, List.setIfInBounds_toArray, List.set_cons_zero, List.set_cons_succ]
            refine wpAnyH_ready (rs := [5, 6]) (by kernel_rfl) (by simp) ?_
            refine AllReadyH.cons (o := { dst := some 39, op := Go.Op.call { callee := Go.Callee.value (Go.Operand.func 94), args := #[Go.Operand.tmp 37, Go.Operand.tmp 38], argTypes := #[70, 3] }, type := 103, pos := "solve.go:190", after := #[{ on := 3, ground := Go.Ground.data }, { on := 4, ground := Go.Ground.data }, { on := 2, ground := Go.Ground.chain }], guard := none }) rfl (fun K hK => ?_) ?_
            · -- 5: call
              go_simp
              go_at_call 94
              refine (HE2.out _ rr_256.out).mono ?_
              rintro e w261 ⟨rfl, hb262⟩
              dsimp only
              have b0_263 := Lib.hid (Blk.keep (b0_252.out) hb262)
              have b1_264 := Lib.hid (Blk.keep (b1_253.out) hb262)
              have bel_265 := Lib.hid (Below.trans (bel_254.out) (Below.mono hb262 ((bel_254.out).size)))
              have rd_266 := Lib.hid (RdB.below (rd_255.out) hb262)
              have rr_267 := Lib.hid (RdB.below (rr_256.out) hb262)
              have y_268 := Lib.hid (Blk.keep (y_260.out) hb262)
              refine hK.out _ _ ⟨b0_263.out, b1_264.out⟩ (fun _ => ?_); clear hK K
              try simp only [Act.put, List.setIfInBounds_toArray, List.set_cons_zero, List.set_cons_succ]
              refine wpAnyH_ready (rs := [6]) (by kernel_rfl) (by simp) ?_
              refine AllReadyH.cons (o := { dst := some 11, op := Go.Op.alloc 103, type := 0, pos := "solve.go:190", after := #[], guard := none }) rfl (fun K hK => ?_) ?_
              · -- 6: alloc
                rw [if_pos (by rfl)]
                refine wp_alloc_row 103 rfl (arr (flat (pair zeros zeros))) zero_pair.1 ?_
                have b0_273 := Lib.hid (Blk.alloc (b0_263.out) (.cells (arr (flat (pair zeros zeros))) 103))
                have b1_274 := Lib.hid (Blk.alloc (b1_264.out) (.cells (arr (flat (pair zeros zeros))) 103))
                have bel_275 := Lib.hid (Below.alloc (bel_265.out) ((bel_265.out).size) (.cells (arr (flat (pair zeros zeros))) 103))
                have rd_276 := Lib.hid (RdB.alloc (rd_266.out) (.cells (arr (flat (pair zeros zeros))) 103))
                have rr_277 := Lib.hid (RdB.alloc (rr_267.out) (.cells (arr (flat (pair zeros zeros))) 103))
                have y_278 := Lib.hid (Blk.alloc (y_268.out) (.cells (arr (flat (pair zeros zeros))) 103))
                have ne279 := Lib.hid (Nat.ne_of_lt (Blk.lt b0_263.out))
                have ne280 := Lib.hid (Nat.ne_of_lt (Blk.lt b1_264.out))
                have lb281 := Lib.hid (bel_265.out.size)
                have ne282 := Lib.hid (Nat.ne_of_lt (Blk.lt y_268.out))
                have x_283 := Lib.hid (Blk.new (w261) 103 (arr (flat (pair zeros zeros))))
                obtain ⟨g269, hg270⟩ : ∃ g, g = (w261).heap.size := ⟨_, rfl⟩
                obtain ⟨w271, hw272⟩ : ∃ w', w' = (w261).alloc (.cells (arr (flat (pair zeros zeros))) 103) := ⟨_, rfl⟩
                rw [← hw272] at b0_273 b1_274 bel_275 rd_276 rr_277 y_278 x_283
                rw [← hg270] at ne279 ne280 lb281 ne282 x_283
                rw [← hg270, ← hw272]
                clear hg270 hw272
                refine hK.out _ _ ⟨b0_273.out, b1_274.out⟩ (fun _ => ?_); clear hK K
                try simp only [Act.put, List.setIfInBounds_toArray, List.set_cons_zero, List.set_cons_succ]
                refine wpAnyH_ready (rs := [8]) (by kernel_rfl) (by simp) ?_
                refine AllReadyH.cons (o := { dst := none, op := Go.Op.store 103 (Go.Operand.tmp 11) (Go.Operand.tmp 36), type := 0, pos := "solve.go:190", after := #[{ on := 6, ground := Go.Ground.data }, { on := 2, ground := Go.Ground.data }, { on := 5, ground := Go.Ground.chain }, { on := 0, ground := Go.Ground.phase }, { on := 1, ground := Go.Ground.phase }, { on := 2, ground := Go.Ground.phase }, { on := 3, ground := Go.Ground.textOnly Go.Departure.lateStores }, { on := 4, ground := Go.Ground.textOnly Go.Departure.lateStores }, { on := 5, ground := Go.Ground.textOnly Go.Departure.lateStoresUnsure }, { on := 6, ground := Go.Ground.phase }, { on := 7, ground := Go.Ground.phase }], guard := none }) rfl (fun K hK => ?_) ?_
                · -- 8: store
                  rw [if_pos (by rfl)]
                  refine wp_store_row 103 (.tmp 11) (.tmp 36) rfl _ (arr (flat (pair x0 x1))) rfl rfl 103 (arr (flat (pair zeros zeros))) x_283.out (size_pair HX0.out HX1.out) (by rw [arr_size, arr_size, pair_length rfl rfl, pair_length HX0.out HX1.out]) (arr_one _) ?_
                  have b0_286 := Lib.hid (Blk.rowFar (b0_273.out) (ne279.out) (arr (flat (pair x0 x1))))
                  have b1_287 := Lib.hid (Blk.rowFar (b1_274.out) (ne280.out) (arr (flat (pair x0 x1))))
                  have bel_288 := Lib.hid (below_setRow (bel_275.out) (lb281.out) (arr (flat (pair x0 x1))))
                  have y_289 := Lib.hid (Blk.rowFar (y_278.out) (ne282.out) (arr (flat (pair x0 x1))))
                  have x_290 := Lib.hid (Blk.row (x_283.out) (arr (flat (pair x0 x1))))
                  obtain ⟨w284, hw285⟩ : ∃ w', w' = (w271).setRow g269 (arr (flat (pair x0 x1))) := ⟨_, rfl⟩
                  rw [← hw285] at b0_286 b1_287 bel_288 y_289 x_290
                  rw [← hw285]
                  clear hw285
                  refine hK.out _ _ ⟨b0_286.out, b1_287.out⟩ (fun _ => ?_); clear hK K
                  try simp only [Act.put, List.setIfInBounds_toArray, List.set_cons_zero, List.set_cons_succ]
                  refine wpAnyH_ready (rs := [9]) (by kernel_rfl) (by simp) ?_
                  refine AllReadyH.cons (o := { dst := none, op := Go.Op.store 103 (Go.Operand.tmp 12) (Go.Operand.tmp 39), type := 0, pos := "solve.go:190", after := #[{ on := 7, ground := Go.Ground.data }, { on := 5, ground := Go.Ground.data }, { on := 8, ground := Go.Ground.chain }, { on := 0, ground := Go.Ground.phase }, { on := 1, ground := Go.Ground.phase }, { on := 2, ground := Go.Ground.phase }, { on := 3, ground := Go.Ground.phase }, { on := 4, ground := Go.Ground.phase }, { on := 5, ground := Go.Ground.phase }, { on := 6, ground := Go.Ground.phase }, { on := 7, ground := Go.Ground.phase }, { on := 8, ground := Go.Ground.phase }], guard := none }) rfl (fun K hK => ?_) ?_
                  · -- 9: store
                    rw [if_pos (by rfl)]
                    refine wp_store_row 103 (.tmp 12) (.tmp 39) rfl _ (arr (flat (pair y0 y1))) rfl rfl 103 (arr (flat (pair zeros zeros))) y_289.out (size_pair HY0.out HY1.out) (by rw [arr_size, arr_size, pair_length rfl rfl, pair_length HY0.out HY1.out]) (arr_one _) ?_
                    have b0_293 := Lib.hid (Blk.rowFar (b0_286.out) (ne257.out) (arr (flat (pair y0 y1))))
                    have b1_294 := Lib.hid (Blk.rowFar (b1_287.out) (ne258.out) (arr (flat (pair y0 y1))))
                    have bel_295 := Lib.hid (below_setRow (bel_288.out) (lb259.out) (arr (flat (pair y0 y1))))
                    have y_296 := Lib.hid (Blk.row (y_289.out) (arr (flat (pair y0 y1))))
                    have x_297 := Lib.hid (Blk.rowFar (x_290.out) ((Ne.symm ne282.out)) (arr (flat (pair y0 y1))))
                    obtain ⟨w291, hw292⟩ : ∃ w', w' = (w284).setRow g248 (arr (flat (pair y0 y1))) := ⟨_, rfl⟩
                    rw [← hw292] at b0_293 b1_294 bel_295 y_296 x_297
                    rw [← hw292]
                    clear hw292
                    refine hK.out _ _ ⟨b0_293.out, b1_294.out⟩ (fun _ => ?_); clear hK K
                    try simp only [Act.put, List.setIfInBounds_toArray, List.set_cons_zero, List.set_cons_succ]
                    refine wpAnyH_done (by kernel_rfl) ?_ _
                    go_wp2
                    go_meet
                    exact ⟨_, _, rfl, rfl, x_297.out, y_296.out, b0_293.out, bel_295.out⟩
                  exact AllReadyH.nil
                exact AllReadyH.nil
              exact AllReadyH.nil
            refine AllReadyH.cons (o := { dst := some 11, op := Go.Op.alloc 103, type := 0, pos := "solve.go:190", after := #[], guard := none }) rfl (fun K hK => ?_) ?_
            · -- 6: alloc
              rw [if_pos (by rfl)]
              refine wp_alloc_row 103 rfl (arr (flat (pair zeros zeros))) zero_pair.1 ?_
              have b0_302 := Lib.hid (Blk.alloc (b0_252.out) (.cells (arr (flat (pair zeros zeros))) 103))
              have b1_303 := Lib.hid (Blk.alloc (b1_253.out) (.cells (arr (flat (pair zeros zeros))) 103))
              have bel_304 := Lib.hid (Below.alloc (bel_254.out) ((bel_254.out).size) (.cells (arr (flat (pair zeros zeros))) 103))
              have rd_305 := Lib.hid (RdB.alloc (rd_255.out) (.cells (arr (flat (pair zeros zeros))) 103))
              have rr_306 := Lib.hid (RdB.alloc (rr_256.out) (.cells (arr (flat (pair zeros zeros))) 103))
              have y_307 := Lib.hid (Blk.alloc (y_260.out) (.cells (arr (flat (pair zeros zeros))) 103))
              have ne308 := Lib.hid (Nat.ne_of_lt (Blk.lt b0_252.out))
              have ne309 := Lib.hid (Nat.ne_of_lt (Blk.lt b1_253.out))
              have lb310 := Lib.hid (bel_254.out.size)
              have ne311 := Lib.hid (Nat.ne_of_lt (Blk.lt y_260.out))
              have x_312 := Lib.hid (Blk.new (w250) 103 (arr (flat (pair zeros zeros))))
              obtain ⟨g298, hg299⟩ : ∃ g, g = (w250).heap.size := ⟨_, rfl⟩
              obtain ⟨w300, hw301⟩ : ∃ w', w' = (w250).alloc (.cells (arr (flat (pair zeros zeros))) 103) := ⟨_, rfl⟩
              rw [← hw301] at b0_302 b1_303 bel_304 rd_305 rr_306 y_307 x_312
              rw [← hg299] at ne308 ne309 lb310 ne311 x_312
              rw [← hg299, ← hw301]
              clear hg299 hw301
              refine hK.out _ _ ⟨b0_302.out, b1_303.out⟩ (fun _ => ?_); clear hK K
              try simp only [Act.put, List.setIfInBounds_toArray, List.set_cons_zero, List.set_cons_succ]
              refine wpAnyH_ready (rs := [5]) (by kernel_rfl) (by simp) ?_
              refine AllReadyH.cons (o := { dst := some 39, op := Go.Op.call { callee := Go.Callee.value (Go.Operand.func 94), args := #[Go.Operand.tmp 37, Go.Operand.tmp 38], argTypes := #[70, 3] }, type := 103, pos := "solve.go:190", after := #[{ on := 3, ground := Go.Ground.data }, { on := 4, ground := Go.Ground.data }, { on := 2, ground := Go.Ground.chain }], guard := none }) rfl (fun K hK => ?_) ?_
              · -- 5: call
                go_simp
                go_at_call 94
                refine (HE2.out _ rr_306.out).mono ?_
                rintro e w313 ⟨rfl, hb314⟩
                dsimp only
                have b0_315 := Lib.hid (Blk.keep (b0_302.out) hb314)
                have b1_316 := Lib.hid (Blk.keep (b1_303.out) hb314)
                have bel_317 := Lib.hid (Below.trans (bel_304.out) (Below.mono hb314 ((bel_304.out).size)))
                have rd_318 := Lib.hid (RdB.below (rd_305.out) hb314)
                have rr_319 := Lib.hid (RdB.below (rr_306.out) hb314)
                have y_320 := Lib.hid (Blk.keep (y_307.out) hb314)
                have x_321 := Lib.hid (Blk.keep (x_312.out) hb314)
                refine hK.out _ _ ⟨b0_315.out, b1_316.out⟩ (fun _ => ?_); clear hK K
                try simp only [Act.put, List.setIfInBounds_toArray, List.set_cons_zero, List.set_cons_succ]
                refine wpAnyH_ready (rs := [8]) (by kernel_rfl) (by simp) ?_
                refine AllReadyH.cons (o := { dst := none, op := Go.Op.store 103 (Go.Operand.tmp 11) (Go.Operand.tmp 36), type := 0, pos := "solve.go:190", after := #[{ on := 6, ground := Go.Ground.data }, { on := 2, ground := Go.Ground.data }, { on := 5, ground := Go.Ground.chain }, { on := 0, ground := Go.Ground.phase }, { on := 1, ground := Go.Ground.phase }, { on := 2, ground := Go.Ground.phase }, { on := 3, ground := Go.Ground.textOnly Go.Departure.lateStores }, { on := 4, ground := Go.Ground.textOnly Go.Departure.lateStores }, { on := 5, ground := Go.Ground.textOnly Go.Departure.lateStoresUnsure }, { on := 6, ground := Go.Ground.phase }, { on := 7, ground := Go.Ground.phase }], guard := none }) rfl (fun K hK => ?_) ?_
                · -- 8: store
                  rw [if_pos (by rfl)]
                  refine wp_store_row 103 (.tmp 11) (.tmp 36) rfl _ (arr (flat (pair x0 x1))) rfl rfl 103 (arr (flat (pair zeros zeros))) x_321.out (size_pair HX0.out HX1.out) (by rw [arr_size, arr_size, pair_length rfl rfl, pair_length HX0.out HX1.out]) (arr_one _) ?_
                  have b0_324 := Lib.hid (Blk.rowFar (b0_315.out) (ne308.out) (arr (flat (pair x0 x1))))
                  have b1_325 := Lib.hid (Blk.rowFar (b1_316.out) (ne309.out) (arr (flat (pair x0 x1))))
                  have bel_326 := Lib.hid (below_setRow (bel_317.out) (lb310.out) (arr (flat (pair x0 x1))))
                  have y_327 := Lib.hid (Blk.rowFar (y_320.out) (ne311.out) (arr (flat (pair x0 x1))))
                  have x_328 := Lib.hid (Blk.row (x_321.out) (arr (flat (pair x0 x1))))
                  obtain ⟨w322, hw323⟩ : ∃ w', w' = (w313).setRow g298 (arr (flat (pair x0 x1))) := ⟨_, rfl⟩
                  rw [← hw323] at b0_324 b1_325 bel_326 y_327 x_328
                  rw [← hw323]
                  clear hw323
                  refine hK.out _ _ ⟨b0_324.out, b1_325.out⟩ (fun _ => ?_); clear hK K
                  try simp only [Act.put, List.setIfInBounds_toArray, List.set_cons_zero, List.set_cons_succ]
                  refine wpAnyH_ready (rs := [9]) (by kernel_rfl) (by simp) ?_
                  refine AllReadyH.cons (o := { dst := none, op := Go.Op.store 103 (Go.Operand.tmp 12) (Go.Operand.tmp 39), type := 0, pos := "solve.go:190", after := #[{ on := 7, ground := Go.Ground.data }, { on := 5, ground := Go.Ground.data }, { on := 8, ground := Go.Ground.chain }, { on := 0, ground := Go.Ground.phase }, { on := 1, ground := Go.Ground.phase }, { on := 2, ground := Go.Ground.phase }, { on := 3, ground := Go.Ground.phase }, { on := 4, ground := Go.Ground.phase }, { on := 5, ground := Go.Ground.phase }, { on := 6, ground := Go.Ground.phase }, { on := 7, ground := Go.Ground.phase }, { on := 8, ground := Go.Ground.phase }], guard := none }) rfl (fun K hK => ?_) ?_
                  · -- 9: store
                    rw [if_pos (by rfl)]
                    refine wp_store_row 103 (.tmp 12) (.tmp 39) rfl _ (arr (flat (pair y0 y1))) rfl rfl 103 (arr (flat (pair zeros zeros))) y_327.out (size_pair HY0.out HY1.out) (by rw [arr_size, arr_size, pair_length rfl rfl, pair_length HY0.out HY1.out]) (arr_one _) ?_
                    have b0_331 := Lib.hid (Blk.rowFar (b0_324.out) (ne257.out) (arr (flat (pair y0 y1))))
                    have b1_332 := Lib.hid (Blk.rowFar (b1_325.out) (ne258.out) (arr (flat (pair y0 y1))))
                    have bel_333 := Lib.hid (below_setRow (bel_326.out) (lb259.out) (arr (flat (pair y0 y1))))
                    have y_334 := Lib.hid (Blk.row (y_327.out) (arr (flat (pair y0 y1))))
                    have x_335 := Lib.hid (Blk.rowFar (x_328.out) ((Ne.symm ne311.out)) (arr (flat (pair y0 y1))))
                    obtain ⟨w329, hw330⟩ : ∃ w', w' = (w322).setRow g248 (arr (flat (pair y0 y1))) := ⟨_, rfl⟩
                    rw [← hw330] at b0_331 b1_332 bel_333 y_334 x_335
                    rw [← hw330]
                    clear hw330
                    refine hK.out _ _ ⟨b0_331.out, b1_332.out⟩ (fun _ => ?_); clear hK K
                    try simp only [Act.put, List.setIfInBounds_toArray, List.set_cons_zero, List.set_cons_succ]
                    refine wpAnyH_done (by kernel_rfl) ?_ _
                    go_wp2
                    go_meet
                    exact ⟨_, _, rfl, rfl, x_335.out, y_334.out, b0_331.out, bel_333.out⟩
                  exact AllReadyH.nil
                exact AllReadyH.nil
              exact AllReadyH.nil
            exact AllReadyH.nil
          exact AllReadyH.nil
        refine AllReadyH.cons (o := { dst := some 11, op := Go.Op.alloc 103, type := 0, pos := "solve.go:190", after := #[], guard := none }) rfl (fun K hK => ?_) ?_
        · -- 6: alloc
          rw [if_pos (by rfl)]
          refine wp_alloc_row 103 rfl (arr (flat (pair zeros zeros))) zero_pair.1 ?_
          have b0_340 := Lib.hid (Blk.alloc (C0.out) (.cells (arr (flat (pair zeros zeros))) 103))
          have b1_341 := Lib.hid (Blk.alloc (C1.out) (.cells (arr (flat (pair zeros zeros))) 103))
          have bel_342 := Lib.hid (Below.alloc (HBE.out) ((HBE.out).size) (.cells (arr (flat (pair zeros zeros))) 103))
          have rd_343 := Lib.hid (RdB.alloc (RD1.out) (.cells (arr (flat (pair zeros zeros))) 103))
          have rr_344 := Lib.hid (RdB.alloc (RD2.out) (.cells (arr (flat (pair zeros zeros))) 103))
          have ne345 := Lib.hid (Nat.ne_of_lt (Blk.lt C0.out))
          have ne346 := Lib.hid (Nat.ne_of_lt (Blk.lt C1.out))
          have lb347 := Lib.hid (HBE.out.size)
          have x_348 := Lib.hid (Blk.new (w56) 103 (arr (flat (pair zeros zeros))))
          obtain ⟨g336, hg337⟩ : ∃ g, g = (w56).heap.size := ⟨_, rfl⟩
          obtain ⟨w338, hw339⟩ : ∃ w', w' = (w56).alloc (.cells (arr (flat (pair zeros zeros))) 103) := ⟨_, rfl⟩
          rw [← hw339] at b0_340 b1_341 bel_342 rd_343 rr_344 x_348
          rw [← hg337] at ne345 ne346 lb347 x_348
          rw [← hg337, ← hw339]
          clear hg337 hw339
          refine hK.out _ _ ⟨b0_340.out, b1_341.out⟩ (fun _ => ?_); clear hK K
          try simp only [Act.put, List.setIfInBounds_toArray, List.set_cons_zero, List.set_cons_succ]
          refine wpAnyH_ready (rs := [2, 7]) (by kernel_rfl) (by simp) ?_
          refine AllReadyH.cons (o := { dst := some 36, op := Go.Op.call { callee := Go.Callee.value (Go.Operand.func 94), args := #[Go.Operand.tmp 34, Go.Operand.tmp 35], argTypes := #[70, 3] }, type := 103, pos := "solve.go:190", after := #[{ on := 0, ground := Go.Ground.data }, { on := 1, ground := Go.Ground.data }], guard := none }) rfl (fun K hK => ?_) ?_
          · -- 2: call
            go_simp
            go_at_call 94
            refine (HE1.out _ rd_343.out).mono ?_
            rintro e w349 ⟨rfl, hb350⟩
            dsimp only
            have b0_351 := Lib.hid (Blk.keep (b0_340.out) hb350)
            have b1_352 := Lib.hid (Blk.keep (b1_341.out) hb350)
            have bel_353 := Lib.hid (Below.trans (bel_342.out) (Below.mono hb350 ((bel_342.out).size)))
            have rd_354 := Lib.hid (RdB.below (rd_343.out) hb350)
            have rr_355 := Lib.hid (RdB.below (rr_344.out) hb350)
            have x_356 := Lib.hid (Blk.keep (x_348.out) hb350)
            refine hK.out _ _ ⟨b0_351.out, b1_352.out⟩ (fun _ => ?_); clear hK K
            try simp only [Act.put, List.setIfInBounds_toArray, List.set_cons_zero, List.set_cons_succ]
            refine wpAnyH_ready (rs := [5, 7]) (by kernel_rfl) (by simp) ?_
            refine AllReadyH.cons (o := { dst := some 39, op := Go.Op.call { callee := Go.Callee.value (Go.Operand.func 94), args := #[Go.Operand.tmp 37, Go.Operand.tmp 38], argTypes := #[70, 3] }, type := 103, pos := "solve.go:190", after := #[{ on := 3, ground := Go.Ground.data }, { on := 4, ground := Go.Ground.data }, { on := 2, ground := Go.Ground.chain }], guard := none }) rfl (fun K hK => ?_) ?_
            · -- 5: call
              go_simp
              go_at_call 94
              refine (HE2.out _ rr_355.out).mono ?_
              rintro e w357 ⟨rfl, hb358⟩
              dsimp only
              have b0_359 := Lib.hid (Blk.keep (b0_351.out) hb358)
              have b1_360 := Lib.hid (Blk.keep (b1_352.out) hb358)
              have bel_361 := Lib.hid (Below.trans (bel_353.out) (Below.mono hb358 ((bel_353.out).size)))
              have rd_362 := Lib.hid (RdB.below (rd_354.out) hb358)
              have rr_363 := Lib.hid (RdB.below (rr_355.out) hb358)
              have x_364 := Lib.hid (Blk.keep (x_356.out) hb358)
              refine hK.out _ _ ⟨b0_359.out, b1_360.out⟩ (fun _ => ?_); clear hK K
              try simp only [Act.put, List.setIfInBounds_toArray, List.set_cons_zero, List.set_cons_succ]
              refine wpAnyH_ready (rs := [7]) (by kernel_rfl) (by simp) ?_
              refine AllReadyH.cons (o := { dst := some 12, op := Go.Op.alloc 103, type := 0, pos := "solve.go:190", after := #[], guard := none }) rfl (fun K hK => ?_) ?_
              · -- 7: alloc
                rw [if_pos (by rfl)]
                refine wp_alloc_row 103 rfl (arr (flat (pair zeros zeros))) zero_pair.1 ?_
                have b0_369 := Lib.hid (Blk.alloc (b0_359.out) (.cells (arr (flat (pair zeros zeros))) 103))
                have b1_370 := Lib.hid (Blk.alloc (b1_360.out) (.cells (arr (flat (pair zeros zeros))) 103))
                have bel_371 := Lib.hid (Below.alloc (bel_361.out) ((bel_361.out).size) (.cells (arr (flat (pair zeros zeros))) 103))
                have rd_372 := Lib.hid (RdB.alloc (rd_362.out) (.cells (arr (flat (pair zeros zeros))) 103))
                have rr_373 := Lib.hid (RdB.alloc (rr_363.out) (.cells (arr (flat (pair zeros zeros))) 103))
                have x_374 := Lib.hid (Blk.alloc (x_364.out) (.cells (arr (flat (pair zeros zeros))) 103))
                have ne375 := Lib.hid (Nat.ne_of_lt (Blk.lt b0_359.out))
                have ne376 := Lib.hid (Nat.ne_of_lt (Blk.lt b1_360.out))
                have lb377 := Lib.hid (bel_361.out.size)
                have ne378 := Lib.hid (Nat.ne_of_lt (Blk.lt x_364.out))
                have y_379 := Lib.hid (Blk.new (w357) 103 (arr (flat (pair zeros zeros))))
                obtain ⟨g365, hg366⟩ : ∃ g, g = (w357).heap.size := ⟨_, rfl⟩
                obtain ⟨w367, hw368⟩ : ∃ w', w' = (w357).alloc (.cells (arr (flat (pair zeros zeros))) 103) := ⟨_, rfl⟩
                rw [← hw368] at b0_369 b1_370 bel_371 rd_372 rr_373 x_374 y_379
                rw [← hg366] at ne375 ne376 lb377 ne378 y_379
                rw [← hg366, ← hw368]
                clear hg366 hw368
                refine hK.out _ _ ⟨b0_369.out, b1_370.out⟩ (fun _ => ?_); clear hK K
                try simp only [Act.put, List.setIfInBounds_toArray, List.set_cons_zero, List.set_cons_succ]
                refine wpAnyH_ready (rs := [8]) (by kernel_rfl) (by simp) ?_
                refine AllReadyH.cons (o := { dst := none, op := Go.Op.store 103 (Go.Operand.tmp 11) (Go.Operand.tmp 36), type := 0, pos := "solve.go:190", after := #[{ on := 6, ground := Go.Ground.data }, { on := 2, ground := Go.Ground.data }, { on := 5, ground := Go.Ground.chain }, { on := 0, ground := Go.Ground.phase }, { on := 1, ground := Go.Ground.phase }, { on := 2, ground := Go.Ground.phase }, { on := 3, ground := Go.Ground.textOnly Go.Departure.lateStores }, { on := 4, ground := Go.Ground.textOnly Go.Departure.lateStores }, { on := 5, ground := Go.Ground.textOnly Go.Departure.lateStoresUnsure }, { on := 6, ground := Go.Ground.phase }, { on := 7, ground := Go.Ground.phase }], guard := none }) rfl (fun K hK => ?_) ?_
                · -- 8: store
                  rw [if_pos (by rfl)]
                  refine wp_store_row 103 (.tmp 11) (.tmp 36) rfl _ (arr (flat (pair x0 x1))) rfl rfl 103 (arr (flat (pair zeros zeros))) x_374.out (size_pair HX0.out HX1.out) (by rw [arr_size, arr_size, pair_length rfl rfl, pair_length HX0.out HX1.out]) (arr_one _) ?_
                  have b0_382 := Lib.hid (Blk.rowFar (b0_369.out) (ne345.out) (arr (flat (pair x0 x1))))
                  have b1_383 := Lib.hid (Blk.rowFar (b1_370.out) (ne346.out) (arr (flat (pair x0 x1))))
                  have bel_384 := Lib.hid (below_setRow (bel_371.out) (lb347.out) (arr (flat (pair x0 x1))))
                  have x_385 := Lib.hid (Blk.row (x_374.out) (arr (flat (pair x0 x1))))
                  have y_386 := Lib.hid (Blk.rowFar (y_379.out) ((Ne.symm ne378.out)) (arr (flat (pair x0 x1))))
                  obtain ⟨w380, hw381⟩ : ∃ w', w' = (w367).setRow g336 (arr (flat (pair x0 x1))) := ⟨_, rfl⟩
                  rw [← hw381] at b0_382 b1_383 bel_384 x_385 y_386
                  rw [← hw381]
                  clear hw381
                  refine hK.out _ _ ⟨b0_382.out, b1_383.out⟩ (fun _ => ?_); clear hK K
                  try simp only [Act.put, List.setIfInBounds_toArray, List.set_cons_zero, List.set_cons_succ]
                  refine wpAnyH_ready (rs := [9]) (by kernel_rfl) (by simp) ?_
                  refine AllReadyH.cons (o := { dst := none, op := Go.Op.store 103 (Go.Operand.tmp 12) (Go.Operand.tmp 39), type := 0, pos := "solve.go:190", after := #[{ on := 7, ground := Go.Ground.data }, { on := 5, ground := Go.Ground.data }, { on := 8, ground := Go.Ground.chain }, { on := 0, ground := Go.Ground.phase }, { on := 1, ground := Go.Ground.phase }, { on := 2, ground := Go.Ground.phase }, { on := 3, ground := Go.Ground.phase }, { on := 4, ground := Go.Ground.phase }, { on := 5, ground := Go.Ground.phase }, { on := 6, ground := Go.Ground.phase }, { on := 7, ground := Go.Ground.phase }, { on := 8, ground := Go.Ground.phase }], guard := none }) rfl (fun K hK => ?_) ?_
                  · -- 9: store
                    rw [if_pos (by rfl)]
                    refine wp_store_row 103 (.tmp 12) (.tmp 39) rfl _ (arr (flat (pair y0 y1))) rfl rfl 103 (arr (flat (pair zeros zeros))) y_386.out (size_pair HY0.out HY1.out) (by rw [arr_size, arr_size, pair_length rfl rfl, pair_length HY0.out HY1.out]) (arr_one _) ?_
                    have b0_389 := Lib.hid (Blk.rowFar (b0_382.out) (ne375.out) (arr (flat (pair y0 y1))))
                    have b1_390 := Lib.hid (Blk.rowFar (b1_383.out) (ne376.out) (arr (flat (pair y0 y1))))
                    have bel_391 := Lib.hid (below_setRow (bel_384.out) (lb377.out) (arr (flat (pair y0 y1))))
                    have x_392 := Lib.hid (Blk.rowFar (x_385.out) (ne378.out) (arr (flat (pair y0 y1))))
                    have y_393 := Lib.hid (Blk.row (y_386.out) (arr (flat (pair y0 y1))))
                    obtain ⟨w387, hw388⟩ : ∃ w', w' = (w380).setRow g365 (arr (flat (pair y0 y1))) := ⟨_, rfl⟩
                    rw [← hw388] at b0_389 b1_390 bel_391 x_392 y_393
                    rw [← hw388]
                    clear hw388
                    refine hK.out _ _ ⟨b0_389.out, b1_390.out⟩ (fun _ => ?_); clear hK K
                    try simp only [Act.put, List.setIfInBounds_toArray, List.set_cons_zero, List.set_cons_succ]
                    refine wpAnyH_done (by kernel_rfl) ?_ _
                    go_wp2
                    go_meet
                    exact ⟨_, _, rfl, rfl, x_392.out, y_393.out, b0_389.out, bel_391.out⟩
                  exact AllReadyH.nil
                exact AllReadyH.nil
              exact AllReadyH.nil
            refine AllReadyH.cons (o := { dst := some 12, op := Go.Op.alloc 103, type := 0, pos := "solve.go:190", after := #[], guard := none }) rfl (fun K hK => ?_) ?_
            · -- 7: alloc
              rw [if_pos (by rfl)]
              refine wp_alloc_row 103 rfl (arr (flat (pair zeros zeros))) zero_pair.1 ?_
              have b0_398 := Lib.hid (Blk.alloc (b0_351.out) (.cells (arr (flat (pair zeros zeros))) 103))
              have b1_399 := Lib.hid (Blk.alloc (b1_352.out) (.cells (arr (flat (pair zeros zeros))) 103))
              have bel_400 := Lib.hid (Below.alloc (bel_353.out) ((bel_353.out).size) (.cells (arr (flat (pair zeros zeros))) 103))
              have rd_401 := Lib.hid (RdB.alloc (rd_354.out) (.cells (arr (flat (pair zeros zeros))) 103))
              have rr_402 := Lib.hid (RdB.alloc (rr_355.out) (.cells (arr (flat (pair zeros zeros))) 103))
              have x_403 := Lib.hid (Blk.alloc (x_356.out) (.cells (arr (flat (pair zeros zeros))) 103))
              have ne404 := Lib.hid (Nat.ne_of_lt (Blk.lt b0_351.out))
              have ne405 := Lib.hid (Nat.ne_of_lt (Blk.lt b1_352.out))
              have lb406 := Lib.hid (bel_353.out.size)
              have ne407 := Lib.hid (Nat.ne_of_lt (Blk.lt x_356.out))
              have y_408 := Lib.hid (Blk.new (w349) 103 (arr (flat (pair zeros zeros))))
              obtain ⟨g394, hg395⟩ : ∃ g, g = (w349).heap.size := ⟨_, rfl⟩
              obtain ⟨w396, hw397⟩ : ∃ w', w' = (w349).alloc (.cells (arr (flat (pair zeros zeros))) 103) := ⟨_, rfl⟩
              rw [← hw397] at b0_398 b1_399 bel_400 rd_401 rr_402 x_403 y_408
              rw [← hg395] at ne404 ne405 lb406 ne407 y_408
              rw [← hg395, ← hw397]
              clear hg395 hw397
              refine hK.out _ _ ⟨b0_398.out, b1_399.out⟩ (fun _ => ?_); clear hK K
              try simp only [Act.put, List.setIfInBounds_toArray, List.set_cons_zero, List.set_cons_succ]
              refine wpAnyH_ready (rs := [5]) (by kernel_rfl) (by simp) ?_
              refine AllReadyH.cons (o := { dst := some 39, op := Go.Op.call { callee := Go.Callee.value (Go.Operand.func 94), args := #[Go.Operand.tmp 37, Go.Operand.tmp 38], argTypes := #[70, 3] }, type := 103, pos := "solve.go:190", after := #[{ on := 3, ground := Go.Ground.data }, { on := 4, ground := Go.Ground.data }, { on := 2, ground := Go.Ground.chain }], guard := none }) rfl (fun K hK => ?_) ?_
              · -- 5: call
                go_simp
                go_at_call 94
                refine (HE2.out _ rr_402.out).mono ?_
                rintro e w409 ⟨rfl, hb410⟩
                dsimp only
                have b0_411 := Lib.hid (Blk.keep (b0_398.out) hb410)
                have b1_412 := Lib.hid (Blk.keep (b1_399.out) hb410)
                have bel_413 := Lib.hid (Below.trans (bel_400.out) (Below.mono hb410 ((bel_400.out).size)))
                have rd_414 := Lib.hid (RdB.below (rd_401.out) hb410)
                have rr_415 := Lib.hid (RdB.below (rr_402.out) hb410)
                have x_416 := Lib.hid (Blk.keep (x_403.out) hb410)
                have y_417 := Lib.hid (Blk.keep (y_408.out) hb410)
                refine hK.out _ _ ⟨b0_411.out, b1_412.out⟩ (fun _ => ?_); clear hK K
                try simp only [Act.put, List.setIfInBounds_toArray, List.set_cons_zero, List.set_cons_succ]
                refine wpAnyH_ready (rs := [8]) (by kernel_rfl) (by simp) ?_
                refine AllReadyH.cons (o := { dst := none, op := Go.Op.store 103 (Go.Operand.tmp 11) (Go.Operand.tmp 36), type := 0, pos := "solve.go:190", after := #[{ on := 6, ground := Go.Ground.data }, { on := 2, ground := Go.Ground.data }, { on := 5, ground := Go.Ground.chain }, { on := 0, ground := Go.Ground.phase }, { on := 1, ground := Go.Ground.phase }, { on := 2, ground := Go.Ground.phase }, { on := 3, ground := Go.Ground.textOnly Go.Departure.lateStores }, { on := 4, ground := Go.Ground.textOnly Go.Departure.lateStores }, { on := 5, ground := Go.Ground.textOnly Go.Departure.lateStoresUnsure }, { on := 6, ground := Go.Ground.phase }, { on := 7, ground := Go.Ground.phase }], guard := none }) rfl (fun K hK => ?_) ?_
                · -- 8: store
                  rw [if_pos (by rfl)]
                  refine wp_store_row 103 (.tmp 11) (.tmp 36) rfl _ (arr (flat (pair x0 x1))) rfl rfl 103 (arr (flat (pair zeros zeros))) x_416.out (size_pair HX0.out HX1.out) (by rw [arr_size, arr_size, pair_length rfl rfl, pair_length HX0.out HX1.out]) (arr_one _) ?_
                  have b0_420 := Lib.hid (Blk.rowFar (b0_411.out) (ne345.out) (arr (flat (pair x0 x1))))
                  have b1_421 := Lib.hid (Blk.rowFar (b1_412.out) (ne346.out) (arr (flat (pair x0 x1))))
                  have bel_422 := Lib.hid (below_setRow (bel_413.out) (lb347.out) (arr (flat (pair x0 x1))))
                  have x_423 := Lib.hid (Blk.row (x_416.out) (arr (flat (pair x0 x1))))
                  have y_424 := Lib.hid (Blk.rowFar (y_417.out) ((Ne.symm ne407.out)) (arr (flat (pair x0 x1))))
                  obtain ⟨w418, hw419⟩ : ∃ w', w' = (w409).setRow g336 (arr (flat (pair x0 x1))) := ⟨_, rfl⟩
                  rw [← hw419] at b0_420 b1_421 bel_422 x_423 y_424
                  rw [← hw419]
                  clear hw419
                  refine hK.out _ _ ⟨b0_420.out, b1_421.out⟩ (fun _ => ?_); clear hK K
                  try simp only [Act.put, List.setIfInBounds_toArray, List.set_cons_zero, List.set_cons_succ]
                  refine wpAnyH_ready (rs := [9]) (by kernel_rfl) (by simp) ?_
                  refine AllReadyH.cons (o := { dst := none, op := Go.Op.store 103 (Go.Operand.tmp 12) (Go.Operand.tmp 39), type := 0, pos := "solve.go:190", after := #[{ on := 7, ground := Go.Ground.data }, { on := 5, ground := Go.Ground.data }, { on := 8, ground := Go.Ground.chain }, { on := 0, ground := Go.Ground.phase }, { on := 1, ground := Go.Ground.phase }, { on := 2, ground := Go.Ground.phase }, { on := 3, ground := Go.Ground.phase }, { on := 4, ground := Go.Ground.phase }, { on := 5, ground := Go.Ground.phase }, { on := 6, ground := Go.Ground.phase }, { on := 7, ground := Go.Ground.phase }, { on := 8, ground := Go.Ground.phase }], guard := none }) rfl (fun K hK => ?_) ?_
                  · -- 9: store
                    rw [if_pos (by rfl)]
                    refine wp_store_row 103 (.tmp 12) (.tmp 39) rfl _ (arr (flat (pair y0 y1))) rfl rfl 103 (arr (flat (pair zeros zeros))) y_424.out (size_pair HY0.out HY1.out) (by rw [arr_size, arr_size, pair_length rfl rfl, pair_length HY0.out HY1.out]) (arr_one _) ?_
                    have b0_427 := Lib.hid (Blk.rowFar (b0_420.out) (ne404.out) (arr (flat (pair y0 y1))))
                    have b1_428 := Lib.hid (Blk.rowFar (b1_421.out) (ne405.out) (arr (flat (pair y0 y1))))
                    have bel_429 := Lib.hid (below_setRow (bel_422.out) (lb406.out) (arr (flat (pair y0 y1))))
                    have x_430 := Lib.hid (Blk.rowFar (x_423.out) (ne407.out) (arr (flat (pair y0 y1))))
                    have y_431 := Lib.hid (Blk.row (y_424.out) (arr (flat (pair y0 y1))))
                    obtain ⟨w425, hw426⟩ : ∃ w', w' = (w418).setRow g394 (arr (flat (pair y0 y1))) := ⟨_, rfl⟩
                    rw [← hw426] at b0_427 b1_428 bel_429 x_430 y_431
                    rw [← hw426]
                    clear hw426
                    refine hK.out _ _ ⟨b0_427.out, b1_428.out⟩ (fun _ => ?_); clear hK K
                    try simp only [Act.put, List.setIfInBounds_toArray, List.set_cons_zero, List.set_cons_succ]
                    refine wpAnyH_done (by kernel_rfl) ?_ _
                    go_wp2
                    go_meet
                    exact ⟨_, _, rfl, rfl, x_430.out, y_431.out, b0_427.out, bel_429.out⟩
                  exact AllReadyH.nil
                exact AllReadyH.nil
              exact AllReadyH.nil
            exact AllReadyH.nil
          refine AllReadyH.cons (o := { dst := some 12, op := Go.Op.alloc 103, type := 0, pos := "solve.go:190", after := #[], guard := none }) rfl (fun K hK => ?_) ?_
          · -- 7: alloc
            rw [if_pos (by rfl)]
            refine wp_alloc_row 103 rfl (arr (flat (pair zeros zeros))) zero_pair.1 ?_
            have b0_436 := Lib.hid (Blk.alloc (b0_340.out) (.cells (arr (flat (pair zeros zeros))) 103))
            have b1_437 := Lib.hid (Blk.alloc (b1_341.out) (.cells (arr (flat (pair zeros zeros))) 103))
            have bel_438 := Lib.hid (Below.alloc (bel_342.out) ((bel_342.out).size) (.cells (arr (flat (pair zeros zeros))) 103))
            have rd_439 := Lib.hid (RdB.alloc (rd_343.out) (.cells (arr (flat (pair zeros zeros))) 103))
            have rr_440 := Lib.hid (RdB.alloc (rr_344.out) (.cells (arr (flat (pair zeros zeros))) 103))
            have x_441 := Lib.hid (Blk.alloc (x_348.out) (.cells (arr (flat (pair zeros zeros))) 103))
            have ne442 := Lib.hid (Nat.ne_of_lt (Blk.lt b0_340.out))
            have ne443 := Lib.hid (Nat.ne_of_lt (Blk.lt b1_341.out))
            have lb444 := Lib.hid (bel_342.out.size)
            have ne445 := Lib.hid (Nat.ne_of_lt (Blk.lt x_348.out))
            have y_446 := Lib.hid (Blk.new (w338) 103 (arr (flat (pair zeros zeros))))
            obtain ⟨g432, hg433⟩ : ∃ g, g = (w338).heap.size := ⟨_, rfl⟩
            obtain ⟨w434, hw435⟩ : ∃ w', w' = (w338).alloc (.cells (arr (flat (pair zeros zeros))) 103) := ⟨_, rfl⟩
            rw [← hw435] at b0_436 b1_437 bel_438 rd_439 rr_440 x_441 y_446
            rw [← hg433] at ne442 ne443 lb444 ne445 y_446
            rw [← hg433, ← hw435]
            clear hg433 hw435
            refine hK.out _ _ ⟨b0_436.out, b1_437.out⟩ (fun _ => ?_); clear hK K
            try simp only [Act.put, List.setIfInBounds_toArray, List.set_cons_zero, List.set_cons_succ]
            refine wpAnyH_ready (rs := [2]) (by kernel_rfl) (by simp) ?_
            refine AllReadyH.cons (o := { dst := some 36, op := Go.Op.call { callee := Go.Callee.value (Go.Operand.func 94), args := #[Go.Operand.tmp 34, Go.Operand.tmp 35], argTypes := #[70, 3] }, type := 103, pos := "solve.go:190", after := #[{ on := 0, ground := Go.Ground.data }, { on := 1, ground := Go.Ground.data }], guard := none }) rfl (fun K hK => ?_) ?_
            · -- 2: call
              go_simp
              go_at_call 94
              refine (HE1.out _ rd_439.out).mono ?_
              rintro e w447 ⟨rfl, hb448⟩
              dsimp only
              have b0_449 := Lib.hid (Blk.keep (b0_436.out) hb448)
              have b1_450 := Lib.hid (Blk.keep (b1_437.out) hb448)
              have bel_451 := Lib.hid (Below.trans (bel_438.out) (Below.mono hb448 ((bel_438.out).size)))
              have rd_452 := Lib.hid (RdB.below (rd_439.out) hb448)
              have rr_453 := Lib.hid (RdB.below (rr_440.out) hb448)
              have x_454 := Lib.hid (Blk.keep (x_441.out) hb448)
              have y_455 := Lib.hid (Blk.keep (y_446.out) hb448)
              refine hK.out _ _ ⟨b0_449.out, b1_450.out⟩ (fun _ => ?_); clear hK K
              try simp only [Act.put, List.setIfInBounds_toArray, List.set_cons_zero, List.set_cons_succ]
              refine wpAnyH_ready (rs := [5]) (by kernel_rfl) (by simp) ?_
              refine AllReadyH.cons (o := { dst := some 39, op := Go.Op.call { callee := Go.Callee.value (Go.Operand.func 94), args := #[Go.Operand.tmp 37, Go.Operand.tmp 38], argTypes := #[70, 3] }, type := 103, pos := "solve.go:190", after := #[{ on := 3, ground := Go.Ground.data }, { on := 4, ground := Go.Ground.data }, { on := 2, ground := Go.Ground.chain }], guard := none }) rfl (fun K hK => ?_) ?_
              · -- 5: call
                go_simp
                go_at_call 94
                refine (HE2.out _ rr_453.out).mono ?_
                rintro e w456 ⟨rfl, hb457⟩
                dsimp only
                have b0_458 := Lib.hid (Blk.keep (b0_449.out) hb457)
                have b1_459 := Lib.hid (Blk.keep (b1_450.out) hb457)
                have bel_460 := Lib.hid (Below.trans (bel_451.out) (Below.mono hb457 ((bel_451.out).size)))
                have rd_461 := Lib.hid (RdB.below (rd_452.out) hb457)
                have rr_462 := Lib.hid (RdB.below (rr_453.out) hb457)
                have x_463 := Lib.hid (Blk.keep (x_454.out) hb457)
                have y_464 := Lib.hid (Blk.keep (y_455.out) hb457)
                refine hK.out _ _ ⟨b0_458.out, b1_459.out⟩ (fun _ => ?_); clear hK K
                try simp only [Act.put, List.setIfInBounds_toArray, List.set_cons_zero, List.set_cons_succ]
                refine wpAnyH_ready (rs := [8]) (by kernel_rfl) (by simp) ?_
                refine AllReadyH.cons (o := { dst := none, op := Go.Op.store 103 (Go.Operand.tmp 11) (Go.Operand.tmp 36), type := 0, pos := "solve.go:190", after := #[{ on := 6, ground := Go.Ground.data }, { on := 2, ground := Go.Ground.data }, { on := 5, ground := Go.Ground.chain }, { on := 0, ground := Go.Ground.phase }, { on := 1, ground := Go.Ground.phase }, { on := 2, ground := Go.Ground.phase }, { on := 3, ground := Go.Ground.textOnly Go.Departure.lateStores }, { on := 4, ground := Go.Ground.textOnly Go.Departure.lateStores }, { on := 5, ground := Go.Ground.textOnly Go.Departure.lateStoresUnsure }, { on := 6, ground := Go.Ground.phase }, { on := 7, ground := Go.Ground.phase }], guard := none }) rfl (fun K hK => ?_) ?_
                · -- 8: store
                  rw [if_pos (by rfl)]
                  refine wp_store_row 103 (.tmp 11) (.tmp 36) rfl _ (arr (flat (pair x0 x1))) rfl rfl 103 (arr (flat (pair zeros zeros))) x_463.out (size_pair HX0.out HX1.out) (by rw [arr_size, arr_size, pair_length rfl rfl, pair_length HX0.out HX1.out]) (arr_one _) ?_
                  have b0_467 := Lib.hid (Blk.rowFar (b0_458.out) (ne345.out) (arr (flat (pair x0 x1))))
                  have b1_468 := Lib.hid (Blk.rowFar (b1_459.out) (ne346.out) (arr (flat (pair x0 x1))))
                  have bel_469 := Lib.hid (below_setRow (bel_460.out) (lb347.out) (arr (flat (pair x0 x1))))
                  have x_470 := Lib.hid (Blk.row (x_463.out) (arr (flat (pair x0 x1))))
                  have y_471 := Lib.hid (Blk.rowFar (y_464.out) ((Ne.symm ne445.out)) (arr (flat (pair x0 x1))))
                  obtain ⟨w465, hw466⟩ : ∃ w', w' = (w456).setRow g336 (arr (flat (pair x0 x1))) := ⟨_, rfl⟩
                  rw [← hw466] at b0_467 b1_468 bel_469 x_470 y_471
                  rw [← hw466]
                  clear hw466
                  refine hK.out _ _ ⟨b0_467.out, b1_468.out⟩ (fun _ => ?_); clear hK K
                  try simp only [Act.put, List.setIfInBounds_toArray, List.set_cons_zero, List.set_cons_succ]
                  refine wpAnyH_ready (rs := [9]) (by kernel_rfl) (by simp) ?_
                  refine AllReadyH.cons (o := { dst := none, op := Go.Op.store 103 (Go.Operand.tmp 12) (Go.Operand.tmp 39), type := 0, pos := "solve.go:190", after := #[{ on := 7, ground := Go.Ground.data }, { on := 5, ground := Go.Ground.data }, { on := 8, ground := Go.Ground.chain }, { on := 0, ground := Go.Ground.phase }, { on := 1, ground := Go.Ground.phase }, { on := 2, ground := Go.Ground.phase }, { on := 3, ground := Go.Ground.phase }, { on := 4, ground := Go.Ground.phase }, { on := 5, ground := Go.Ground.phase }, { on := 6, ground := Go.Ground.phase }, { on := 7, ground := Go.Ground.phase }, { on := 8, ground := Go.Ground.phase }], guard := none }) rfl (fun K hK => ?_) ?_
                  · -- 9: store
                    rw [if_pos (by rfl)]
                    refine wp_store_row 103 (.tmp 12) (.tmp 39) rfl _ (arr (flat (pair y0 y1))) rfl rfl 103 (arr (flat (pair zeros zeros))) y_471.out (size_pair HY0.out HY1.out) (by rw [arr_size, arr_size, pair_length rfl rfl, pair_length HY0.out HY1.out]) (arr_one _) ?_
                    have b0_474 := Lib.hid (Blk.rowFar (b0_467.out) (ne442.out) (arr (flat (pair y0 y1))))
                    have b1_475 := Lib.hid (Blk.rowFar (b1_468.out) (ne443.out) (arr (flat (pair y0 y1))))
                    have bel_476 := Lib.hid (below_setRow (bel_469.out) (lb444.out) (arr (flat (pair y0 y1))))
                    have x_477 := Lib.hid (Blk.rowFar (x_470.out) (ne445.out) (arr (flat (pair y0 y1))))
                    have y_478 := Lib.hid (Blk.row (y_471.out) (arr (flat (pair y0 y1))))
                    obtain ⟨w472, hw473⟩ : ∃ w', w' = (w465).setRow g432 (arr (flat (pair y0 y1))) := ⟨_, rfl⟩
                    rw [← hw473] at b0_474 b1_475 bel_476 x_477 y_478
                    rw [← hw473]
                    clear hw473
                    refine hK.out _ _ ⟨b0_474.out, b1_475.out⟩ (fun _ => ?_); clear hK K
                    try simp only [Act.put, List.setIfInBounds_toArray, List.set_cons_zero, List.set_cons_succ]
                    refine wpAnyH_done (by kernel_rfl) ?_ _
                    go_wp2
                    go_meet
                    exact ⟨_, _, rfl, rfl, x_477.out, y_478.out, b0_474.out, bel_476.out⟩
                  exact AllReadyH.nil
                exact AllReadyH.nil
              exact AllReadyH.nil
            exact AllReadyH.nil
          exact AllReadyH.nil
        refine AllReadyH.cons (o := { dst := some 12, op := Go.Op.alloc 103, type := 0, pos := "solve.go:190", after := #[], guard := none }) rfl (fun K hK => ?_) ?_
        · -- 7: alloc
          rw [if_pos (by rfl)]
          refine wp_alloc_row 103 rfl (arr (flat (pair zeros zeros))) zero_pair.1 ?_
          have b0_483 := Lib.hid (Blk.alloc (C0.out) (.cells (arr (flat (pair zeros zeros))) 103))
          have b1_484 := Lib.hid (Blk.alloc (C1.out) (.cells (arr (flat (pair zeros zeros))) 103))
          have bel_485 := Lib.hid (Below.alloc (HBE.out) ((HBE.out).size) (.cells (arr (flat (pair zeros zeros))) 103))
          have rd_486 := Lib.hid (RdB.alloc (RD1.out) (.cells (arr (flat (pair zeros zeros))) 103))
          have rr_487 := Lib.hid (RdB.alloc (RD2.out) (.cells (arr (flat (pair zeros zeros))) 103))
          have ne488 := Lib.hid (Nat.ne_of_lt (Blk.lt C0.out))
          have ne489 := Lib.hid (Nat.ne_of_lt (Blk.lt C1.out))
          have lb490 := Lib.hid (HBE.out.size)
          have y_491 := Lib.hid (Blk.new (w56) 103 (arr (flat (pair zeros zeros))))
          obtain ⟨g479, hg480⟩ : ∃ g, g = (w56).heap.size := ⟨_, rfl⟩
          obtain ⟨w481, hw482⟩ : ∃ w', w' = (w56).alloc (.cells (arr (flat (pair zeros zeros))) 103) := ⟨_, rfl⟩
          rw [← hw482] at b0_483 b1_484 bel_485 rd_486 rr_487 y_491
          rw [← hg480] at ne488 ne489 lb490 y_491
          rw [← hg480, ← hw482]
          clear hg480 hw482
          refine hK.out _ _ ⟨b0_483.out, b1_484.out⟩ (fun _ => ?_); clear hK K
          try simp only [Act.put, List.setIfInBounds_toArray, List.set_cons_zero, List.set_cons_succ]
          refine wpAnyH_ready (rs := [2, 6]) (by kernel_rfl) (by simp) ?_
          refine AllReadyH.cons (o := { dst := some 36, op := Go.Op.call { callee := Go.Callee.value (Go.Operand.func 94), args := #[Go.Operand.tmp 34, Go.Operand.tmp 35], argTypes := #[70, 3] }, type := 103, pos := "solve.go:190", after := #[{ on := 0, ground := Go.Ground.data }, { on := 1, ground := Go.Ground.data }], guard := none }) rfl (fun K hK => ?_) ?_
          · -- 2: call
            go_simp
            go_at_call 94
            refine (HE1.out _ rd_486.out).mono ?_
            rintro e w492 ⟨rfl, hb493⟩
            dsimp only
            have b0_494 := Lib.hid (Blk.keep (b0_483.out) hb493)
            have b1_495 := Lib.hid (Blk.keep (b1_484.out) hb493)
            have bel_496 := Lib.hid (Below.trans (bel_485.out) (Below.mono hb493 ((bel_485.out).size)))
            have rd_497 := Lib.hid (RdB.below (rd_486.out) hb493)
            have rr_498 := Lib.hid (RdB.below (rr_487.out) hb493)
            have y_499 := Lib.hid (Blk.keep (y_491.out) hb493)
            refine hK.out _ _ ⟨b0_494.out, b1_495.out⟩ (fun _ => ?_); clear hK K
            try simp only [Act.put, List.setIfInBounds_toArray, List.set_cons_zero, List.set_cons_succ]
            refine wpAnyH_ready (rs := [5, 6]) (by kernel_rfl) (by simp) ?_
            refine AllReadyH.cons (o := { dst := some 39, op := Go.Op.call { callee := Go.Callee.value (Go.Operand.func 94), args := #[Go.Operand.tmp 37, Go.Operand.tmp 38], argTypes := #[70, 3] }, type := 103, pos := "solve.go:190", after := #[{ on := 3, ground := Go.Ground.data }, { on := 4, ground := Go.Ground.data }, { on := 2, ground := Go.Ground.chain }], guard := none }) rfl (fun K hK => ?_) ?_
            · -- 5: call
              go_simp
              go_at_call 94
              refine (HE2.out _ rr_498.out).mono ?_
              rintro e w500 ⟨rfl, hb501⟩
              dsimp only
              have b0_502 := Lib.hid (Blk.keep (b0_494.out) hb501)
              have b1_503 := Lib.hid (Blk.keep (b1_495.out) hb501)
              have bel_504 := Lib.hid (Below.trans (bel_496.out) (Below.mono hb501 ((bel_496.out).size)))
              have rd_505 := Lib.hid (RdB.below (rd_497.out) hb501)
              have rr_506 := Lib.hid (RdB.below (rr_498.out) hb501)
              have y_507 := Lib.hid (Blk.keep (y_499.out) hb501)
              refine hK.out _ _ ⟨b0_502.out, b1_503.out⟩ (fun _ => ?_); clear hK K
              try simp only [Act.put, List.setIfInBounds_toArray, List.set_cons_zero, List.set_cons_succ]
              refine wpAnyH_ready (rs := [6]) (by kernel_rfl) (by simp) ?_
              refine AllReadyH.cons (o := { dst := some 11, op := Go.Op.alloc 103, type := 0, pos := "solve.go:190", after := #[], guard := none }) rfl (fun K hK => ?_) ?_
              · -- 6: alloc
                rw [if_pos (by rfl)]
                refine wp_alloc_row 103 rfl (arr (flat (pair zeros zeros))) zero_pair.1 ?_
                have b0_512 := Lib.hid (Blk.alloc (b0_502.out) (.cells (arr (flat (pair zeros zeros))) 103))
                have b1_513 := Lib.hid (Blk.alloc (b1_503.out) (.cells (arr (flat (pair zeros zeros))) 103))
                have bel_514 := Lib.hid (Below.alloc (bel_504.out) ((bel_504.out).size) (.cells (arr (flat (pair zeros zeros))) 103))
                have rd_515 := Lib.hid (RdB.alloc (rd_505.out) (.cells (arr (flat (pair zeros zeros))) 103))
                have rr_516 := Lib.hid (RdB.alloc (rr_506.out) (.cells (arr (flat (pair zeros zeros))) 103))
                have y_517 := Lib.hid (Blk.alloc (y_507.out) (.cells (arr (flat (pair zeros zeros))) 103))
                have ne518 := Lib.hid (Nat.ne_of_lt (Blk.lt b0_502.out))
                have ne519 := Lib.hid (Nat.ne_of_lt (Blk.lt b1_503.out))
                have lb520 := Lib.hid (bel_504.out.size)
                have ne521 := Lib.hid (Nat.ne_of_lt (Blk.lt y_507.out))
                have x_522 := Lib.hid (Blk.new (w500) 103 (arr (flat (pair zeros zeros))))
                obtain ⟨g508, hg509⟩ : ∃ g, g = (w500).heap.size := ⟨_, rfl⟩
                obtain ⟨w510, hw511⟩ : ∃ w', w' = (w500).alloc (.cells (arr (flat (pair zeros zeros))) 103) := ⟨_, rfl⟩
                rw [← hw511] at b0_512 b1_513 bel_514 rd_515 rr_516 y_517 x_522
                rw [← hg509] at ne518 ne519 lb520 ne521 x_522
                rw [← hg509, ← hw511]
                clear hg509 hw511
                refine hK.out _ _ ⟨b0_512.out, b1_513.out⟩ (fun _ => ?_); clear hK K
                try simp only [Act.put, List.setIfInBounds_toArray, List.set_cons_zero, List.set_cons_succ]
                refine wpAnyH_ready (rs := [8]) (by kernel_rfl) (by simp) ?_
                refine AllReadyH.cons (o := { dst := none, op := Go.Op.store 103 (Go.Operand.tmp 11) (Go.Operand.tmp 36), type := 0, pos := "solve.go:190", after := #[{ on := 6, ground := Go.Ground.data }, { on := 2, ground := Go.Ground.data }, { on := 5, ground := Go.Ground.chain }, { on := 0, ground := Go.Ground.phase }, { on := 1, ground := Go.Ground.phase }, { on := 2, ground := Go.Ground.phase }, { on := 3, ground := Go.Ground.textOnly Go.Departure.lateStores }, { on := 4, ground := Go.Ground.textOnly Go.Departure.lateStores }, { on := 5, ground := Go.Ground.textOnly Go.Departure.lateStoresUnsure }, { on := 6, ground := Go.Ground.phase }, { on := 7, ground := Go.Ground.phase }], guard := none }) rfl (fun K hK => ?_) ?_
                · -- 8: store
                  rw [if_pos (by rfl)]
                  refine wp_store_row 103 (.tmp 11) (.tmp 36) rfl _ (arr (flat (pair x0 x1))) rfl rfl 103 (arr (flat (pair zeros zeros))) x_522.out (size_pair HX0.out HX1.out) (by rw [arr_size, arr_size, pair_length rfl rfl, pair_length HX0.out HX1.out]) (arr_one _) ?_
                  have b0_525 := Lib.hid (Blk.rowFar (b0_512.out) (ne518.out) (arr (flat (pair x0 x1))))
                  have b1_526 := Lib.hid (Blk.rowFar (b1_513.out) (ne519.out) (arr (flat (pair x0 x1))))
                  have bel_527 := Lib.hid (below_setRow (bel_514.out) (lb520.out) (arr (flat (pair x0 x1))))
                  have y_528 := Lib.hid (Blk.rowFar (y_517.out) (ne521.out) (arr (flat (pair x0 x1))))
                  have x_529 := Lib.hid (Blk.row (x_522.out) (arr (flat (pair x0 x1))))
                  obtain ⟨w523, hw524⟩ : ∃ w', w' = (w510).setRow g508 (arr (flat (pair x0 x1))) := ⟨_, rfl⟩
                  rw [← hw524] at b0_525 b1_526 bel_527 y_528 x_529
                  rw [← hw524]
                  clear hw524
                  refine hK.out _ _ ⟨b0_525.out, b1_526.out⟩ (fun _ => ?_); clear hK K
                  try simp only [Act.put, List.setIfInBounds_toArray, List.set_cons_zero, List.set_cons_succ]
                  refine wpAnyH_ready (rs := [9]) (by kernel_rfl) (by simp) ?_
                  refine AllReadyH.cons (o := { dst := none, op := Go.Op.store 103 (Go.Operand.tmp 12) (Go.Operand.tmp 39), type := 0, pos := "solve.go:190", after := #[{ on := 7, ground := Go.Ground.data }, { on := 5, ground := Go.Ground.data }, { on := 8, ground := Go.Ground.chain }, { on := 0, ground := Go.Ground.phase }, { on := 1, ground := Go.Ground.phase }, { on := 2, ground := Go.Ground.phase }, { on := 3, ground := Go.Ground.phase }, { on := 4, ground := Go.Ground.phase }, { on := 5, ground := Go.Ground.phase }, { on := 6, ground := Go.Ground.phase }, { on := 7, ground := Go.Ground.phase }, { on := 8, ground := Go.Ground.phase }], guard := none }) rfl (fun K hK => ?_) ?_
                  · -- 9: store
                    rw [if_pos (by rfl)]
                    refine wp_store_row 103 (.tmp 12) (.tmp 39) rfl _ (arr (flat (pair y0 y1))) rfl rfl 103 (arr (flat (pair zeros zeros))) y_528.out (size_pair HY0.out HY1.out) (by rw [arr_size, arr_size, pair_length rfl rfl, pair_length HY0.out HY1.out]) (arr_one _) ?_
                    have b0_532 := Lib.hid (Blk.rowFar (b0_525.out) (ne488.out) (arr (flat (pair y0 y1))))
                    have b1_533 := Lib.hid (Blk.rowFar (b1_526.out) (ne489.out) (arr (flat (pair y0 y1))))
                    have bel_534 := Lib.hid (below_setRow (bel_527.out) (lb490.out) (arr (flat (pair y0 y1))))
                    have y_535 := Lib.hid (Blk.row (y_528.out) (arr (flat (pair y0 y1))))
                    have x_536 := Lib.hid (Blk.rowFar (x_529.out) ((Ne.symm ne521.out)) (arr (flat (pair y0 y1))))
                    obtain ⟨w530, hw531⟩ : ∃ w', w' = (w523).setRow g479 (arr (flat (pair y0 y1))) := ⟨_, rfl⟩
                    rw [← hw531] at b0_532 b1_533 bel_534 y_535 x_536
                    rw [← hw531]
                    clear hw531
                    refine hK.out _ _ ⟨b0_532.out, b1_533.out⟩ (fun _ => ?_); clear hK K
                    try simp only [Act.put, List.setIfInBounds_toArray, List.set_cons_zero, List.set_cons_succ]
                    refine wpAnyH_done (by kernel_rfl) ?_ _
                    go_wp2
                    go_meet
                    exact ⟨_, _, rfl, rfl, x_536.out, y_535.out, b0_532.out, bel_534.out⟩
                  exact AllReadyH.nil
                exact AllReadyH.nil
              exact AllReadyH.nil
            refine AllReadyH.cons (o := { dst := some 11, op := Go.Op.alloc 103, type := 0, pos := "solve.go:190", after := #[], guard := none }) rfl (fun K hK => ?_) ?_
            · -- 6: alloc
              rw [if_pos (by rfl)]
              refine wp_alloc_row 103 rfl (arr (flat (pair zeros zeros))) zero_pair.1 ?_
              have b0_541 := Lib.hid (Blk.alloc (b0_494.out) (.cells (arr (flat (pair zeros zeros))) 103))
              have b1_542 := Lib.hid (Blk.alloc (b1_495.out) (.cells (arr (flat (pair zeros zeros))) 103))
              have bel_543 := Lib.hid (Below.alloc (bel_496.out) ((bel_496.out).size) (.cells (arr (flat (pair zeros zeros))) 103))
              have rd_544 := Lib.hid (RdB.alloc (rd_497.out) (.cells (arr (flat (pair zeros zeros))) 103))
              have rr_545 := Lib.hid (RdB.alloc (rr_498.out) (.cells (arr (flat (pair zeros zeros))) 103))
              have y_546 := Lib.hid (Blk.alloc (y_499.out) (.cells (arr (flat (pair zeros zeros))) 103))
              have ne547 := Lib.hid (Nat.ne_of_lt (Blk.lt b0_494.out))
              have ne548 := Lib.hid (Nat.ne_of_lt (Blk.lt b1_495.out))
              have lb549 := Lib.hid (bel_496.out.size)
              have ne550 := Lib.hid (Nat.ne_of_lt (Blk.lt y_499.out))
              have x_551 := Lib.hid (Blk.new (w492) 103 (arr (flat (pair zeros zeros))))
              obtain ⟨g537, hg538⟩ : ∃ g, g = (w492).heap.size := ⟨_, rfl⟩
              obtain ⟨w539, hw540⟩ : ∃ w', w' = (w492).alloc (.cells (arr (flat (pair zeros zeros))) 103) := ⟨_, rfl⟩
              rw [← hw540] at b0_541 b1_542 bel_543 rd_544 rr_545 y_546 x_551
              rw [← hg538] at ne547 ne548 lb549 ne550 x_551
              rw [← hg538, ← hw540]
              clear hg538 hw540
              refine hK.out _ _ ⟨b0_541.out, b1_542.out⟩ (fun _ => ?_); clear hK K
              try simp only [Act.put, List.setIfInBounds_toArray, List.set_cons_zero, List.set_cons_succ]
              refine wpAnyH_ready (rs := [5]) (by kernel_rfl) (by simp) ?_
              refine AllReadyH.cons (o := { dst := some 39, op := Go.Op.call { callee := Go.Callee.value (Go.Operand.func 94), args := #[Go.Operand.tmp 37, Go.Operand.tmp 38], argTypes := #[70, 3] }, type := 103, pos := "solve.go:190", after := #[{ on := 3, ground := Go.Ground.data }, { on := 4, ground := Go.Ground.data }, { on := 2, ground := Go.Ground.chain }], guard := none }) rfl (fun K hK => ?_) ?_
              · -- 5: call
                go_simp
                go_at_call 94
                refine (HE2.out _ rr_545.out).mono ?_
                rintro e w552 ⟨rfl, hb553⟩
                dsimp only
                have b0_554 := Lib.hid (Blk.keep (b0_541.out) hb553)
                have b1_555 := Lib.hid (Blk.keep (b1_542.out) hb553)
                have bel_556 := Lib.hid (Below.trans (bel_543.out) (Below.mono hb553 ((bel_543.out).size)))
                have rd_557 := Lib.hid (RdB.below (rd_544.out) hb553)
                have rr_558 := Lib.hid (RdB.below (rr_545.out) hb553)
                have y_559 := Lib.hid (Blk.keep (y_546.out) hb553)
                have x_560 := Lib.hid (Blk.keep (x_551.out) hb553)
                refine hK.out _ _ ⟨b0_554.out, b1_555.out⟩ (fun _ => ?_); clear hK K
                try simp only [Act.put, List.setIfInBounds_toArray, List.set_cons_zero, List.set_cons_succ]
                refine wpAnyH_ready (rs := [8]) (by kernel_rfl) (by simp) ?_
                refine AllReadyH.cons (o := { dst := none, op := Go.Op.store 103 (Go.Operand.tmp 11) (Go.Operand.tmp 36), type := 0, pos := "solve.go:190", after := #[{ on := 6, ground := Go.Ground.data }, { on := 2, ground := Go.Ground.data }, { on := 5, ground := Go.Ground.chain }, { on := 0, ground := Go.Ground.phase }, { on := 1, ground := Go.Ground.phase }, { on := 2, ground := Go.Ground.phase }, { on := 3, ground := Go.Ground.textOnly Go.Departure.lateStores }, { on := 4, ground := Go.Ground.textOnly Go.Departure.lateStores }, { on := 5, ground := Go.Ground.textOnly Go.Departure.lateStoresUnsure }, { on := 6, ground := Go.Ground.phase }, { on := 7, ground := Go.Ground.phase }], guard := none }) rfl (fun K hK => ?_) ?_
                · -- 8: store
                  rw [if_pos (by rfl)]
                  refine wp_store_row 103 (.tmp 11) (.tmp 36) rfl _ (arr (flat (pair x0 x1))) rfl rfl 103 (arr (flat (pair zeros zeros))) x_560.out (size_pair HX0.out HX1.out) (by rw [arr_size, arr_size, pair_length rfl rfl, pair_length HX0.out HX1.out]) (arr_one _) ?_
                  have b0_563 := Lib.hid (Blk.rowFar (b0_554.out) (ne547.out) (arr (flat (pair x0 x1))))
                  have b1_564 := Lib.hid (Blk.rowFar (b1_555.out) (ne548.out) (arr (flat (pair x0 x1))))
                  have bel_565 := Lib.hid (below_setRow (bel_556.out) (lb549.out) (arr (flat (pair x0 x1))))
                  have y_566 := Lib.hid (Blk.rowFar (y_559.out) (ne550.out) (arr (flat (pair x0 x1))))
                  have x_567 := Lib.hid (Blk.row (x_560.out) (arr (flat (pair x0 x1))))
                  obtain ⟨w561, hw562⟩ : ∃ w', w' = (w552).setRow g537 (arr (flat (pair x0 x1))) := ⟨_, rfl⟩
                  rw [← hw562] at b0_563 b1_564 bel_565 y_566 x_567
                  rw [← hw562]
                  clear hw562
                  refine hK.out _ _ ⟨b0_563.out, b1_564.out⟩ (fun _ => ?_); clear hK K
                  try simp only [Act.put, List.setIfInBounds_toArray, List.set_cons_zero, List.set_cons_succ]
                  refine wpAnyH_ready (rs := [9]) (by kernel_rfl) (by simp) ?_
                  refine AllReadyH.cons (o := { dst := none, op := Go.Op.store 103 (Go.Operand.tmp 12) (Go.Operand.tmp 39), type := 0, pos := "solve.go:190", after := #[{ on := 7, ground := Go.Ground.data }, { on := 5, ground := Go.Ground.data }, { on := 8, ground := Go.Ground.chain }, { on := 0, ground := Go.Ground.phase }, { on := 1, ground := Go.Ground.phase }, { on := 2, ground := Go.Ground.phase }, { on := 3, ground := Go.Ground.phase }, { on := 4, ground := Go.Ground.phase }, { on := 5, ground := Go.Ground.phase }, { on := 6, ground := Go.Ground.phase }, { on := 7, ground := Go.Ground.phase }, { on := 8, ground := Go.Ground.phase }], guard := none }) rfl (fun K hK => ?_) ?_
                  · -- 9: store
                    rw [if_pos (by rfl)]
                    refine wp_store_row 103 (.tmp 12) (.tmp 39) rfl _ (arr (flat (pair y0 y1))) rfl rfl 103 (arr (flat (pair zeros zeros))) y_566.out (size_pair HY0.out HY1.out) (by rw [arr_size, arr_size, pair_length rfl rfl, pair_length HY0.out HY1.out]) (arr_one _) ?_
                    have b0_570 := Lib.hid (Blk.rowFar (b0_563.out) (ne488.out) (arr (flat (pair y0 y1))))
                    have b1_571 := Lib.hid (Blk.rowFar (b1_564.out) (ne489.out) (arr (flat (pair y0 y1))))
                    have bel_572 := Lib.hid (below_setRow (bel_565.out) (lb490.out) (arr (flat (pair y0 y1))))
                    have y_573 := Lib.hid (Blk.row (y_566.out) (arr (flat (pair y0 y1))))
                    have x_574 := Lib.hid (Blk.rowFar (x_567.out) ((Ne.symm ne550.out)) (arr (flat (pair y0 y1))))
                    obtain ⟨w568, hw569⟩ : ∃ w', w' = (w561).setRow g479 (arr (flat (pair y0 y1))) := ⟨_, rfl⟩
                    rw [← hw569] at b0_570 b1_571 bel_572 y_573 x_574
                    rw [← hw569]
                    clear hw569
                    refine hK.out _ _ ⟨b0_570.out, b1_571.out⟩ (fun _ => ?_); clear hK K
                    try simp only [Act.put, List.setIfInBounds_toArray, List.set_cons_zero, List.set_cons_succ]
                    refine wpAnyH_done (by kernel_rfl) ?_ _
                    go_wp2
                    go_meet
                    exact ⟨_, _, rfl, rfl, x_574.out, y_573.out, b0_570.out, bel_572.out⟩
                  exact AllReadyH.nil
                exact AllReadyH.nil
              exact AllReadyH.nil
            exact AllReadyH.nil
          refine AllReadyH.cons (o := { dst := some 11, op := Go.Op.alloc 103, type := 0, pos := "solve.go:190", after := #[], guard := none }) rfl (fun K hK => ?_) ?_
          · -- 6: alloc
            rw [if_pos (by rfl)]
            refine wp_alloc_row 103 rfl (arr (flat (pair zeros zeros))) zero_pair.1 ?_
            have b0_579 := Lib.hid (Blk.alloc (b0_483.out) (.cells (arr (flat (pair zeros zeros))) 103))
            have b1_580 := Lib.hid (Blk.alloc (b1_484.out) (.cells (arr (flat (pair zeros zeros))) 103))
            have bel_581 := Lib.hid (Below.alloc (bel_485.out) ((bel_485.out).size) (.cells (arr (flat (pair zeros zeros))) 103))
            have rd_582 := Lib.hid (RdB.alloc (rd_486.out) (.cells (arr (flat (pair zeros zeros))) 103))
            have rr_583 := Lib.hid (RdB.alloc (rr_487.out) (.cells (arr (flat (pair zeros zeros))) 103))
            have y_584 := Lib.hid (Blk.alloc (y_491.out) (.cells (arr (flat (pair zeros zeros))) 103))
            have ne585 := Lib.hid (Nat.ne_of_lt (Blk.lt b0_483.out))
            have ne586 := Lib.hid (Nat.ne_of_lt (Blk.lt b1_484.out))
            have lb587 := Lib.hid (bel_485.out.size)
            have ne588 := Lib.hid (Nat.ne_of_lt (Blk.lt y_491.out))
            have x_589 := Lib.hid (Blk.new (w481) 103 (arr (flat (pair zeros zeros))))
            obtain ⟨g575, hg576⟩ : ∃ g, g = (w481).heap.size := ⟨_, rfl⟩
            obtain ⟨w577, hw578⟩ : ∃ w', w' = (w481).alloc (.cells (arr (flat (pair zeros zeros))) 103) := ⟨_, rfl⟩
            rw [← hw578] at b0_579 b1_580 bel_581 rd_582 rr_583 y_584 x_589
            rw [← hg576] at ne585 ne586 lb587 ne588 x_589
            rw [← hg576, ← hw578]
            clear hg576 hw578
            refine hK.out _ _ ⟨b0_579.out, b1_580.out⟩ (fun _ => ?_); clear hK K
            try simp only [Act.put, List.setIfInBounds_toArray, List.set_cons_zero, List.set_cons_succ]
            refine wpAnyH_ready (rs := [2]) (by kernel_rfl) (by simp) ?_
            refine AllReadyH.cons (o := { dst := some 36, op := Go.Op.call { callee := Go.Callee.value (Go.Operand.func 94), args := #[Go.Operand.tmp 34, Go.Operand.tmp 35], argTypes := #[70, 3] }, type := 103, pos := "solve.go:190", after := #[{ on := 0, ground := Go.Ground.data }, { on := 1, ground := Go.Ground.data }], guard := none }) rfl (fun K hK => ?_) ?_
            · -- 2: call
              go_simp
              go_at_call 94
              refine (HE1.out _ rd_582.out).mono ?_
              rintro e w590 ⟨rfl, hb591⟩
              dsimp only
              have b0_592 := Lib.hid (Blk.keep (b0_579.out) hb591)
              have b1_593 := Lib.hid (Blk.keep (b1_580.out) hb591)
              have bel_594 := Lib.hid (Below.trans (bel_581.out) (Below.mono hb591 ((bel_581.out).size)))
              have rd_595 := Lib.hid (RdB.below (rd_582.out) hb591)
              have rr_596 := Lib.hid (RdB.below (rr_583.out) hb591)
              have y_597 := Lib.hid (Blk.keep (y_584.out) hb591)
              have x_598 := Lib.hid (Blk.keep (x_589.out) hb591)
              refine hK.out _ _ ⟨b0_592.out, b1_593.out⟩ (fun _ => ?_); clear hK K
              try simp only [Act.put, List.setIfInBounds_toArray, List.set_cons_zero, List.set_cons_succ]
              refine wpAnyH_ready (rs := [5]) (by kernel_rfl) (by simp) ?_
              refine AllReadyH.cons (o := { dst := some 39, op := Go.Op.call { callee := Go.Callee.value (Go.Operand.func 94), args := #[Go.Operand.tmp 37, Go.Operand.tmp 38], argTypes := #[70, 3] }, type := 103, pos := "solve.go:190", after := #[{ on := 3, ground := Go.Ground.data }, { on := 4, ground := Go.Ground.data }, { on := 2, ground := Go.Ground.chain }], guard := none }) rfl (fun K hK => ?_) ?_
              · -- 5: call
                go_simp
                go_at_call 94
                refine (HE2.out _ rr_596.out).mono ?_
                rintro e w599 ⟨rfl, hb600⟩
                dsimp only
                have b0_601 := Lib.hid (Blk.keep (b0_592.out) hb600)
                have b1_602 := Lib.hid (Blk.keep (b1_593.out) hb600)
                have bel_603 := Lib.hid (Below.trans (bel_594.out) (Below.mono hb600 ((bel_594.out).size)))
                have rd_604 := Lib.hid (RdB.below (rd_595.out) hb600)
                have rr_605 := Lib.hid (RdB.below (rr_596.out) hb600)
                have y_606 := Lib.hid (Blk.keep (y_597.out) hb600)
                have x_607 := Lib.hid (Blk.keep (x_598.out) hb600)
                refine hK.out _ _ ⟨b0_601.out, b1_602.out⟩ (fun _ => ?_); clear hK K
                try simp only [Act.put, List.setIfInBounds_toArray, List.set_cons_zero, List.set_cons_succ]
                refine wpAnyH_ready (rs := [8]) (by kernel_rfl) (by simp) ?_
                refine AllReadyH.cons (o := { dst := none, op := Go.Op.store 103 (Go.Operand.tmp 11) (Go.Operand.tmp 36), type := 0, pos := "solve.go:190", after := #[{ on := 6, ground := Go.Ground.data }, { on := 2, ground := Go.Ground.data }, { on := 5, ground := Go.Ground.chain }, { on := 0, ground := Go.Ground.phase }, { on := 1, ground := Go.Ground.phase }, { on := 2, ground := Go.Ground.phase }, { on := 3, ground := Go.Ground.textOnly Go.Departure.lateStores }, { on := 4, ground := Go.Ground.textOnly Go.Departure.lateStores }, { on := 5, ground := Go.Ground.textOnly Go.Departure.lateStoresUnsure }, { on := 6, ground := Go.Ground.phase }, { on := 7, ground := Go.Ground.phase }], guard := none }) rfl (fun K hK => ?_) ?_
                · -- 8: store
                  rw [if_pos (by rfl)]
                  refine wp_store_row 103 (.tmp 11) (.tmp 36) rfl _ (arr (flat (pair x0 x1))) rfl rfl 103 (arr (flat (pair zeros zeros))) x_607.out (size_pair HX0.out HX1.out) (by rw [arr_size, arr_size, pair_length rfl rfl, pair_length HX0.out HX1.out]) (arr_one _) ?_
                  have b0_610 := Lib.hid (Blk.rowFar (b0_601.out) (ne585.out) (arr (flat (pair x0 x1))))
                  have b1_611 := Lib.hid (Blk.rowFar (b1_602.out) (ne586.out) (arr (flat (pair x0 x1))))
                  have bel_612 := Lib.hid (below_setRow (bel_603.out) (lb587.out) (arr (flat (pair x0 x1))))
                  have y_613 := Lib.hid (Blk.rowFar (y_606.out) (ne588.out) (arr (flat (pair x0 x1))))
                  have x_614 := Lib.hid (Blk.row (x_607.out) (arr (flat (pair x0 x1))))
                  obtain ⟨w608, hw609⟩ : ∃ w', w' = (w599).setRow g575 (arr (flat (pair x0 x1))) := ⟨_, rfl⟩
                  rw [← hw609] at b0_610 b1_611 bel_612 y_613 x_614
                  rw [← hw609]
                  clear hw609
                  refine hK.out _ _ ⟨b0_610.out, b1_611.out⟩ (fun _ => ?_); clear hK K
                  try simp only [Act.put, List.setIfInBounds_toArray, List.set_cons_zero, List.set_cons_succ]
                  refine wpAnyH_ready (rs := [9]) (by kernel_rfl) (by simp) ?_
                  refine AllReadyH.cons (o := { dst := none, op := Go.Op.store 103 (Go.Operand.tmp 12) (Go.Operand.tmp 39), type := 0, pos := "solve.go:190", after := #[{ on := 7, ground := Go.Ground.data }, { on := 5, ground := Go.Ground.data }, { on := 8, ground := Go.Ground.chain }, { on := 0, ground := Go.Ground.phase }, { on := 1, ground := Go.Ground.phase }, { on := 2, ground := Go.Ground.phase }, { on := 3, ground := Go.Ground.phase }, { on := 4, ground := Go.Ground.phase }, { on := 5, ground := Go.Ground.phase }, { on := 6, ground := Go.Ground.phase }, { on := 7, ground := Go.Ground.phase }, { on := 8, ground := Go.Ground.phase }], guard := none }) rfl (fun K hK => ?_) ?_
                  · -- 9: store
                    rw [if_pos (by rfl)]
                    refine wp_store_row 103 (.tmp 12) (.tmp 39) rfl _ (arr (flat (pair y0 y1))) rfl rfl 103 (arr (flat (pair zeros zeros))) y_613.out (size_pair HY0.out HY1.out) (by rw [arr_size, arr_size, pair_length rfl rfl, pair_length HY0.out HY1.out]) (arr_one _) ?_
                    have b0_617 := Lib.hid (Blk.rowFar (b0_610.out) (ne488.out) (arr (flat (pair y0 y1))))
                    have b1_618 := Lib.hid (Blk.rowFar (b1_611.out) (ne489.out) (arr (flat (pair y0 y1))))
                    have bel_619 := Lib.hid (below_setRow (bel_612.out) (lb490.out) (arr (flat (pair y0 y1))))
                    have y_620 := Lib.hid (Blk.row (y_613.out) (arr (flat (pair y0 y1))))
                    have x_621 := Lib.hid (Blk.rowFar (x_614.out) ((Ne.symm ne588.out)) (arr (flat (pair y0 y1))))
                    obtain ⟨w615, hw616⟩ : ∃ w', w' = (w608).setRow g479 (arr (flat (pair y0 y1))) := ⟨_, rfl⟩
                    rw [← hw616] at b0_617 b1_618 bel_619 y_620 x_621
                    rw [← hw616]
                    clear hw616
                    refine hK.out _ _ ⟨b0_617.out, b1_618.out⟩ (fun _ => ?_); clear hK K
                    try simp only [Act.put, List.setIfInBounds_toArray, List.set_cons_zero, List.set_cons_succ]
                    refine wpAnyH_done (by kernel_rfl) ?_ _
                    go_wp2
                    go_meet
                    exact ⟨_, _, rfl, rfl, x_621.out, y_620.out, b0_617.out, bel_619.out⟩
                  exact AllReadyH.nil
                exact AllReadyH.nil
              exact AllReadyH.nil
            exact AllReadyH.nil
          exact AllReadyH.nil
        exact AllReadyH.nil
      case rest =>
        obtain ⟨g1, g2, rfl, rfl, hx, hy, hsy, hbe⟩ := hcut
        have hlx := hx.lt; have hly := hy.lt; have hls := hsy.lt
        have hbs := hbe.size
        have X := Lib.hid hx; have Y := Lib.hid hy; have S := Lib.hid hsy; have BE := Lib.hid hbe; clear hx hy hsy hbe
        have hp60 : (p : Int) ≤ 60 := by omega
        have hcx : ∀ k, k < 60 → wc.cell? ⟨g1, k, none⟩ = some (.int .i64 (at_ (flat (pair x0 x1)) k)) ∧ wc.cell? ⟨g1, 60 + k, none⟩ = some (.int .i64 (at_ (flat (pair x0 x1)) (60 + k))) := fun k hk => ⟨(X.out.cell _).trans (arr_get _ _ (by rw [pair_length HX0.out HX1.out]; omega)), (X.out.cell _).trans (arr_get _ _ (by rw [pair_length HX0.out HX1.out]; omega))⟩
        by_cases hsame : x0 = y0 ∧ x1 = y1
        · have hV : V = [] := by rw [← HV.out, hsame.1, hsame.2]; exact chgL_same _ _
          have heqv := fun w => eql_pair_yes HX0.out HX1.out HY0.out HY1.out hsame w
          have HVE := Lib.hid hV
          clear hsame hV hcx
          go_wp2_with (first | (refine wpList_load_row rfl 103 (.tmp 11) rfl _ rfl _ (arr (flat (pair x0 x1))) (0, 0) _ X.out Try.underlying103 rfl (size_pair HX0.out HX1.out) ?_) | (refine wpList_load_row rfl 103 (.tmp 12) rfl _ rfl _ (arr (flat (pair y0 y1))) (0, 0) _ Y.out Try.underlying103 rfl (size_pair HY0.out HY1.out) ?_))
          go_ret2
          exact ⟨none, 0, 0, rfl, by rw [HVE.out]; exact OwnI.nil_ _ _, BE.out⟩
        · have heqv := fun w => eql_pair_no HX0.out HX1.out HY0.out HY1.out hsame w
          clear hsame hcx
          have k0 : wc.cell? ⟨w.heap.size, 0, none⟩ = some (.int .i64 (p : Int)) := S.out.cell 0
          go_wp2_with (first | (refine wpList_load_row rfl 103 (.tmp 11) rfl _ rfl _ (arr (flat (pair x0 x1))) (0, 0) _ X.out Try.underlying103 rfl (size_pair HX0.out HX1.out) ?_) | (refine wpList_load_row rfl 103 (.tmp 12) rfl _ rfl _ (arr (flat (pair y0 y1))) (0, 0) _ Y.out Try.underlying103 rfl (size_pair HY0.out HY1.out) ?_))
          clear heqv
          go_loopw [46, 13] (fun i v wr => ∃ k : Nat, k ≤ p ∧ i = .int .i64 k ∧ wr.ownsRow wc.heap.size 3 1 v (chgL (pair x0 x1) (pair y0 y1) k).length ((chgL (pair x0 x1) (pair y0 y1) k).map (Value.int .i64)) ∧ Blk wr g1 103 (arr (flat (pair x0 x1))) ∧ Blk wr g2 103 (arr (flat (pair y0 y1))) ∧ Below w.heap.size w wr ∧ wc.heap.size ≤ wr.heap.size) (fun i _ _ => p - (intOf i).toNat)
          case atStart => exact ⟨0, Nat.zero_le _, rfl, World.ownsRow_nil _ _ _ _, X.out, Y.out, BE.out, Nat.le_refl _⟩
          case round =>
            obtain ⟨k, hk, rfl, hown, hx, hy, hbe, hsz⟩ := hrel
            by_cases hlt : k < p
            · have hlt' : (k : Int) < p := by omega
              have hk60 : k < 60 := by omega
              have hk60' : (k : Int) < 60 := by omega
              have u0 : wr.cell? ⟨g1, k, none⟩ = some (.int .i64 (at_ (flat (pair x0 x1)) k)) := (hx.cell _).trans (arr_get _ _ (by rw [pair_length HX0.out HX1.out]; omega))
              have u1 : wr.cell? ⟨g1, 60 + k, none⟩ = some (.int .i64 (at_ (flat (pair x0 x1)) (60 + k))) := (hx.cell _).trans (arr_get _ _ (by rw [pair_length HX0.out HX1.out]; omega))
              have u2 : wr.cell? ⟨g2, k, none⟩ = some (.int .i64 (at_ (flat (pair y0 y1)) k)) := (hy.cell _).trans (arr_get _ _ (by rw [pair_length HY0.out HY1.out]; omega))
              have u3 : wr.cell? ⟨g2, 60 + k, none⟩ = some (.int .i64 (at_ (flat (pair y0 y1)) (60 + k))) := (hy.cell _).trans (arr_get _ _ (by rw [pair_length HY0.out HY1.out]; omega))
              have hz1 := hx.lt; have hz2 := hy.lt
              have hchg : chgP (pair x0 x1) (pair y0 y1) k = decide (at_ (flat (pair x0 x1)) k ≠ at_ (flat (pair y0 y1)) k ∨ at_ (flat (pair x0 x1)) (60 + k) ≠ at_ (flat (pair y0 y1)) (60 + k)) := rfl
              have hsucc := chgL_succ (pair x0 x1) (pair y0 y1) k
              have hlen2 := chgL_length (pair x0 x1) (pair y0 y1) k
              have X2 := Lib.hid hx; have Y2 := Lib.hid hy; have BE2 := Lib.hid hbe; have OW := Lib.hid hown; have SU := Lib.hid hsucc; clear hx hy hbe hown hsucc
              generalize at_ (flat (pair x0 x1)) k = e0 at *
              generalize at_ (flat (pair x0 x1)) (60 + k) = e1 at *
              generalize at_ (flat (pair y0 y1)) k = d0 at *
              generalize at_ (flat (pair y0 y1)) (60 + k) = d1 at *
              have CH := Lib.hid hchg; clear hchg
              by_cases hd0 : e0 = d0
              · have hb0 : (e0 != d0) = false := by simp [hd0]
                by_cases hd1 : e1 = d1
                · have hb1 : (e1 != d1) = false := by simp [hd1]
                  rw [CH.out, if_neg (by simp [hd0, hd1])] at SU
                  clear hd0 hd1
                  go_wp2
                  go_quiet (fail)
                  go_wp2
                  go_roundw
                  case rel => exact ⟨k + 1, by omega, by go_num, (by rw [SU.out]; exact OW.out), X2.out, Y2.out, bdN BE2.out _, hsz⟩
                  case measure => simp [intOf]; omega
                · have hb1 : (e1 != d1) = true := by simpa using hd1
                  rw [CH.out, if_pos (by simp [hd1])] at SU
                  go_wp2
                  go_quiet (fail)
                  have OW2 := Lib.hid ((show (wr.drewN nq).ownsRow wc.heap.size 3 1 _ _ _ from OW.out).alloc (.cells #[.int .i64 (k : Int)] 3))
                  have N2 := Lib.hid (Blk.new (wr.drewN nq) 3 #[.int .i64 (k : Int)])
                  have X3 := Lib.hid ((show Blk (wr.drewN nq) _ _ _ from X2.out).alloc (.cells #[.int .i64 (k : Int)] 3))
                  have Y3 := Lib.hid ((show Blk (wr.drewN nq) _ _ _ from Y2.out).alloc (.cells #[.int .i64 (k : Int)] 3))
                  have BE3 := Lib.hid ((bdN BE2.out nq).alloc (bdN BE2.out nq).size (.cells #[.int .i64 (k : Int)] 3))
                  have hsz2 : wc.heap.size ≤ (wr.drewN nq).heap.size := hsz
                  go_wp2_with (at_builtin; refine wpList_append_own _ rfl (.tmp 69) (.tmp 71) 33 rfl wc.heap.size 3 i0 _ 1 8 Try.underlying33 HI.out HZ0.out HZ1.out HZ2.out rfl (by omega) u13 _ _ rfl OW2.out ⟨(wr.drewN nq).heap.size, 0, none⟩ 1 1 [.int .i64 (k : Int)] rfl rfl (fun j u hu => by rw [Addr.add_lit, Nat.zero_add, N2.out.cell]; simpa using hu) (by simp [Value.oneCell']) (by unfold maxLen; omega) (by omega) (by rw [World.size_alloc]; omega) ?_; intro v' w4 hown4 hg4 _; have HO4 := Lib.hid hown4; have HG4 := Lib.hid hg4; clear hown4 hg4)
                  have hrow : ∀ q, u13.ownBlock = some q → wc.heap.size ≤ q := fun q hq => (OW2.out.lt q hq).1
                  go_roundw
                  case rel => exact ⟨k + 1, by omega, by go_num, (by rw [SU.out, List.length_append, List.map_append]; exact HO4.out), blk_grown X3.out HG4.out (fun e => by have := hrow _ e; omega), blk_grown Y3.out HG4.out (fun e => by have := hrow _ e; omega), BE3.out.grown HG4.out BE3.out.size (fun q e => by have := hrow _ e; omega), by have := HG4.out.size; rw [World.size_alloc] at this; omega⟩
                  case measure => (simp [intOf]; omega)
              · have hb0 : (e0 != d0) = true := by simpa using hd0
                rw [CH.out, if_pos (by simp [hd0])] at SU
                go_wp2
                go_quiet (fail)
                have OW2 := Lib.hid ((show (wr.drewN nq).ownsRow wc.heap.size 3 1 _ _ _ from OW.out).alloc (.cells #[.int .i64 (k : Int)] 3))
                have N2 := Lib.hid (Blk.new (wr.drewN nq) 3 #[.int .i64 (k : Int)])
                have X3 := Lib.hid ((show Blk (wr.drewN nq) _ _ _ from X2.out).alloc (.cells #[.int .i64 (k : Int)] 3))
                have Y3 := Lib.hid ((show Blk (wr.drewN nq) _ _ _ from Y2.out).alloc (.cells #[.int .i64 (k : Int)] 3))
                have BE3 := Lib.hid ((bdN BE2.out nq).alloc (bdN BE2.out nq).size (.cells #[.int .i64 (k : Int)] 3))
                have hsz2 : wc.heap.size ≤ (wr.drewN nq).heap.size := hsz
                go_wp2_with (at_builtin; refine wpList_append_own _ rfl (.tmp 69) (.tmp 71) 33 rfl wc.heap.size 3 i0 _ 1 8 Try.underlying33 HI.out HZ0.out HZ1.out HZ2.out rfl (by omega) u13 _ _ rfl OW2.out ⟨(wr.drewN nq).heap.size, 0, none⟩ 1 1 [.int .i64 (k : Int)] rfl rfl (fun j u hu => by rw [Addr.add_lit, Nat.zero_add, N2.out.cell]; simpa using hu) (by simp [Value.oneCell']) (by unfold maxLen; omega) (by omega) (by rw [World.size_alloc]; omega) ?_; intro v' w4 hown4 hg4 _; have HO4 := Lib.hid hown4; have HG4 := Lib.hid hg4; clear hown4 hg4)
                have hrow : ∀ q, u13.ownBlock = some q → wc.heap.size ≤ q := fun q hq => (OW2.out.lt q hq).1
                go_roundw
                case rel => exact ⟨k + 1, by omega, by go_num, (by rw [SU.out, List.length_append, List.map_append]; exact HO4.out), blk_grown X3.out HG4.out (fun e => by have := hrow _ e; omega), blk_grown Y3.out HG4.out (fun e => by have := hrow _ e; omega), BE3.out.grown HG4.out BE3.out.size (fun q e => by have := hrow _ e; omega), by have := HG4.out.size; rw [World.size_alloc] at this; omega⟩
                case measure => (simp [intOf]; omega)
            · obtain rfl : k = p := by omega
              rw [HV.out] at hown
              obtain ⟨A5, c5, hv5, -⟩ := own_form hown
              have OW := Lib.hid hown; clear hown
              subst hv5
              go_wp2
              go_ret2
              exact ⟨_, _, _, rfl, owns_base OW.out hbs, hbe⟩
    · rw [if_neg hs]
      have HSC := Lib.hid hs
      have hne : (scode p (l ++ [x]) [a] != 0) = true := by simpa using hs
      obtain ⟨q, hq⟩ : ∃ q, scode p (l ++ [x]) [a] = q := ⟨_, rfl⟩
      rw [hq] at HSC hne ⊢
      have HQ := Lib.hid hq; clear hs hq

      go_enter Try.func50, Try.ntmps50
      go_wp2_with fail
      refine HC.out.mono ?_
      rintro e w1 ⟨A2, n2, c2, rfl, ho, hb1⟩
      have hor := OwnB.rd (ho trivial)
      obtain rfl : n2 = n + 1 := by have := hor.1.len; omega
      have RO := Lib.hid hor.1; clear ho hor
      have hB1 := hB.trans (hb1.mono hB.size)
      have C0 := Lib.hid (B0.out.keep hb1)
      have r1 := rdI_one (w1.alloc (.cells #[.int .i64 p, .slice A2 (n + 1) c2] 24)) a
      simp only [World.size_alloc] at r1
      have hB2 := (hB1.alloc hB1.size (.cells #[.int .i64 p, .slice A2 (n + 1) c2] 24))
      have hB3 := hB2.alloc hB2.size (.cells #[.int .i64 a] 3)
      have hb2' : Below w1.heap.size w1 ((w1.alloc (.cells #[.int .i64 p, .slice A2 (n + 1) c2] 24)).alloc (.cells #[.int .i64 a] 3)) := ((Below.refl _ w1).alloc (Nat.le_refl _) _).alloc (by simp) _
      have hsv := solvable_any p A2 _ (n + 1) c2 1 1 (l ++ [x]) [a] _ (RO.out.below hb2') (by unfold maxLen; omega) r1 (by omega)
      have C0' := Lib.hid ((C0.out.alloc (.cells #[.int .i64 p, .slice A2 (n + 1) c2] 24)).alloc (.cells #[.int .i64 a] 3))
      have RO' := Lib.hid (RO.out.below hb2')
      have HSV := Lib.hid hsv; have HB3 := Lib.hid hB3; clear hsv r1 hb2' hB2 hB3
      have k0 : (w1.alloc (.cells #[.int .i64 p, .slice A2 (n + 1) c2] 24)).cell? ⟨w1.heap.size, 0, none⟩ = some (.int .i64 p) := (Blk.new w1 24 #[.int .i64 p, .slice A2 (n + 1) c2]).cell 0
      have k1 : (w1.alloc (.cells #[.int .i64 p, .slice A2 (n + 1) c2] 24)).cell? ⟨w1.heap.size, 1, none⟩ = some (.slice A2 (n + 1) c2) := (Blk.new w1 24 #[.int .i64 p, .slice A2 (n + 1) c2]).cell 1

      rw [HQ.out] at HSV
      rw [sysR_no HSC.out] at HSV
      go_wp2_with fail
      refine HSV.out.mono ?_
      rintro e w2 ⟨rfl, hb2⟩
      have hB4 := HB3.out.trans (hb2.mono HB3.out.size)
      go_wp2
      go_ret2
      exact ⟨none, 0, 0, rfl, OwnI.nil_ _ _, (by have hsz_ := Below.size hB4; repeat' (first | with_reducible exact hB4 | with_reducible exact Below.refl _ _ | with_reducible refine Below.alloc ?_ ?_ _ | with_reducible refine Below.setCell ?_ ?_ _ | with_reducible refine Below.drew ?_ | with_reducible refine below_setRow ?_ ?_ _ | omega | (simp; done) | (simp; omega)))⟩
  · rw [if_neg hw]
    generalize withC p l x = q at *
    simp only [sysR_no hw] at HC
    have hne : (q != 0) = true := by simpa using hw
    clear hw
    go_enter Try.func50, Try.ntmps50
    go_wp2_with fail
    refine HC.out.mono ?_
    rintro e w1 ⟨A2, n2, c2, rfl, -, hb1⟩
    have hB1 := hB.trans (hb1.mono hB.size)
    go_wp2
    go_ret2
    exact ⟨none, 0, 0, rfl, OwnI.nil_ _ _, (by have hsz_ := Below.size hB1; repeat' (first | with_reducible exact hB1 | with_reducible exact Below.refl _ _ | with_reducible refine Below.alloc ?_ ?_ _ | with_reducible refine Below.setCell ?_ ?_ _ | with_reducible refine Below.drew ?_ | with_reducible refine below_setRow ?_ ?_ _ | omega | (simp; done) | (simp; omega)))⟩
end Go.Proofs.Ythlnialipjihdaa
