/- The reference's Beside. -/
import Derived.Test.YthlnialipjihdaaBeside
import Derived.Test.YthlnialipjihdaaRWalk
import Derived.Test.YthlnialipjihdaaRTied
set_option linter.unusedSimpArgs false
set_option linter.unusedVariables false
namespace Go.Proofs.Ythlnialipjihdaa
open Go.RowKit

set_option maxRecDepth 100000 in
set_option maxHeartbeats 8000000 in
theorem rb_err1 (p q : Int) (A B : Option Addr) (n c m d : Nat) (l k : List Bnd) (w : World) (hr : RdB w A n c l) (hn : n ≤ maxLen) (hr2 : RdB w B m d k) (hm : m ≤ maxLen) (e0 : Int) (hq : (e0 != 0) = true) (HQ : Hid (e0 ≠ 0)) (E1 : Hid (chk p l = e0)) :
    Calls Try.prog 21 #[.agg #[.int .i64 p, .slice A n c], .agg #[.int .i64 q, .slice B m d]] w (RetS e0 (p + q) (l ++ k.map (shB p)) w) := by
  have hB : Below w.heap.size w (((w.alloc (.cells #[.int .i64 p, .slice A n c] 24)).alloc (.cells #[.int .i64 q, .slice B m d] 24)).alloc (.cells #[.int .i64 0, .slice none 0 0] 24)) := (((Below.refl _ w).alloc (Nat.le_refl _) _).alloc (by simp) _).alloc (by simp; omega) _
  have b0 := ((Blk.new w 24 #[.int .i64 p, .slice A n c]).alloc (.cells #[.int .i64 q, .slice B m d] 24)).alloc (.cells #[.int .i64 0, .slice none 0 0] 24)
  have b1 := (Blk.new (w.alloc (.cells #[.int .i64 p, .slice A n c] 24)) 24 #[.int .i64 q, .slice B m d]).alloc (.cells #[.int .i64 0, .slice none 0 0] 24)
  have b2 := Blk.new ((w.alloc (.cells #[.int .i64 p, .slice A n c] 24)).alloc (.cells #[.int .i64 q, .slice B m d] 24)) 24 #[.int .i64 0, .slice none 0 0]
  simp only [World.size_alloc] at b1 b2
  have B0 := Lib.hid b0; have B1 := Lib.hid b1; have B2 := Lib.hid b2; have HB := Lib.hid hB; have HR := Lib.hid hr; have HR2 := Lib.hid hr2; clear b0 b1 b2 hB hr hr2
  have hc := rCheckSystem_any p A n c l _ (HR.out.below HB.out) hn
  rw [E1.out] at hc
  have HC := Lib.hid hc; clear hc
  go_enter Try.func21, Try.ntmps21
  go_wp2_with fail
  refine HC.out.mono ?_
  rintro e w1 ⟨rfl, hb⟩
  clear HC
  have C0 := Lib.hid (Blk.keep B0.out hb); have C1 := Lib.hid (Blk.keep B1.out hb); have C2 := Lib.hid (Blk.keep B2.out hb); have CB := Lib.hid (HB.out.trans (Below.mono hb HB.out.size)); clear B0 B1 B2 HB
  have B0 := C0; have B1 := C1; have B2 := C2; have HB := CB
  clear hb
  have v0 : w1.cell? ⟨w.heap.size + 1 + 1, 0, none⟩ = some (.int .i64 0) := Blk.cell C2.out 0
  have v1 : w1.cell? ⟨w.heap.size + 1 + 1, 1, none⟩ = some (.slice none 0 0) := Blk.cell C2.out 1
  have f0 : w1.frozen? ⟨w.heap.size + 1 + 1, 0, none⟩ = false := Blk.frozen C2.out 0
  have f1 : w1.frozen? ⟨w.heap.size + 1 + 1, 1, none⟩ = false := Blk.frozen C2.out 1
  go_wp2
  refine bodyPost_ret (v := .tuple #[.agg #[.int .i64 0, .slice none 0 0], .int .i64 e0]) (by simp [results, Try.results21, go_sem, v0, v1]) rfl ?_
  exact ⟨none, 0, 0, by rw [sysR_no HQ.out], fun h => absurd h HQ.out, (CB.out.setCell (p := ⟨w.heap.size + 1 + 1, 0, none⟩) (by simp; omega) _).setCell (p := ⟨w.heap.size + 1 + 1, 1, none⟩) (by simp; omega) _⟩

set_option maxRecDepth 100000 in
set_option maxHeartbeats 8000000 in
theorem rb_err2 (p q : Int) (A B : Option Addr) (n c m d : Nat) (l k : List Bnd) (w : World) (hr : RdB w A n c l) (hn : n ≤ maxLen) (hr2 : RdB w B m d k) (hm : m ≤ maxLen) (e0 : Int) (hq : (e0 != 0) = true) (HQ : Hid (e0 ≠ 0)) (E1 : Hid (chk p l = 0)) (E2 : Hid (chk q k = e0)) :
    Calls Try.prog 21 #[.agg #[.int .i64 p, .slice A n c], .agg #[.int .i64 q, .slice B m d]] w (RetS e0 (p + q) (l ++ k.map (shB p)) w) := by
  have hB : Below w.heap.size w (((w.alloc (.cells #[.int .i64 p, .slice A n c] 24)).alloc (.cells #[.int .i64 q, .slice B m d] 24)).alloc (.cells #[.int .i64 0, .slice none 0 0] 24)) := (((Below.refl _ w).alloc (Nat.le_refl _) _).alloc (by simp) _).alloc (by simp; omega) _
  have b0 := ((Blk.new w 24 #[.int .i64 p, .slice A n c]).alloc (.cells #[.int .i64 q, .slice B m d] 24)).alloc (.cells #[.int .i64 0, .slice none 0 0] 24)
  have b1 := (Blk.new (w.alloc (.cells #[.int .i64 p, .slice A n c] 24)) 24 #[.int .i64 q, .slice B m d]).alloc (.cells #[.int .i64 0, .slice none 0 0] 24)
  have b2 := Blk.new ((w.alloc (.cells #[.int .i64 p, .slice A n c] 24)).alloc (.cells #[.int .i64 q, .slice B m d] 24)) 24 #[.int .i64 0, .slice none 0 0]
  simp only [World.size_alloc] at b1 b2
  have B0 := Lib.hid b0; have B1 := Lib.hid b1; have B2 := Lib.hid b2; have HB := Lib.hid hB; have HR := Lib.hid hr; have HR2 := Lib.hid hr2; clear b0 b1 b2 hB hr hr2
  have hc := rCheckSystem_any p A n c l _ (HR.out.below HB.out) hn
  rw [E1.out] at hc
  have HC := Lib.hid hc; clear hc
  go_enter Try.func21, Try.ntmps21
  go_wp2_with fail
  refine HC.out.mono ?_
  rintro e w1 ⟨rfl, hb⟩
  clear HC
  have C0 := Lib.hid (Blk.keep B0.out hb); have C1 := Lib.hid (Blk.keep B1.out hb); have C2 := Lib.hid (Blk.keep B2.out hb); have CB := Lib.hid (HB.out.trans (Below.mono hb HB.out.size)); clear B0 B1 B2 HB
  have B0 := C0; have B1 := C1; have B2 := C2; have HB := CB
  clear hb
  have y0 : w1.cell? ⟨w.heap.size, 0, none⟩ = some (.int .i64 p) := Blk.cell C0.out 0
  have y1 : w1.cell? ⟨w.heap.size, 1, none⟩ = some (.slice A n c) := Blk.cell C0.out 1
  have z0 : w1.cell? ⟨w.heap.size + 1, 0, none⟩ = some (.int .i64 q) := Blk.cell C1.out 0
  have z1 : w1.cell? ⟨w.heap.size + 1, 1, none⟩ = some (.slice B m d) := Blk.cell C1.out 1
  have hc := rCheckSystem_any q B m d k w1 (HR2.out.below CB.out) hm
  rw [E2.out] at hc
  have HC := Lib.hid hc; clear hc C0 C1 C2 CB
  go_wp2_with fail
  refine HC.out.mono ?_
  rintro e w2 ⟨rfl, hb⟩
  clear HC y0 y1 z0 z1
  have C0 := Lib.hid (Blk.keep B0.out hb); have C1 := Lib.hid (Blk.keep B1.out hb); have C2 := Lib.hid (Blk.keep B2.out hb); have CB := Lib.hid (HB.out.trans (Below.mono hb HB.out.size)); clear B0 B1 B2 HB
  have B0 := C0; have B1 := C1; have B2 := C2; have HB := CB
  clear hb
  have v0 : w2.cell? ⟨w.heap.size + 1 + 1, 0, none⟩ = some (.int .i64 0) := Blk.cell C2.out 0
  have v1 : w2.cell? ⟨w.heap.size + 1 + 1, 1, none⟩ = some (.slice none 0 0) := Blk.cell C2.out 1
  have f0 : w2.frozen? ⟨w.heap.size + 1 + 1, 0, none⟩ = false := Blk.frozen C2.out 0
  have f1 : w2.frozen? ⟨w.heap.size + 1 + 1, 1, none⟩ = false := Blk.frozen C2.out 1
  go_wp2
  refine bodyPost_ret (v := .tuple #[.agg #[.int .i64 0, .slice none 0 0], .int .i64 e0]) (by simp [results, Try.results21, go_sem, v0, v1]) rfl ?_
  exact ⟨none, 0, 0, by rw [sysR_no HQ.out], fun h => absurd h HQ.out, (CB.out.setCell (p := ⟨w.heap.size + 1 + 1, 0, none⟩) (by simp; omega) _).setCell (p := ⟨w.heap.size + 1 + 1, 1, none⟩) (by simp; omega) _⟩

set_option maxRecDepth 100000 in
set_option maxHeartbeats 8000000 in
theorem rb_ok (p q : Int) (A B : Option Addr) (n c m d : Nat) (l k : List Bnd) (w : World) (hr : RdB w A n c l) (hn : n ≤ maxLen) (hr2 : RdB w B m d k) (hm : m ≤ maxLen) (hn4 : n ≤ 400) (hm4 : m ≤ 400) (hp0 : 1 ≤ p) (hp1 : p ≤ 60) (hq0 : 1 ≤ q) (hq1 : q ≤ 60) (HOK : Hid (OkB k)) (E1 : Hid (chk p l = 0)) (E2 : Hid (chk q k = 0)) :
    Calls Try.prog 21 #[.agg #[.int .i64 p, .slice A n c], .agg #[.int .i64 q, .slice B m d]] w (RetS (chk (p + q) (l ++ k.map (shB p))) (p + q) (l ++ k.map (shB p)) w) := by
  have hln := hr.len
  have hlm := hr2.len
  obtain ⟨i0, hi0, hz0, hz1, hz2⟩ := info_parts infoB
  have HI := Lib.hid hi0; have HZ0 := Lib.hid hz0; have HZ1 := Lib.hid hz1; have HZ2 := Lib.hid hz2; clear hi0 hz0 hz1 hz2
  have HWR := Lib.hid (wrap_small (x := p + q) (by omega) (by omega))
  have hB : Below w.heap.size w (((w.alloc (.cells #[.int .i64 p, .slice A n c] 24)).alloc (.cells #[.int .i64 q, .slice B m d] 24)).alloc (.cells #[.int .i64 0, .slice none 0 0] 24)) := (((Below.refl _ w).alloc (Nat.le_refl _) _).alloc (by simp) _).alloc (by simp; omega) _
  have b0 := ((Blk.new w 24 #[.int .i64 p, .slice A n c]).alloc (.cells #[.int .i64 q, .slice B m d] 24)).alloc (.cells #[.int .i64 0, .slice none 0 0] 24)
  have b1 := (Blk.new (w.alloc (.cells #[.int .i64 p, .slice A n c] 24)) 24 #[.int .i64 q, .slice B m d]).alloc (.cells #[.int .i64 0, .slice none 0 0] 24)
  have b2 := Blk.new ((w.alloc (.cells #[.int .i64 p, .slice A n c] 24)).alloc (.cells #[.int .i64 q, .slice B m d] 24)) 24 #[.int .i64 0, .slice none 0 0]
  simp only [World.size_alloc] at b1 b2
  have B0 := Lib.hid b0; have B1 := Lib.hid b1; have B2 := Lib.hid b2; have HB := Lib.hid hB; have HR := Lib.hid hr; have HR2 := Lib.hid hr2; clear b0 b1 b2 hB hr hr2
  have hc := rCheckSystem_any p A n c l _ (HR.out.below HB.out) hn
  rw [E1.out] at hc
  have HC := Lib.hid hc; clear hc

  go_enter Try.func21, Try.ntmps21
  go_wp2_with fail
  refine HC.out.mono ?_
  rintro e w1 ⟨rfl, hb⟩
  clear HC
  have C0 := Lib.hid (Blk.keep B0.out hb); have C1 := Lib.hid (Blk.keep B1.out hb); have C2 := Lib.hid (Blk.keep B2.out hb); have CB := Lib.hid (HB.out.trans (Below.mono hb HB.out.size)); clear B0 B1 B2 HB
  have B0 := C0; have B1 := C1; have B2 := C2; have HB := CB
  clear hb
  have y0 : w1.cell? ⟨w.heap.size, 0, none⟩ = some (.int .i64 p) := Blk.cell C0.out 0
  have y1 : w1.cell? ⟨w.heap.size, 1, none⟩ = some (.slice A n c) := Blk.cell C0.out 1
  have z0 : w1.cell? ⟨w.heap.size + 1, 0, none⟩ = some (.int .i64 q) := Blk.cell C1.out 0
  have z1 : w1.cell? ⟨w.heap.size + 1, 1, none⟩ = some (.slice B m d) := Blk.cell C1.out 1
  have hc := rCheckSystem_any q B m d k w1 (HR2.out.below CB.out) hm
  rw [E2.out] at hc
  have HC := Lib.hid hc; clear hc C0 C1 C2 CB
  go_wp2_with fail
  refine HC.out.mono ?_
  rintro e w2 ⟨rfl, hb⟩
  clear HC y0 y1 z0 z1
  have C0 := Lib.hid (Blk.keep B0.out hb); have C1 := Lib.hid (Blk.keep B1.out hb); have C2 := Lib.hid (Blk.keep B2.out hb); have CB := Lib.hid (HB.out.trans (Below.mono hb HB.out.size)); clear B0 B1 B2 HB
  have B0 := C0; have B1 := C1; have B2 := C2; have HB := CB
  clear hb
  have y0 : w2.cell? ⟨w.heap.size, 0, none⟩ = some (.int .i64 p) := Blk.cell C0.out 0
  have y1 : w2.cell? ⟨w.heap.size, 1, none⟩ = some (.slice A n c) := Blk.cell C0.out 1
  have z0 : w2.cell? ⟨w.heap.size + 1, 0, none⟩ = some (.int .i64 q) := Blk.cell C1.out 0
  have z1 : w2.cell? ⟨w.heap.size + 1, 1, none⟩ = some (.slice B m d) := Blk.cell C1.out 1
  go_wp2_with fail
  clear y0 y1 z0 z1
  have K0 := Lib.hid (Blk.drew C0.out); have K1 := Lib.hid (Blk.drew C1.out); have K2 := Lib.hid (Blk.drew C2.out); have KE := Lib.hid (Below.drew CB.out); have KR := Lib.hid (RdB.drew (RdB.below HR.out CB.out))
  clear C0 C1 C2 CB B0 B1 B2 HB
  generalize w2 = W0 at *
  refine wp_region_held_drew (S := (fun W' => Blk W' w.heap.size 24 #[.int .i64 p, .slice A n c] ∧ Blk W' (w.heap.size + 1) 24 #[.int .i64 q, .slice B m d])) (by kernel_rfl) ⟨K0.out, K1.out⟩ (fun _ => ?_)
  obtain ⟨w1, hw2⟩ : ∃ w', w' = W0.drew := ⟨_, rfl⟩
  rw [← hw2] at K0 K1 K2 KE KR
  rw [← hw2]
  clear hw2
  refine' wpAnyH_take (i := 0) (oi := { dst := some 24, op := Go.Op.fieldAddr 24 (Go.Operand.tmp 2) 0, type := 0, pos := "ref.go:171", after := #[], guard := none }) (v := _) rfl (by kernel_rfl) (by kernel_rfl) (by kernel_rfl) (fun _ _ _ h => h) (Or.inl ⟨by rfl, ?hyR3⟩) ⟨K0.out, K1.out⟩ ?reR3
  case hyR3 => (rintro W' ⟨hS0, hS1⟩; clear hS0 hS1; go_simp; try with_reducible rfl)
  try simp only [Act.put, List.setIfInBounds_toArray, List.set_cons_zero, List.set_cons_succ]
  refine' wpAnyH_take (i := 1) (oi := { dst := some 25, op := Go.Op.load 3 (Go.Operand.tmp 24), type := 3, pos := "ref.go:171", after := #[{ on := 0, ground := Go.Ground.data }], guard := none }) (v := _) rfl (by kernel_rfl) (by kernel_rfl) (by kernel_rfl) (fun _ _ _ h => h) (Or.inl ⟨by rfl, ?hyR4⟩) ⟨K0.out, K1.out⟩ ?reR4
  case hyR4 => (rintro W' ⟨hS0, hS1⟩; have hc0 : W'.cell? ⟨w.heap.size, 0, none⟩ = some (.int .i64 p) := Blk.cell hS0 0; clear hS0 hS1; go_simp; try with_reducible rfl)
  try simp only [Act.put, List.setIfInBounds_toArray, List.set_cons_zero, List.set_cons_succ]
  refine' wpAnyH_take (i := 2) (oi := { dst := some 26, op := Go.Op.fieldAddr 24 (Go.Operand.tmp 3) 0, type := 0, pos := "ref.go:171", after := #[], guard := none }) (v := _) rfl (by kernel_rfl) (by kernel_rfl) (by kernel_rfl) (fun _ _ _ h => h) (Or.inl ⟨by rfl, ?hyR5⟩) ⟨K0.out, K1.out⟩ ?reR5
  case hyR5 => (rintro W' ⟨hS0, hS1⟩; clear hS0 hS1; go_simp; try with_reducible rfl)
  try simp only [Act.put, List.setIfInBounds_toArray, List.set_cons_zero, List.set_cons_succ]
  refine' wpAnyH_take (i := 3) (oi := { dst := some 27, op := Go.Op.load 3 (Go.Operand.tmp 26), type := 3, pos := "ref.go:171", after := #[{ on := 2, ground := Go.Ground.data }], guard := none }) (v := _) rfl (by kernel_rfl) (by kernel_rfl) (by kernel_rfl) (fun _ _ _ h => h) (Or.inl ⟨by rfl, ?hyR6⟩) ⟨K0.out, K1.out⟩ ?reR6
  case hyR6 => (rintro W' ⟨hS0, hS1⟩; have hc0 : W'.cell? ⟨w.heap.size + 1, 0, none⟩ = some (.int .i64 q) := Blk.cell hS1 0; clear hS0 hS1; go_simp; try with_reducible rfl)
  try simp only [Act.put, List.setIfInBounds_toArray, List.set_cons_zero, List.set_cons_succ]
  refine' wpAnyH_take (i := 4) (oi := { dst := some 28, op := Go.Op.binOp Go.BinOp.add 3 (Go.Operand.tmp 25) (Go.Operand.tmp 27) 3, type := 3, pos := "ref.go:171", after := #[{ on := 1, ground := Go.Ground.data }, { on := 3, ground := Go.Ground.data }], guard := none }) (v := _) rfl (by kernel_rfl) (by kernel_rfl) (by kernel_rfl) (fun _ _ _ h => h) (Or.inl ⟨by rfl, ?hyR7⟩) ⟨K0.out, K1.out⟩ ?reR7
  case hyR7 => (rintro W' ⟨hS0, hS1⟩; clear hS0 hS1; go_simp; try with_reducible rfl)
  try simp only [Act.put, List.setIfInBounds_toArray, List.set_cons_zero, List.set_cons_succ]
  refine' wpAnyH_take (i := 5) (oi := { dst := some 29, op := Go.Op.fieldAddr 24 (Go.Operand.tmp 2) 1, type := 0, pos := "ref.go:171", after := #[], guard := none }) (v := _) rfl (by kernel_rfl) (by kernel_rfl) (by kernel_rfl) (fun _ _ _ h => h) (Or.inl ⟨by rfl, ?hyR8⟩) ⟨K0.out, K1.out⟩ ?reR8
  case hyR8 => (rintro W' ⟨hS0, hS1⟩; clear hS0 hS1; go_simp; try with_reducible rfl)
  try simp only [Act.put, List.setIfInBounds_toArray, List.set_cons_zero, List.set_cons_succ]
  refine' wpAnyH_take (i := 6) (oi := { dst := some 30, op := Go.Op.load 22 (Go.Operand.tmp 29), type := 22, pos := "ref.go:171", after := #[{ on := 5, ground := Go.Ground.data }], guard := none }) (v := _) rfl (by kernel_rfl) (by kernel_rfl) (by kernel_rfl) (fun _ _ _ h => h) (Or.inl ⟨by rfl, ?hyR9⟩) ⟨K0.out, K1.out⟩ ?reR9
  case hyR9 => (rintro W' ⟨hS0, hS1⟩; have hc0 : W'.cell? ⟨w.heap.size, 1, none⟩ = some (.slice A n c) := Blk.cell hS0 1; clear hS0 hS1; go_simp; try with_reducible rfl)
  try simp only [Act.put, List.setIfInBounds_toArray, List.set_cons_zero, List.set_cons_succ]
  refine wpAnyH_ready (rs := [7, 9]) (by kernel_rfl) (by simp) ?_
  refine AllReadyH.cons (o := { dst := some 31, op := Go.Op.call { callee := Go.Callee.value (Go.Operand.func 63), args := #[Go.Operand.tmp 30], argTypes := #[22] }, type := 22, pos := "ref.go:171", after := #[{ on := 6, ground := Go.Ground.data }], guard := none }) rfl (fun K hK => ?_) ?_
  · -- 7: call
    go_simp
    go_at_call 63
    refine (copied_any A n c l _ KR.out (by omega)).mono ?_
    rintro e w10 ⟨Bc, dc, rfl, ho, hb11⟩
    dsimp only
    have HOC := Lib.hid (owns_base ho (Nat.succ_le_of_lt (Blk.lt K2.out))); clear ho
    have b0_12 := Lib.hid (Blk.keep (K0.out) hb11)
    have b1_13 := Lib.hid (Blk.keep (K1.out) hb11)
    have b2_14 := Lib.hid (Blk.keep (K2.out) hb11)
    have bel_15 := Lib.hid (Below.trans (KE.out) (Below.mono hb11 ((KE.out).size)))
    have rd_16 := Lib.hid (RdB.below (KR.out) hb11)
    refine hK.out _ _ ⟨b0_12.out, b1_13.out⟩ (fun _ => ?_); clear hK K
    try simp only [Act.put, List.setIfInBounds_toArray, List.set_cons_zero, List.set_cons_succ]
    refine' wpAnyH_take (i := 8) (oi := { dst := some 32, op := Go.Op.build 24 #[(0, Go.Operand.tmp 28), (1, Go.Operand.tmp 31)], type := 24, pos := "ref.go:171", after := #[{ on := 4, ground := Go.Ground.data }, { on := 7, ground := Go.Ground.data }], guard := none }) (v := _) rfl (by kernel_rfl) (by kernel_rfl) (by kernel_rfl) (fun _ _ _ h => h) (Or.inl ⟨by rfl, ?hyR17⟩) ⟨b0_12.out, b1_13.out⟩ ?reR17
    case hyR17 => (rintro W' ⟨hS0, hS1⟩; clear hS0 hS1; go_simp; try with_reducible rfl)
    try simp only [Act.put, List.setIfInBounds_toArray, List.set_cons_zero, List.set_cons_succ]
    refine wpAnyH_ready (rs := [9]) (by kernel_rfl) (by simp) ?_
    refine AllReadyH.cons (o := { dst := some 8, op := Go.Op.alloc 24, type := 0, pos := "ref.go:171", after := #[], guard := none }) rfl (fun K hK => ?_) ?_
    · -- 9: alloc
      go_simp
      have NLO := Lib.hid (fun (y : Nat) (e : (Value.slice Bc n dc).ownBlock = some y) => show y < (w10).heap.size from (World.ownsRow.lt HOC.out y e).2)
      have b0_22 := Lib.hid (Blk.alloc (b0_12.out) (.cells #[.int .i64 0, .slice none 0 0] 24))
      have b1_23 := Lib.hid (Blk.alloc (b1_13.out) (.cells #[.int .i64 0, .slice none 0 0] 24))
      have b2_24 := Lib.hid (Blk.alloc (b2_14.out) (.cells #[.int .i64 0, .slice none 0 0] 24))
      have bel_25 := Lib.hid (Below.alloc (bel_15.out) ((bel_15.out).size) (.cells #[.int .i64 0, .slice none 0 0] 24))
      have rd_26 := Lib.hid (RdB.alloc (rd_16.out) (.cells #[.int .i64 0, .slice none 0 0] 24))
      have cp_27 := Lib.hid (World.ownsRow.alloc (HOC.out) (.cells #[.int .i64 0, .slice none 0 0] 24))
      have ne28 := Lib.hid (Nat.ne_of_lt (Blk.lt b0_12.out))
      have ne29 := Lib.hid (Nat.ne_of_lt (Blk.lt b1_13.out))
      have ne30 := Lib.hid (Nat.ne_of_lt (Blk.lt b2_14.out))
      have lb31 := Lib.hid (bel_15.out.size)
      have bo_32 := Lib.hid (Blk.new (w10) 24 #[.int .i64 0, .slice none 0 0])
      obtain ⟨g18, hg19⟩ : ∃ g, g = (w10).heap.size := ⟨_, rfl⟩
      obtain ⟨w20, hw21⟩ : ∃ w', w' = (w10).alloc (.cells #[.int .i64 0, .slice none 0 0] 24) := ⟨_, rfl⟩
      rw [← hw21] at b0_22 b1_23 b2_24 bel_25 rd_26 cp_27 bo_32
      rw [← hg19] at ne28 ne29 ne30 lb31 bo_32 NLO
      rw [← hg19, ← hw21]
      clear hg19 hw21
      have NEO := Lib.hid (fun (y : Nat) (e : (Value.slice Bc n dc).ownBlock = some y) => show y ≠ g18 from Nat.ne_of_lt (NLO.out y e))
      refine hK.out _ _ ⟨b0_22.out, b1_23.out⟩ (fun _ => ?_); clear hK K
      try simp only [Act.put, List.setIfInBounds_toArray, List.set_cons_zero, List.set_cons_succ]
      refine wpAnyH_ready (rs := [10]) (by kernel_rfl) (by simp) ?_
      refine AllReadyH.cons (o := { dst := none, op := Go.Op.store 24 (Go.Operand.tmp 8) (Go.Operand.tmp 32), type := 0, pos := "ref.go:171", after := #[{ on := 9, ground := Go.Ground.data }, { on := 8, ground := Go.Ground.data }, { on := 7, ground := Go.Ground.chain }, { on := 0, ground := Go.Ground.phase }, { on := 1, ground := Go.Ground.phase }, { on := 2, ground := Go.Ground.phase }, { on := 3, ground := Go.Ground.phase }, { on := 4, ground := Go.Ground.phase }, { on := 5, ground := Go.Ground.phase }, { on := 6, ground := Go.Ground.phase }, { on := 7, ground := Go.Ground.phase }, { on := 8, ground := Go.Ground.phase }, { on := 9, ground := Go.Ground.phase }], guard := none }) rfl (fun K hK => ?_) ?_
      · -- 10: store
        have v0 : w20.cell? ⟨g18, 0, none⟩ = some (.int .i64 0) := Blk.cell bo_32.out 0
        have v1 : w20.cell? ⟨g18, 1, none⟩ = some (.slice none 0 0) := Blk.cell bo_32.out 1
        have f0 : w20.frozen? ⟨g18, 0, none⟩ = false := Blk.frozen bo_32.out 0
        have f1 : w20.frozen? ⟨g18, 1, none⟩ = false := Blk.frozen bo_32.out 1
        have g0 := ne28.out; have g1 := ne29.out; have g2 := ne30.out; have g3 := lb31.out
        go_simp
        try rw [HWR.out]
        have k33 := Lib.hid (Blk.far (Blk.far (b0_22.out) (p := ⟨g18, 0, none⟩) (by simp; omega) (.int .i64 (p + q))) (p := ⟨g18, 1, none⟩) (by simp; omega) (.slice Bc n dc))
        have k34 := Lib.hid (Blk.far (Blk.far (b1_23.out) (p := ⟨g18, 0, none⟩) (by simp; omega) (.int .i64 (p + q))) (p := ⟨g18, 1, none⟩) (by simp; omega) (.slice Bc n dc))
        have k35 := Lib.hid (Blk.far (Blk.far (b2_24.out) (p := ⟨g18, 0, none⟩) (by simp; omega) (.int .i64 (p + q))) (p := ⟨g18, 1, none⟩) (by simp; omega) (.slice Bc n dc))
        have k36 := Lib.hid (Blk.set_ (Blk.set_ (bo_32.out) 0 (.int .i64 (p + q))) 1 (.slice Bc n dc))
        have k37 := Lib.hid (Below.setCell (Below.setCell (bel_25.out) (p := ⟨g18, 0, none⟩) (by simp; omega) (.int .i64 (p + q))) (p := ⟨g18, 1, none⟩) (by simp; omega) (.slice Bc n dc))
        have k38 := Lib.hid (own_far (own_far (cp_27.out) (a := ⟨g18, 0, none⟩) (fun e => NEO.out _ e rfl) (.int .i64 (p + q))) (a := ⟨g18, 1, none⟩) (fun e => NEO.out _ e rfl) (.slice Bc n dc))
        obtain ⟨w39, hw40⟩ : ∃ w', w' = (w20.setCell ⟨g18, 0, none⟩ (.int .i64 (p + q))).setCell ⟨g18, 1, none⟩ (.slice Bc n dc) := ⟨_, rfl⟩
        rw [← hw40] at k33 k34 k35 k36 k37 k38
        rw [← hw40]
        clear hw40 v0 v1 f0 f1
        refine hK.out _ _ ⟨k33.out, k34.out⟩ (fun _ => ?_); clear hK K
        try simp only [Act.put, List.setIfInBounds_toArray, List.set_cons_zero, List.set_cons_succ]
        refine wpAnyH_done (by kernel_rfl) ?_ _
        have C0 := k33; have C1 := k34; have C2 := k35; have CE := k37; have BO := k36; have OW := k38
        go_wp2
        go_loopw [9] (fun i wr => ∃ (j : Nat) (A7 : Option Addr) (c7 : Nat), j ≤ m ∧ i = .int .i64 j ∧ Blk wr g18 24 #[.int .i64 (p + q), .slice A7 (n + j) c7] ∧ wr.ownsRow (w.heap.size + 1 + 1 + 1) 54 4 (.slice A7 (n + j) c7) (n + j) (bcells (l ++ (k.take j).map (shB p))) ∧ (∀ y, (Value.slice A7 (n + j) c7).ownBlock = some y → y ≠ g18) ∧ Blk wr w.heap.size 24 #[.int .i64 p, .slice A n c] ∧ Blk wr (w.heap.size + 1) 24 #[.int .i64 q, .slice B m d] ∧ Blk wr (w.heap.size + 1 + 1) 24 #[.int .i64 0, .slice none 0 0] ∧ Below w.heap.size w wr) (fun i _ => m - (intOf i).toNat)
        case atStart => exact ⟨0, Bc, dc, Nat.zero_le _, rfl, BO.out, by simpa using OW.out, NEO.out, C0.out, C1.out, C2.out, CE.out⟩
        case round =>
          clear BO OW NEO C0 C1 C2 CE
          obtain ⟨j, A7, c7, hj, rfl, bo, ow, ne, k0, k1, k2, ke⟩ := hrel
          have BO := Lib.hid bo; have OW := Lib.hid ow; have NEO := Lib.hid ne; have C0 := Lib.hid k0; have C1 := Lib.hid k1; have C2 := Lib.hid k2; have CE := Lib.hid ke; clear bo ow ne k0 k1 k2 ke
          have hl2 := Blk.lt C2.out; have hlo := Blk.lt BO.out
          have y0 : wr.cell? ⟨w.heap.size, 0, none⟩ = some (.int .i64 p) := Blk.cell C0.out 0
          have y1 : wr.cell? ⟨w.heap.size, 1, none⟩ = some (.slice A n c) := Blk.cell C0.out 1
          have z0 : wr.cell? ⟨w.heap.size + 1, 0, none⟩ = some (.int .i64 q) := Blk.cell C1.out 0
          have z1 : wr.cell? ⟨w.heap.size + 1, 1, none⟩ = some (.slice B m d) := Blk.cell C1.out 1
          have x0 : wr.cell? ⟨g18, 0, none⟩ = some (.int .i64 (p + q)) := Blk.cell BO.out 0
          have x1 : wr.cell? ⟨g18, 1, none⟩ = some (.slice A7 (n + j) c7) := Blk.cell BO.out 1
          by_cases hlt : j < m
          · have hlt' : (j : Int) < m := by omega
            obtain ⟨⟨f, t, mm, i⟩, hx⟩ : ∃ b, k[j]? = some b := ⟨k[j]'(by omega), List.getElem?_eq_getElem _⟩
            obtain ⟨ff0, ff1, tt0, tt1, -, -⟩ := HOK.out _ (List.mem_of_getElem? hx)
            dsimp only at ff0 ff1 tt0 tt1
            obtain ⟨bb, ob, hBB⟩ := rdB_some HR2.out hx
            subst hBB
            obtain ⟨e0, e1, e2, e3, el⟩ := rdB_at (RdB.below HR2.out CE.out) hx
            have htk : (k.take (j + 1)).map (shB p) = (k.take j).map (shB p) ++ [⟨f + p, t + p, mm, i⟩] := by rw [List.take_add_one, hx, List.map_append]; rfl
            have HTK := Lib.hid htk; clear htk hx
            have NB1 := Lib.hid (Blk.new wr 54 #[.int .i64 f, .int .i64 t, .int .i64 mm, .int .i64 i])
            have NB2 := Lib.hid (Blk.new wr 54 #[.int .i64 (f + p), .int .i64 t, .int .i64 mm, .int .i64 i])
            have NB3 := Lib.hid (Blk.new wr 54 #[.int .i64 (f + p), .int .i64 (t + p), .int .i64 mm, .int .i64 i])
            have n0 : (wr.alloc (.cells #[.int .i64 f, .int .i64 t, .int .i64 mm, .int .i64 i] 54)).cell? ⟨wr.heap.size, 0, none⟩ = some (.int .i64 f) := Blk.cell NB1.out 0
            have nf0 : (wr.alloc (.cells #[.int .i64 f, .int .i64 t, .int .i64 mm, .int .i64 i] 54)).frozen? ⟨wr.heap.size, 0, none⟩ = false := Blk.frozen NB1.out 0
            have n1 : (wr.alloc (.cells #[.int .i64 (f + p), .int .i64 t, .int .i64 mm, .int .i64 i] 54)).cell? ⟨wr.heap.size, 1, none⟩ = some (.int .i64 t) := Blk.cell NB2.out 1
            have nf1 : (wr.alloc (.cells #[.int .i64 (f + p), .int .i64 t, .int .i64 mm, .int .i64 i] 54)).frozen? ⟨wr.heap.size, 1, none⟩ = false := Blk.frozen NB2.out 1
            have m0 : (wr.alloc (.cells #[.int .i64 (f + p), .int .i64 (t + p), .int .i64 mm, .int .i64 i] 54)).cell? ⟨wr.heap.size, 0, none⟩ = some (.int .i64 (f + p)) := Blk.cell NB3.out 0
            have m1 : (wr.alloc (.cells #[.int .i64 (f + p), .int .i64 (t + p), .int .i64 mm, .int .i64 i] 54)).cell? ⟨wr.heap.size, 1, none⟩ = some (.int .i64 (t + p)) := Blk.cell NB3.out 1
            have m2 : (wr.alloc (.cells #[.int .i64 (f + p), .int .i64 (t + p), .int .i64 mm, .int .i64 i] 54)).cell? ⟨wr.heap.size, 2, none⟩ = some (.int .i64 mm) := Blk.cell NB3.out 2
            have m3 : (wr.alloc (.cells #[.int .i64 (f + p), .int .i64 (t + p), .int .i64 mm, .int .i64 i] 54)).cell? ⟨wr.heap.size, 3, none⟩ = some (.int .i64 i) := Blk.cell NB3.out 3
            have D0 := Lib.hid (Blk.alloc C0.out (.cells #[.int .i64 (f + p), .int .i64 (t + p), .int .i64 mm, .int .i64 i] 54)); have D1 := Lib.hid (Blk.alloc C1.out (.cells #[.int .i64 (f + p), .int .i64 (t + p), .int .i64 mm, .int .i64 i] 54)); have D2 := Lib.hid (Blk.alloc C2.out (.cells #[.int .i64 (f + p), .int .i64 (t + p), .int .i64 mm, .int .i64 i] 54)); have DO := Lib.hid (Blk.alloc BO.out (.cells #[.int .i64 (f + p), .int .i64 (t + p), .int .i64 mm, .int .i64 i] 54)); have DW := Lib.hid (World.ownsRow.alloc OW.out (.cells #[.int .i64 (f + p), .int .i64 (t + p), .int .i64 mm, .int .i64 i] 54)); have DE := Lib.hid (Below.alloc CE.out CE.out.size (.cells #[.int .i64 (f + p), .int .i64 (t + p), .int .i64 mm, .int .i64 i] 54))
            have hy0 : (wr.alloc (.cells #[.int .i64 f, .int .i64 t, .int .i64 mm, .int .i64 i] 54)).cell? ⟨w.heap.size, 0, none⟩ = some (.int .i64 p) := Blk.cell (Blk.alloc C0.out (.cells #[.int .i64 f, .int .i64 t, .int .i64 mm, .int .i64 i] 54)) 0
            have hy2 : (wr.alloc (.cells #[.int .i64 (f + p), .int .i64 t, .int .i64 mm, .int .i64 i] 54)).cell? ⟨w.heap.size, 0, none⟩ = some (.int .i64 p) := Blk.cell (Blk.alloc C0.out (.cells #[.int .i64 (f + p), .int .i64 t, .int .i64 mm, .int .i64 i] 54)) 0
            have hx1 : (wr.alloc (.cells #[.int .i64 (f + p), .int .i64 (t + p), .int .i64 mm, .int .i64 i] 54)).cell? ⟨g18, 1, none⟩ = some (.slice A7 (n + j) c7) := Blk.cell DO.out 1
            have n4_ := Blk.new (wr.alloc (.cells #[.int .i64 (f + p), .int .i64 (t + p), .int .i64 mm, .int .i64 i] 54)) 54 #[.int .i64 (f + p), .int .i64 (t + p), .int .i64 mm, .int .i64 i]
            rw [World.size_alloc] at n4_
            have N4 := Lib.hid n4_; clear n4_
            have hs3 : ((wr.alloc (.cells #[.int .i64 (f + p), .int .i64 (t + p), .int .i64 mm, .int .i64 i] 54))).heap.size = wr.heap.size + 1 := by simp
            have F0 := Lib.hid (Blk.alloc D0.out (.cells #[.int .i64 (f + p), .int .i64 (t + p), .int .i64 mm, .int .i64 i] 54)); have F1 := Lib.hid (Blk.alloc D1.out (.cells #[.int .i64 (f + p), .int .i64 (t + p), .int .i64 mm, .int .i64 i] 54)); have F2 := Lib.hid (Blk.alloc D2.out (.cells #[.int .i64 (f + p), .int .i64 (t + p), .int .i64 mm, .int .i64 i] 54)); have FO := Lib.hid (Blk.alloc DO.out (.cells #[.int .i64 (f + p), .int .i64 (t + p), .int .i64 mm, .int .i64 i] 54)); have FW := Lib.hid (World.ownsRow.alloc DW.out (.cells #[.int .i64 (f + p), .int .i64 (t + p), .int .i64 mm, .int .i64 i] 54)); have FE := Lib.hid (Below.alloc DE.out DE.out.size (.cells #[.int .i64 (f + p), .int .i64 (t + p), .int .i64 mm, .int .i64 i] 54))
            clear C0 C1 C2 BO OW CE D0 D1 D2 DW DE DO NB1 NB2 NB3
            go_wp2_with (at_builtin; refine wpList_append_own2 _ rfl (.tmp 58) (.tmp 60) 22 rfl (w.heap.size + 1 + 1 + 1) 54 i0 _ 4 32 Try.underlying22 HI.out HZ0.out HZ1.out HZ2.out rfl (by omega) (.slice A7 (n + j) c7) (n + j) _ rfl FW.out ⟨wr.heap.size + 1, 0, none⟩ 1 1 (bcells [⟨f + p, t + p, mm, i⟩]) rfl rfl (cells_add (cs := bcells [⟨f + p, t + p, mm, i⟩]) (show Blk _ _ _ (bcells [⟨f + p, t + p, mm, i⟩]).toArray from N4.out)) (bcells_one _) (by unfold maxLen; omega) (by omega) (by simp only [World.size_alloc]; omega) (by omega) ?_; intro v6 w6 hown6 hg6 hwh6; obtain ⟨A8, c8, rfl, -⟩ := own_form hown6; have HO6 := Lib.hid hown6; have HG6 := Lib.hid hg6; have HW6 := Lib.hid hwh6; clear hown6 hg6 hwh6; have hlr := World.ownsRow.lt FW.out; have G0 := Lib.hid (blk_grown F0.out HG6.out (fun e => by have := (hlr _ e).1; omega)); have G1 := Lib.hid (blk_grown F1.out HG6.out (fun e => by have := (hlr _ e).1; omega)); have G2 := Lib.hid (blk_grown F2.out HG6.out (fun e => by have := (hlr _ e).1; omega)); have GO := Lib.hid (blk_grown FO.out HG6.out (fun e => NEO.out _ e rfl)); have GE := Lib.hid (Below.grown FE.out HG6.out FE.out.size (fun q e => by have := (hlr q e).1; omega)); have NE8 := Lib.hid (fun (y : Nat) (e : (Value.slice A8 (n + j + 1) c8).ownBlock = some y) => show y ≠ g18 from by (intro e2; rcases HW6.out with h | h; exact NEO.out _ (h.symm.trans e) e2; exact absurd (Blk.lt FO.out) (by have h2 := Option.some.inj (h.symm.trans e); omega))); clear F0 F1 F2 FO FW FE hlr HG6 HW6 NEO; have hlg := Blk.lt GO.out; have u0 : w6.cell? ⟨g18, 1, none⟩ = some (.slice A7 (n + j) c7) := Blk.cell GO.out 1; have uf0 : w6.frozen? ⟨g18, 1, none⟩ = false := Blk.frozen GO.out 1)
            have hown' : World.ownsRow w6 (w.heap.size + 1 + 1 + 1) 54 4 (.slice A8 (n + (j + 1)) c8) (n + (j + 1)) (bcells (l ++ (k.take (j + 1)).map (shB p))) := by rw [HTK.out, ← List.append_assoc, bcells_append]; exact HO6.out
            exact ⟨⟨j + 1, A8, c8, by omega, by go_num, Blk.set_ GO.out 1 (.slice A8 (n + j + 1) c8), own_far hown' (a := ⟨g18, 1, none⟩) (fun e => NE8.out _ e rfl) _, NE8.out, Blk.far G0.out (p := ⟨g18, 1, none⟩) (by simp; omega) _, Blk.far G1.out (p := ⟨g18, 1, none⟩) (by simp; omega) _, Blk.far G2.out (p := ⟨g18, 1, none⟩) (by simp; omega) _, Below.setCell GE.out (p := ⟨g18, 1, none⟩) (by simp; omega) _⟩, by simp [intOf]; omega⟩
          · obtain rfl : j = m := by omega
            have how : World.ownsRow wr (w.heap.size + 1 + 1 + 1) 54 4 (.slice A7 (n + j) c7) (n + j) (bcells (l ++ k.map (shB p))) := by have h := OW.out; rw [List.take_of_length_le (by omega)] at h; exact h
            have hrd := (OwnB.rd (show OwnB wr (w.heap.size + 1 + 1 + 1) A7 (n + j) c7 (l ++ k.map (shB p)) from how)).1
            have hc := rCheckSystem_any (p + q) A7 (n + j) c7 (l ++ k.map (shB p)) wr hrd (by unfold maxLen; omega)
            have HC := Lib.hid hc; have HOW := Lib.hid how; clear hc how hrd OW
            generalize hcq : chk (p + q) (l ++ k.map (shB p)) = cq at *
            go_wp2_with fail
            refine HC.out.mono ?_
            rintro e w5 ⟨rfl, hb⟩
            clear HC y0 y1 z0 z1 x0 x1
            have D2 := Lib.hid (Blk.keep C2.out hb); have DO := Lib.hid (Blk.keep BO.out hb); have DE := Lib.hid (CE.out.trans (Below.mono hb CE.out.size)); have DW := Lib.hid (owns_below HOW.out hb); clear C0 C1 C2 BO CE HOW hb
            have hl2' := Blk.lt D2.out
            have v0 : w5.cell? ⟨w.heap.size + 1 + 1, 0, none⟩ = some (.int .i64 0) := Blk.cell D2.out 0
            have v1 : w5.cell? ⟨w.heap.size + 1 + 1, 1, none⟩ = some (.slice none 0 0) := Blk.cell D2.out 1
            have f0 : w5.frozen? ⟨w.heap.size + 1 + 1, 0, none⟩ = false := Blk.frozen D2.out 0
            have f1 : w5.frozen? ⟨w.heap.size + 1 + 1, 1, none⟩ = false := Blk.frozen D2.out 1
            have x0 : w5.cell? ⟨g18, 0, none⟩ = some (.int .i64 (p + q)) := Blk.cell DO.out 0
            have x1 : w5.cell? ⟨g18, 1, none⟩ = some (.slice A7 (n + j) c7) := Blk.cell DO.out 1
            by_cases hz : cq = 0
            · subst hz
              go_wp2
              refine bodyPost_ret (v := .tuple #[.agg #[.int .i64 (p + q), .slice A7 (n + j) c7], .int .i64 0]) (by simp [results, Try.results21, go_sem, v0, v1]) rfl ?_
              refine ⟨A7, n + j, c7, by rw [sysR_yes], fun _ => ?_, (DE.out.setCell (p := ⟨w.heap.size + 1 + 1, 0, none⟩) (by simp; omega) _).setCell (p := ⟨w.heap.size + 1 + 1, 1, none⟩) (by simp; omega) _⟩
              exact owns_base (ownsRow_setCell_below (ownsRow_setCell_below DW.out (a := ⟨w.heap.size + 1 + 1, 0, none⟩) (by simp) _) (a := ⟨w.heap.size + 1 + 1, 1, none⟩) (by simp) _) (by omega)
            · have hq : (cq != 0) = true := by simpa using hz
              have HQ := Lib.hid hz; clear hz
              go_wp2
              refine bodyPost_ret (v := .tuple #[.agg #[.int .i64 0, .slice none 0 0], .int .i64 cq]) (by simp [results, Try.results21, go_sem, v0, v1]) rfl ?_
              exact ⟨none, 0, 0, by rw [sysR_no HQ.out], fun h => absurd h HQ.out, (DE.out.setCell (p := ⟨w.heap.size + 1 + 1, 0, none⟩) (by simp; omega) _).setCell (p := ⟨w.heap.size + 1 + 1, 1, none⟩) (by simp; omega) _⟩
      exact AllReadyH.nil
    exact AllReadyH.nil
  refine AllReadyH.cons (o := { dst := some 8, op := Go.Op.alloc 24, type := 0, pos := "ref.go:171", after := #[], guard := none }) rfl (fun K hK => ?_) ?_
  · -- 9: alloc
    go_simp
    have b0_45 := Lib.hid (Blk.alloc (K0.out) (.cells #[.int .i64 0, .slice none 0 0] 24))
    have b1_46 := Lib.hid (Blk.alloc (K1.out) (.cells #[.int .i64 0, .slice none 0 0] 24))
    have b2_47 := Lib.hid (Blk.alloc (K2.out) (.cells #[.int .i64 0, .slice none 0 0] 24))
    have bel_48 := Lib.hid (Below.alloc (KE.out) ((KE.out).size) (.cells #[.int .i64 0, .slice none 0 0] 24))
    have rd_49 := Lib.hid (RdB.alloc (KR.out) (.cells #[.int .i64 0, .slice none 0 0] 24))
    have ne50 := Lib.hid (Nat.ne_of_lt (Blk.lt K0.out))
    have ne51 := Lib.hid (Nat.ne_of_lt (Blk.lt K1.out))
    have ne52 := Lib.hid (Nat.ne_of_lt (Blk.lt K2.out))
    have lb53 := Lib.hid (KE.out.size)
    have bo_54 := Lib.hid (Blk.new (w1) 24 #[.int .i64 0, .slice none 0 0])
    obtain ⟨g41, hg42⟩ : ∃ g, g = (w1).heap.size := ⟨_, rfl⟩
    obtain ⟨w43, hw44⟩ : ∃ w', w' = (w1).alloc (.cells #[.int .i64 0, .slice none 0 0] 24) := ⟨_, rfl⟩
    rw [← hw44] at b0_45 b1_46 b2_47 bel_48 rd_49 bo_54
    rw [← hg42] at ne50 ne51 ne52 lb53 bo_54
    rw [← hg42, ← hw44]
    clear hg42 hw44
    refine hK.out _ _ ⟨b0_45.out, b1_46.out⟩ (fun _ => ?_); clear hK K
    try simp only [Act.put, List.setIfInBounds_toArray, List.set_cons_zero, List.set_cons_succ]
    refine wpAnyH_ready (rs := [7]) (by kernel_rfl) (by simp) ?_
    refine AllReadyH.cons (o := { dst := some 31, op := Go.Op.call { callee := Go.Callee.value (Go.Operand.func 63), args := #[Go.Operand.tmp 30], argTypes := #[22] }, type := 22, pos := "ref.go:171", after := #[{ on := 6, ground := Go.Ground.data }], guard := none }) rfl (fun K hK => ?_) ?_
    · -- 7: call
      go_simp
      go_at_call 63
      refine (copied_any A n c l _ rd_49.out (by omega)).mono ?_
      rintro e w55 ⟨Bc, dc, rfl, ho, hb56⟩
      dsimp only
      have NEO := Lib.hid (fun (y : Nat) (e : (Value.slice Bc n dc).ownBlock = some y) => show y ≠ g41 from by have h1 := (World.ownsRow.lt ho _ e).1; have h2 := Blk.lt bo_54.out; omega)
      have HOC := Lib.hid (owns_base ho (Nat.succ_le_of_lt (Blk.lt b2_47.out))); clear ho
      have b0_57 := Lib.hid (Blk.keep (b0_45.out) hb56)
      have b1_58 := Lib.hid (Blk.keep (b1_46.out) hb56)
      have b2_59 := Lib.hid (Blk.keep (b2_47.out) hb56)
      have bel_60 := Lib.hid (Below.trans (bel_48.out) (Below.mono hb56 ((bel_48.out).size)))
      have rd_61 := Lib.hid (RdB.below (rd_49.out) hb56)
      have bo_62 := Lib.hid (Blk.keep (bo_54.out) hb56)
      refine hK.out _ _ ⟨b0_57.out, b1_58.out⟩ (fun _ => ?_); clear hK K
      try simp only [Act.put, List.setIfInBounds_toArray, List.set_cons_zero, List.set_cons_succ]
      refine' wpAnyH_take (i := 8) (oi := { dst := some 32, op := Go.Op.build 24 #[(0, Go.Operand.tmp 28), (1, Go.Operand.tmp 31)], type := 24, pos := "ref.go:171", after := #[{ on := 4, ground := Go.Ground.data }, { on := 7, ground := Go.Ground.data }], guard := none }) (v := _) rfl (by kernel_rfl) (by kernel_rfl) (by kernel_rfl) (fun _ _ _ h => h) (Or.inl ⟨by rfl, ?hyR63⟩) ⟨b0_57.out, b1_58.out⟩ ?reR63
      case hyR63 => (rintro W' ⟨hS0, hS1⟩; clear hS0 hS1; go_simp; try with_reducible rfl)
      try simp only [Act.put, List.setIfInBounds_toArray, List.set_cons_zero, List.set_cons_succ]
      refine wpAnyH_ready (rs := [10]) (by kernel_rfl) (by simp) ?_
      refine AllReadyH.cons (o := { dst := none, op := Go.Op.store 24 (Go.Operand.tmp 8) (Go.Operand.tmp 32), type := 0, pos := "ref.go:171", after := #[{ on := 9, ground := Go.Ground.data }, { on := 8, ground := Go.Ground.data }, { on := 7, ground := Go.Ground.chain }, { on := 0, ground := Go.Ground.phase }, { on := 1, ground := Go.Ground.phase }, { on := 2, ground := Go.Ground.phase }, { on := 3, ground := Go.Ground.phase }, { on := 4, ground := Go.Ground.phase }, { on := 5, ground := Go.Ground.phase }, { on := 6, ground := Go.Ground.phase }, { on := 7, ground := Go.Ground.phase }, { on := 8, ground := Go.Ground.phase }, { on := 9, ground := Go.Ground.phase }], guard := none }) rfl (fun K hK => ?_) ?_
      · -- 10: store
        have v0 : w55.cell? ⟨g41, 0, none⟩ = some (.int .i64 0) := Blk.cell bo_62.out 0
        have v1 : w55.cell? ⟨g41, 1, none⟩ = some (.slice none 0 0) := Blk.cell bo_62.out 1
        have f0 : w55.frozen? ⟨g41, 0, none⟩ = false := Blk.frozen bo_62.out 0
        have f1 : w55.frozen? ⟨g41, 1, none⟩ = false := Blk.frozen bo_62.out 1
        have g0 := ne50.out; have g1 := ne51.out; have g2 := ne52.out; have g3 := lb53.out
        go_simp
        try rw [HWR.out]
        have k64 := Lib.hid (Blk.far (Blk.far (b0_57.out) (p := ⟨g41, 0, none⟩) (by simp; omega) (.int .i64 (p + q))) (p := ⟨g41, 1, none⟩) (by simp; omega) (.slice Bc n dc))
        have k65 := Lib.hid (Blk.far (Blk.far (b1_58.out) (p := ⟨g41, 0, none⟩) (by simp; omega) (.int .i64 (p + q))) (p := ⟨g41, 1, none⟩) (by simp; omega) (.slice Bc n dc))
        have k66 := Lib.hid (Blk.far (Blk.far (b2_59.out) (p := ⟨g41, 0, none⟩) (by simp; omega) (.int .i64 (p + q))) (p := ⟨g41, 1, none⟩) (by simp; omega) (.slice Bc n dc))
        have k67 := Lib.hid (Blk.set_ (Blk.set_ (bo_62.out) 0 (.int .i64 (p + q))) 1 (.slice Bc n dc))
        have k68 := Lib.hid (Below.setCell (Below.setCell (bel_60.out) (p := ⟨g41, 0, none⟩) (by simp; omega) (.int .i64 (p + q))) (p := ⟨g41, 1, none⟩) (by simp; omega) (.slice Bc n dc))
        have k69 := Lib.hid (own_far (own_far (HOC.out) (a := ⟨g41, 0, none⟩) (fun e => NEO.out _ e rfl) (.int .i64 (p + q))) (a := ⟨g41, 1, none⟩) (fun e => NEO.out _ e rfl) (.slice Bc n dc))
        obtain ⟨w70, hw71⟩ : ∃ w', w' = (w55.setCell ⟨g41, 0, none⟩ (.int .i64 (p + q))).setCell ⟨g41, 1, none⟩ (.slice Bc n dc) := ⟨_, rfl⟩
        rw [← hw71] at k64 k65 k66 k67 k68 k69
        rw [← hw71]
        clear hw71 v0 v1 f0 f1
        refine hK.out _ _ ⟨k64.out, k65.out⟩ (fun _ => ?_); clear hK K
        try simp only [Act.put, List.setIfInBounds_toArray, List.set_cons_zero, List.set_cons_succ]
        refine wpAnyH_done (by kernel_rfl) ?_ _
        have C0 := k64; have C1 := k65; have C2 := k66; have CE := k68; have BO := k67; have OW := k69
        go_wp2
        go_loopw [9] (fun i wr => ∃ (j : Nat) (A7 : Option Addr) (c7 : Nat), j ≤ m ∧ i = .int .i64 j ∧ Blk wr g41 24 #[.int .i64 (p + q), .slice A7 (n + j) c7] ∧ wr.ownsRow (w.heap.size + 1 + 1 + 1) 54 4 (.slice A7 (n + j) c7) (n + j) (bcells (l ++ (k.take j).map (shB p))) ∧ (∀ y, (Value.slice A7 (n + j) c7).ownBlock = some y → y ≠ g41) ∧ Blk wr w.heap.size 24 #[.int .i64 p, .slice A n c] ∧ Blk wr (w.heap.size + 1) 24 #[.int .i64 q, .slice B m d] ∧ Blk wr (w.heap.size + 1 + 1) 24 #[.int .i64 0, .slice none 0 0] ∧ Below w.heap.size w wr) (fun i _ => m - (intOf i).toNat)
        case atStart => exact ⟨0, Bc, dc, Nat.zero_le _, rfl, BO.out, by simpa using OW.out, NEO.out, C0.out, C1.out, C2.out, CE.out⟩
        case round =>
          clear BO OW NEO C0 C1 C2 CE
          obtain ⟨j, A7, c7, hj, rfl, bo, ow, ne, k0, k1, k2, ke⟩ := hrel
          have BO := Lib.hid bo; have OW := Lib.hid ow; have NEO := Lib.hid ne; have C0 := Lib.hid k0; have C1 := Lib.hid k1; have C2 := Lib.hid k2; have CE := Lib.hid ke; clear bo ow ne k0 k1 k2 ke
          have hl2 := Blk.lt C2.out; have hlo := Blk.lt BO.out
          have y0 : wr.cell? ⟨w.heap.size, 0, none⟩ = some (.int .i64 p) := Blk.cell C0.out 0
          have y1 : wr.cell? ⟨w.heap.size, 1, none⟩ = some (.slice A n c) := Blk.cell C0.out 1
          have z0 : wr.cell? ⟨w.heap.size + 1, 0, none⟩ = some (.int .i64 q) := Blk.cell C1.out 0
          have z1 : wr.cell? ⟨w.heap.size + 1, 1, none⟩ = some (.slice B m d) := Blk.cell C1.out 1
          have x0 : wr.cell? ⟨g41, 0, none⟩ = some (.int .i64 (p + q)) := Blk.cell BO.out 0
          have x1 : wr.cell? ⟨g41, 1, none⟩ = some (.slice A7 (n + j) c7) := Blk.cell BO.out 1
          by_cases hlt : j < m
          · have hlt' : (j : Int) < m := by omega
            obtain ⟨⟨f, t, mm, i⟩, hx⟩ : ∃ b, k[j]? = some b := ⟨k[j]'(by omega), List.getElem?_eq_getElem _⟩
            obtain ⟨ff0, ff1, tt0, tt1, -, -⟩ := HOK.out _ (List.mem_of_getElem? hx)
            dsimp only at ff0 ff1 tt0 tt1
            obtain ⟨bb, ob, hBB⟩ := rdB_some HR2.out hx
            subst hBB
            obtain ⟨e0, e1, e2, e3, el⟩ := rdB_at (RdB.below HR2.out CE.out) hx
            have htk : (k.take (j + 1)).map (shB p) = (k.take j).map (shB p) ++ [⟨f + p, t + p, mm, i⟩] := by rw [List.take_add_one, hx, List.map_append]; rfl
            have HTK := Lib.hid htk; clear htk hx
            have NB1 := Lib.hid (Blk.new wr 54 #[.int .i64 f, .int .i64 t, .int .i64 mm, .int .i64 i])
            have NB2 := Lib.hid (Blk.new wr 54 #[.int .i64 (f + p), .int .i64 t, .int .i64 mm, .int .i64 i])
            have NB3 := Lib.hid (Blk.new wr 54 #[.int .i64 (f + p), .int .i64 (t + p), .int .i64 mm, .int .i64 i])
            have n0 : (wr.alloc (.cells #[.int .i64 f, .int .i64 t, .int .i64 mm, .int .i64 i] 54)).cell? ⟨wr.heap.size, 0, none⟩ = some (.int .i64 f) := Blk.cell NB1.out 0
            have nf0 : (wr.alloc (.cells #[.int .i64 f, .int .i64 t, .int .i64 mm, .int .i64 i] 54)).frozen? ⟨wr.heap.size, 0, none⟩ = false := Blk.frozen NB1.out 0
            have n1 : (wr.alloc (.cells #[.int .i64 (f + p), .int .i64 t, .int .i64 mm, .int .i64 i] 54)).cell? ⟨wr.heap.size, 1, none⟩ = some (.int .i64 t) := Blk.cell NB2.out 1
            have nf1 : (wr.alloc (.cells #[.int .i64 (f + p), .int .i64 t, .int .i64 mm, .int .i64 i] 54)).frozen? ⟨wr.heap.size, 1, none⟩ = false := Blk.frozen NB2.out 1
            have m0 : (wr.alloc (.cells #[.int .i64 (f + p), .int .i64 (t + p), .int .i64 mm, .int .i64 i] 54)).cell? ⟨wr.heap.size, 0, none⟩ = some (.int .i64 (f + p)) := Blk.cell NB3.out 0
            have m1 : (wr.alloc (.cells #[.int .i64 (f + p), .int .i64 (t + p), .int .i64 mm, .int .i64 i] 54)).cell? ⟨wr.heap.size, 1, none⟩ = some (.int .i64 (t + p)) := Blk.cell NB3.out 1
            have m2 : (wr.alloc (.cells #[.int .i64 (f + p), .int .i64 (t + p), .int .i64 mm, .int .i64 i] 54)).cell? ⟨wr.heap.size, 2, none⟩ = some (.int .i64 mm) := Blk.cell NB3.out 2
            have m3 : (wr.alloc (.cells #[.int .i64 (f + p), .int .i64 (t + p), .int .i64 mm, .int .i64 i] 54)).cell? ⟨wr.heap.size, 3, none⟩ = some (.int .i64 i) := Blk.cell NB3.out 3
            have D0 := Lib.hid (Blk.alloc C0.out (.cells #[.int .i64 (f + p), .int .i64 (t + p), .int .i64 mm, .int .i64 i] 54)); have D1 := Lib.hid (Blk.alloc C1.out (.cells #[.int .i64 (f + p), .int .i64 (t + p), .int .i64 mm, .int .i64 i] 54)); have D2 := Lib.hid (Blk.alloc C2.out (.cells #[.int .i64 (f + p), .int .i64 (t + p), .int .i64 mm, .int .i64 i] 54)); have DO := Lib.hid (Blk.alloc BO.out (.cells #[.int .i64 (f + p), .int .i64 (t + p), .int .i64 mm, .int .i64 i] 54)); have DW := Lib.hid (World.ownsRow.alloc OW.out (.cells #[.int .i64 (f + p), .int .i64 (t + p), .int .i64 mm, .int .i64 i] 54)); have DE := Lib.hid (Below.alloc CE.out CE.out.size (.cells #[.int .i64 (f + p), .int .i64 (t + p), .int .i64 mm, .int .i64 i] 54))
            have hy0 : (wr.alloc (.cells #[.int .i64 f, .int .i64 t, .int .i64 mm, .int .i64 i] 54)).cell? ⟨w.heap.size, 0, none⟩ = some (.int .i64 p) := Blk.cell (Blk.alloc C0.out (.cells #[.int .i64 f, .int .i64 t, .int .i64 mm, .int .i64 i] 54)) 0
            have hy2 : (wr.alloc (.cells #[.int .i64 (f + p), .int .i64 t, .int .i64 mm, .int .i64 i] 54)).cell? ⟨w.heap.size, 0, none⟩ = some (.int .i64 p) := Blk.cell (Blk.alloc C0.out (.cells #[.int .i64 (f + p), .int .i64 t, .int .i64 mm, .int .i64 i] 54)) 0
            have hx1 : (wr.alloc (.cells #[.int .i64 (f + p), .int .i64 (t + p), .int .i64 mm, .int .i64 i] 54)).cell? ⟨g41, 1, none⟩ = some (.slice A7 (n + j) c7) := Blk.cell DO.out 1
            have n4_ := Blk.new (wr.alloc (.cells #[.int .i64 (f + p), .int .i64 (t + p), .int .i64 mm, .int .i64 i] 54)) 54 #[.int .i64 (f + p), .int .i64 (t + p), .int .i64 mm, .int .i64 i]
            rw [World.size_alloc] at n4_
            have N4 := Lib.hid n4_; clear n4_
            have hs3 : ((wr.alloc (.cells #[.int .i64 (f + p), .int .i64 (t + p), .int .i64 mm, .int .i64 i] 54))).heap.size = wr.heap.size + 1 := by simp
            have F0 := Lib.hid (Blk.alloc D0.out (.cells #[.int .i64 (f + p), .int .i64 (t + p), .int .i64 mm, .int .i64 i] 54)); have F1 := Lib.hid (Blk.alloc D1.out (.cells #[.int .i64 (f + p), .int .i64 (t + p), .int .i64 mm, .int .i64 i] 54)); have F2 := Lib.hid (Blk.alloc D2.out (.cells #[.int .i64 (f + p), .int .i64 (t + p), .int .i64 mm, .int .i64 i] 54)); have FO := Lib.hid (Blk.alloc DO.out (.cells #[.int .i64 (f + p), .int .i64 (t + p), .int .i64 mm, .int .i64 i] 54)); have FW := Lib.hid (World.ownsRow.alloc DW.out (.cells #[.int .i64 (f + p), .int .i64 (t + p), .int .i64 mm, .int .i64 i] 54)); have FE := Lib.hid (Below.alloc DE.out DE.out.size (.cells #[.int .i64 (f + p), .int .i64 (t + p), .int .i64 mm, .int .i64 i] 54))
            clear C0 C1 C2 BO OW CE D0 D1 D2 DW DE DO NB1 NB2 NB3
            go_wp2_with (at_builtin; refine wpList_append_own2 _ rfl (.tmp 58) (.tmp 60) 22 rfl (w.heap.size + 1 + 1 + 1) 54 i0 _ 4 32 Try.underlying22 HI.out HZ0.out HZ1.out HZ2.out rfl (by omega) (.slice A7 (n + j) c7) (n + j) _ rfl FW.out ⟨wr.heap.size + 1, 0, none⟩ 1 1 (bcells [⟨f + p, t + p, mm, i⟩]) rfl rfl (cells_add (cs := bcells [⟨f + p, t + p, mm, i⟩]) (show Blk _ _ _ (bcells [⟨f + p, t + p, mm, i⟩]).toArray from N4.out)) (bcells_one _) (by unfold maxLen; omega) (by omega) (by simp only [World.size_alloc]; omega) (by omega) ?_; intro v6 w6 hown6 hg6 hwh6; obtain ⟨A8, c8, rfl, -⟩ := own_form hown6; have HO6 := Lib.hid hown6; have HG6 := Lib.hid hg6; have HW6 := Lib.hid hwh6; clear hown6 hg6 hwh6; have hlr := World.ownsRow.lt FW.out; have G0 := Lib.hid (blk_grown F0.out HG6.out (fun e => by have := (hlr _ e).1; omega)); have G1 := Lib.hid (blk_grown F1.out HG6.out (fun e => by have := (hlr _ e).1; omega)); have G2 := Lib.hid (blk_grown F2.out HG6.out (fun e => by have := (hlr _ e).1; omega)); have GO := Lib.hid (blk_grown FO.out HG6.out (fun e => NEO.out _ e rfl)); have GE := Lib.hid (Below.grown FE.out HG6.out FE.out.size (fun q e => by have := (hlr q e).1; omega)); have NE8 := Lib.hid (fun (y : Nat) (e : (Value.slice A8 (n + j + 1) c8).ownBlock = some y) => show y ≠ g41 from by (intro e2; rcases HW6.out with h | h; exact NEO.out _ (h.symm.trans e) e2; exact absurd (Blk.lt FO.out) (by have h2 := Option.some.inj (h.symm.trans e); omega))); clear F0 F1 F2 FO FW FE hlr HG6 HW6 NEO; have hlg := Blk.lt GO.out; have u0 : w6.cell? ⟨g41, 1, none⟩ = some (.slice A7 (n + j) c7) := Blk.cell GO.out 1; have uf0 : w6.frozen? ⟨g41, 1, none⟩ = false := Blk.frozen GO.out 1)
            have hown' : World.ownsRow w6 (w.heap.size + 1 + 1 + 1) 54 4 (.slice A8 (n + (j + 1)) c8) (n + (j + 1)) (bcells (l ++ (k.take (j + 1)).map (shB p))) := by rw [HTK.out, ← List.append_assoc, bcells_append]; exact HO6.out
            exact ⟨⟨j + 1, A8, c8, by omega, by go_num, Blk.set_ GO.out 1 (.slice A8 (n + j + 1) c8), own_far hown' (a := ⟨g41, 1, none⟩) (fun e => NE8.out _ e rfl) _, NE8.out, Blk.far G0.out (p := ⟨g41, 1, none⟩) (by simp; omega) _, Blk.far G1.out (p := ⟨g41, 1, none⟩) (by simp; omega) _, Blk.far G2.out (p := ⟨g41, 1, none⟩) (by simp; omega) _, Below.setCell GE.out (p := ⟨g41, 1, none⟩) (by simp; omega) _⟩, by simp [intOf]; omega⟩
          · obtain rfl : j = m := by omega
            have how : World.ownsRow wr (w.heap.size + 1 + 1 + 1) 54 4 (.slice A7 (n + j) c7) (n + j) (bcells (l ++ k.map (shB p))) := by have h := OW.out; rw [List.take_of_length_le (by omega)] at h; exact h
            have hrd := (OwnB.rd (show OwnB wr (w.heap.size + 1 + 1 + 1) A7 (n + j) c7 (l ++ k.map (shB p)) from how)).1
            have hc := rCheckSystem_any (p + q) A7 (n + j) c7 (l ++ k.map (shB p)) wr hrd (by unfold maxLen; omega)
            have HC := Lib.hid hc; have HOW := Lib.hid how; clear hc how hrd OW
            generalize hcq : chk (p + q) (l ++ k.map (shB p)) = cq at *
            go_wp2_with fail
            refine HC.out.mono ?_
            rintro e w5 ⟨rfl, hb⟩
            clear HC y0 y1 z0 z1 x0 x1
            have D2 := Lib.hid (Blk.keep C2.out hb); have DO := Lib.hid (Blk.keep BO.out hb); have DE := Lib.hid (CE.out.trans (Below.mono hb CE.out.size)); have DW := Lib.hid (owns_below HOW.out hb); clear C0 C1 C2 BO CE HOW hb
            have hl2' := Blk.lt D2.out
            have v0 : w5.cell? ⟨w.heap.size + 1 + 1, 0, none⟩ = some (.int .i64 0) := Blk.cell D2.out 0
            have v1 : w5.cell? ⟨w.heap.size + 1 + 1, 1, none⟩ = some (.slice none 0 0) := Blk.cell D2.out 1
            have f0 : w5.frozen? ⟨w.heap.size + 1 + 1, 0, none⟩ = false := Blk.frozen D2.out 0
            have f1 : w5.frozen? ⟨w.heap.size + 1 + 1, 1, none⟩ = false := Blk.frozen D2.out 1
            have x0 : w5.cell? ⟨g41, 0, none⟩ = some (.int .i64 (p + q)) := Blk.cell DO.out 0
            have x1 : w5.cell? ⟨g41, 1, none⟩ = some (.slice A7 (n + j) c7) := Blk.cell DO.out 1
            by_cases hz : cq = 0
            · subst hz
              go_wp2
              refine bodyPost_ret (v := .tuple #[.agg #[.int .i64 (p + q), .slice A7 (n + j) c7], .int .i64 0]) (by simp [results, Try.results21, go_sem, v0, v1]) rfl ?_
              refine ⟨A7, n + j, c7, by rw [sysR_yes], fun _ => ?_, (DE.out.setCell (p := ⟨w.heap.size + 1 + 1, 0, none⟩) (by simp; omega) _).setCell (p := ⟨w.heap.size + 1 + 1, 1, none⟩) (by simp; omega) _⟩
              exact owns_base (ownsRow_setCell_below (ownsRow_setCell_below DW.out (a := ⟨w.heap.size + 1 + 1, 0, none⟩) (by simp) _) (a := ⟨w.heap.size + 1 + 1, 1, none⟩) (by simp) _) (by omega)
            · have hq : (cq != 0) = true := by simpa using hz
              have HQ := Lib.hid hz; clear hz
              go_wp2
              refine bodyPost_ret (v := .tuple #[.agg #[.int .i64 0, .slice none 0 0], .int .i64 cq]) (by simp [results, Try.results21, go_sem, v0, v1]) rfl ?_
              exact ⟨none, 0, 0, by rw [sysR_no HQ.out], fun h => absurd h HQ.out, (DE.out.setCell (p := ⟨w.heap.size + 1 + 1, 0, none⟩) (by simp; omega) _).setCell (p := ⟨w.heap.size + 1 + 1, 1, none⟩) (by simp; omega) _⟩
      exact AllReadyH.nil
    exact AllReadyH.nil
  exact AllReadyH.nil
set_option maxRecDepth 100000 in
set_option maxHeartbeats 8000000 in
theorem rBeside_any (p q : Int) (A B : Option Addr) (n c m d : Nat) (l k : List Bnd) (w : World) (hr : RdB w A n c l) (hn : n ≤ maxLen) (hr2 : RdB w B m d k) (hm : m ≤ maxLen) : Calls Try.prog 21 #[.agg #[.int .i64 p, .slice A n c], .agg #[.int .i64 q, .slice B m d]] w (RetS (besC p l q k) (p + q) (l ++ k.map (shB p)) w) := by
  unfold besC
  by_cases h1 : chk p l = 0
  · rw [if_pos h1]
    by_cases h2 : chk q k = 0
    · rw [if_pos h2]
      obtain ⟨p1, p2, p3, -⟩ := chk_ok h1
      obtain ⟨q1, q2, q3, -⟩ := chk_ok h2
      exact rb_ok p q A B n c m d l k w hr hn hr2 hm (by rw [← hr.len]; exact p3) (by rw [← hr2.len]; exact q3) p1 p2 q1 q2 (Lib.hid (okB_of h2)) (Lib.hid h1) (Lib.hid h2)
    · rw [if_neg h2]
      exact rb_err2 p q A B n c m d l k w hr hn hr2 hm _ (by simpa using h2) (Lib.hid h2) (Lib.hid h1) (Lib.hid rfl)
  · rw [if_neg h1]
    exact rb_err1 p q A B n c m d l k w hr hn hr2 hm _ (by simpa using h1) (Lib.hid h1) (Lib.hid rfl)
end Go.Proofs.Ythlnialipjihdaa
