/- Beside of gauge. -/
import Derived.Test.YthlnialipjihdaaChg
import Derived.Test.YthlnialipjihdaaTied
import Derived.Test.YthlnialipjihdaaSums
set_option linter.unusedSimpArgs false
set_option linter.unusedVariables false
namespace Go.Proofs.Ythlnialipjihdaa
open Go.RowKit

def shB (p : Int) (b : Bnd) : Bnd := ⟨b.f + p, b.t + p, b.m, b.b⟩
def besL (p : Int) (l k : List Bnd) (q : Nat) : List Bnd := l ++ ((k.take (q - l.length)).map (shB p) ++ k.drop (q - l.length))
theorem besL_length (p : Int) (l k : List Bnd) (q : Nat) : (besL p l k q).length = l.length + k.length := by simp [besL]; omega
theorem besL_first (p : Int) (l k : List Bnd) : besL p l k l.length = l ++ k := by simp [besL]
theorem besL_all (p : Int) (l k : List Bnd) : besL p l k (l.length + k.length) = l ++ k.map (shB p) := by simp [besL]
theorem besL_at {p : Int} {l k : List Bnd} {q : Nat} {b : Bnd} (hq : l.length ≤ q) (h : k[q - l.length]? = some b) : (besL p l k q)[q]? = some b := by
  have hk := (List.getElem?_eq_some_iff.1 h).1
  unfold besL
  rw [List.getElem?_append_right hq, List.getElem?_append_right (by simp; omega), List.getElem?_drop, List.length_map, List.length_take, show q - l.length + (q - l.length - min (q - l.length) k.length) = q - l.length from by omega, h]
theorem besL_set {p : Int} {l k : List Bnd} {q : Nat} {b : Bnd} (hq : l.length ≤ q) (h : k[q - l.length]? = some b) : (besL p l k q).set q (shB p b) = besL p l k (q + 1) := by
  have hk := (List.getElem?_eq_some_iff.1 h).1
  have hd : k.drop (q - l.length) = b :: k.drop (q - l.length + 1) := by
    rw [List.drop_eq_getElem_cons hk]
    congr 1
    rw [List.getElem?_eq_getElem hk] at h
    injection h
  unfold besL
  rw [hd, List.set_append_right _ _ hq, List.set_append_right _ _ (by simp; omega), List.length_map, List.length_take, show q - l.length - min (q - l.length) k.length = 0 from by omega, List.set_cons_zero, show q + 1 - l.length = q - l.length + 1 from by omega, List.take_add_one, h]
  simp

/-- The error of Beside. -/
def besC (p : Int) (l : List Bnd) (q : Int) (k : List Bnd) : Int := if chk p l = 0 then (if chk q k = 0 then chk (p + q) (l ++ k.map (shB p)) else chk q k) else chk p l

set_option maxRecDepth 100000 in
set_option maxHeartbeats 8000000 in
theorem bes_err1 (p q : Int) (A B : Option Addr) (n c m d : Nat) (l k : List Bnd) (w : World) (hr : RdB w A n c l) (hn : n ≤ maxLen) (hr2 : RdB w B m d k) (hm : m ≤ maxLen) (e0 : Int) (hq : (e0 != 0) = true) (HQ : Hid (e0 ≠ 0)) (E1 : Hid (chk p l = e0)) :
    Calls Try.prog 20 #[.agg #[.int .i64 p, .slice A n c], .agg #[.int .i64 q, .slice B m d]] w (RetS e0 (p + q) (l ++ k.map (shB p)) w) := by
  have hB : Below w.heap.size w (((w.alloc (.cells #[.int .i64 p, .slice A n c] 24)).alloc (.cells #[.int .i64 q, .slice B m d] 24)).alloc (.cells #[.int .i64 0, .slice none 0 0] 24)) := (((Below.refl _ w).alloc (Nat.le_refl _) _).alloc (by simp) _).alloc (by simp; omega) _
  have b0 := ((Blk.new w 24 #[.int .i64 p, .slice A n c]).alloc (.cells #[.int .i64 q, .slice B m d] 24)).alloc (.cells #[.int .i64 0, .slice none 0 0] 24)
  have b1 := (Blk.new (w.alloc (.cells #[.int .i64 p, .slice A n c] 24)) 24 #[.int .i64 q, .slice B m d]).alloc (.cells #[.int .i64 0, .slice none 0 0] 24)
  have b2 := Blk.new ((w.alloc (.cells #[.int .i64 p, .slice A n c] 24)).alloc (.cells #[.int .i64 q, .slice B m d] 24)) 24 #[.int .i64 0, .slice none 0 0]
  simp only [World.size_alloc] at b1 b2
  have B0 := Lib.hid b0; have B1 := Lib.hid b1; have B2 := Lib.hid b2; have HB := Lib.hid hB; have HR := Lib.hid hr; have HR2 := Lib.hid hr2; clear b0 b1 b2 hB hr hr2
  have hc := checkSystem_any p A n c l _ (HR.out.below HB.out) hn
  rw [E1.out] at hc
  have HC := Lib.hid hc; clear hc
  go_enter Try.func20, Try.ntmps20
  go_wp2_with fail
  refine HC.out.mono ?_
  rintro e w1 ⟨rfl, hb⟩
  clear HC
  have C0 := Lib.hid (Blk.keep B0.out hb); have C1 := Lib.hid (Blk.keep B1.out hb); have C2 := Lib.hid (Blk.keep B2.out hb); have CB := Lib.hid (HB.out.trans (Below.mono hb HB.out.size)); clear B0 B1 B2 HB
  have B0 := C0; have B1 := C1; have B2 := C2; have HB := CB
  clear hb
  have v0 : w1.cell? ⟨w.heap.size + 1 + 1, 0, none⟩ = some (.int .i64 0) := Blk.cell C2.out 0
  have v1 : w1.cell? ⟨w.heap.size + 1 + 1, 1, none⟩ = some (.slice none 0 0) := Blk.cell C2.out 1
  have f0 : w1.frozen? ⟨w.heap.size + 1 + 1, 0, none⟩ = false := Blk.frozen C2.out 0
  have f1 : w1.frozen? ⟨w.heap.size + 1 + 1, 1, none⟩ = false := Blk.frozen C2.out 1
  go_wp2
  refine bodyPost_ret (v := .tuple #[.agg #[.int .i64 0, .slice none 0 0], .int .i64 e0]) (by simp [results, Try.results20, go_sem, v0, v1]) rfl ?_
  exact ⟨none, 0, 0, by rw [sysR_no HQ.out], fun h => absurd h HQ.out, (CB.out.setCell (p := ⟨w.heap.size + 1 + 1, 0, none⟩) (by simp; omega) _).setCell (p := ⟨w.heap.size + 1 + 1, 1, none⟩) (by simp; omega) _⟩

set_option maxRecDepth 100000 in
set_option maxHeartbeats 8000000 in
theorem bes_err2 (p q : Int) (A B : Option Addr) (n c m d : Nat) (l k : List Bnd) (w : World) (hr : RdB w A n c l) (hn : n ≤ maxLen) (hr2 : RdB w B m d k) (hm : m ≤ maxLen) (e0 : Int) (hq : (e0 != 0) = true) (HQ : Hid (e0 ≠ 0)) (E1 : Hid (chk p l = 0)) (E2 : Hid (chk q k = e0)) :
    Calls Try.prog 20 #[.agg #[.int .i64 p, .slice A n c], .agg #[.int .i64 q, .slice B m d]] w (RetS e0 (p + q) (l ++ k.map (shB p)) w) := by
  have hB : Below w.heap.size w (((w.alloc (.cells #[.int .i64 p, .slice A n c] 24)).alloc (.cells #[.int .i64 q, .slice B m d] 24)).alloc (.cells #[.int .i64 0, .slice none 0 0] 24)) := (((Below.refl _ w).alloc (Nat.le_refl _) _).alloc (by simp) _).alloc (by simp; omega) _
  have b0 := ((Blk.new w 24 #[.int .i64 p, .slice A n c]).alloc (.cells #[.int .i64 q, .slice B m d] 24)).alloc (.cells #[.int .i64 0, .slice none 0 0] 24)
  have b1 := (Blk.new (w.alloc (.cells #[.int .i64 p, .slice A n c] 24)) 24 #[.int .i64 q, .slice B m d]).alloc (.cells #[.int .i64 0, .slice none 0 0] 24)
  have b2 := Blk.new ((w.alloc (.cells #[.int .i64 p, .slice A n c] 24)).alloc (.cells #[.int .i64 q, .slice B m d] 24)) 24 #[.int .i64 0, .slice none 0 0]
  simp only [World.size_alloc] at b1 b2
  have B0 := Lib.hid b0; have B1 := Lib.hid b1; have B2 := Lib.hid b2; have HB := Lib.hid hB; have HR := Lib.hid hr; have HR2 := Lib.hid hr2; clear b0 b1 b2 hB hr hr2
  have hc := checkSystem_any p A n c l _ (HR.out.below HB.out) hn
  rw [E1.out] at hc
  have HC := Lib.hid hc; clear hc
  go_enter Try.func20, Try.ntmps20
  go_wp2_with fail
  refine HC.out.mono ?_
  rintro e w1 ⟨rfl, hb⟩
  clear HC
  have C0 := Lib.hid (Blk.keep B0.out hb); have C1 := Lib.hid (Blk.keep B1.out hb); have C2 := Lib.hid (Blk.keep B2.out hb); have CB := Lib.hid (HB.out.trans (Below.mono hb HB.out.size)); clear B0 B1 B2 HB
  have B0 := C0; have B1 := C1; have B2 := C2; have HB := CB
  clear hb
  have y0 : w1.cell? ⟨w.heap.size, 0, none⟩ = some (.int .i64 p) := Blk.cell C0.out 0
  have y1 : w1.cell? ⟨w.heap.size, 1, none⟩ = some (.slice A n c) := Blk.cell C0.out 1
  have z0 : w1.cell? ⟨w.heap.size + 1, 0, none⟩ = some (.int .i64 q) := Blk.cell C1.out 0
  have z1 : w1.cell? ⟨w.heap.size + 1, 1, none⟩ = some (.slice B m d) := Blk.cell C1.out 1
  have hc := checkSystem_any q B m d k w1 (HR2.out.below CB.out) hm
  rw [E2.out] at hc
  have HC := Lib.hid hc; clear hc C0 C1 C2 CB
  go_wp2_with fail
  refine HC.out.mono ?_
  rintro e w2 ⟨rfl, hb⟩
  clear HC y0 y1 z0 z1
  have C0 := Lib.hid (Blk.keep B0.out hb); have C1 := Lib.hid (Blk.keep B1.out hb); have C2 := Lib.hid (Blk.keep B2.out hb); have CB := Lib.hid (HB.out.trans (Below.mono hb HB.out.size)); clear B0 B1 B2 HB
  have B0 := C0; have B1 := C1; have B2 := C2; have HB := CB
  clear hb
  have v0 : w2.cell? ⟨w.heap.size + 1 + 1, 0, none⟩ = some (.int .i64 0) := Blk.cell C2.out 0
  have v1 : w2.cell? ⟨w.heap.size + 1 + 1, 1, none⟩ = some (.slice none 0 0) := Blk.cell C2.out 1
  have f0 : w2.frozen? ⟨w.heap.size + 1 + 1, 0, none⟩ = false := Blk.frozen C2.out 0
  have f1 : w2.frozen? ⟨w.heap.size + 1 + 1, 1, none⟩ = false := Blk.frozen C2.out 1
  go_wp2
  refine bodyPost_ret (v := .tuple #[.agg #[.int .i64 0, .slice none 0 0], .int .i64 e0]) (by simp [results, Try.results20, go_sem, v0, v1]) rfl ?_
  exact ⟨none, 0, 0, by rw [sysR_no HQ.out], fun h => absurd h HQ.out, (CB.out.setCell (p := ⟨w.heap.size + 1 + 1, 0, none⟩) (by simp; omega) _).setCell (p := ⟨w.heap.size + 1 + 1, 1, none⟩) (by simp; omega) _⟩

set_option maxRecDepth 100000 in
set_option maxHeartbeats 8000000 in
theorem bes_ok (p q : Int) (A B : Option Addr) (n c m d : Nat) (l k : List Bnd) (w : World) (hr : RdB w A n c l) (hn : n ≤ maxLen) (hr2 : RdB w B m d k) (hm : m ≤ maxLen) (hn4 : n ≤ 400) (hm4 : m ≤ 400) (hp0 : 1 ≤ p) (hp1 : p ≤ 60) (hq0 : 1 ≤ q) (hq1 : q ≤ 60) (HOK : Hid (OkB k)) (E1 : Hid (chk p l = 0)) (E2 : Hid (chk q k = 0)) :
    Calls Try.prog 20 #[.agg #[.int .i64 p, .slice A n c], .agg #[.int .i64 q, .slice B m d]] w (RetS (chk (p + q) (l ++ k.map (shB p))) (p + q) (l ++ k.map (shB p)) w) := by
  have hln := hr.len
  have hlm := hr2.len
  have hB : Below w.heap.size w (((w.alloc (.cells #[.int .i64 p, .slice A n c] 24)).alloc (.cells #[.int .i64 q, .slice B m d] 24)).alloc (.cells #[.int .i64 0, .slice none 0 0] 24)) := (((Below.refl _ w).alloc (Nat.le_refl _) _).alloc (by simp) _).alloc (by simp; omega) _
  have b0 := ((Blk.new w 24 #[.int .i64 p, .slice A n c]).alloc (.cells #[.int .i64 q, .slice B m d] 24)).alloc (.cells #[.int .i64 0, .slice none 0 0] 24)
  have b1 := (Blk.new (w.alloc (.cells #[.int .i64 p, .slice A n c] 24)) 24 #[.int .i64 q, .slice B m d]).alloc (.cells #[.int .i64 0, .slice none 0 0] 24)
  have b2 := Blk.new ((w.alloc (.cells #[.int .i64 p, .slice A n c] 24)).alloc (.cells #[.int .i64 q, .slice B m d] 24)) 24 #[.int .i64 0, .slice none 0 0]
  simp only [World.size_alloc] at b1 b2
  have B0 := Lib.hid b0; have B1 := Lib.hid b1; have B2 := Lib.hid b2; have HB := Lib.hid hB; have HR := Lib.hid hr; have HR2 := Lib.hid hr2; clear b0 b1 b2 hB hr hr2
  have hc := checkSystem_any p A n c l _ (HR.out.below HB.out) hn
  rw [E1.out] at hc
  have HC := Lib.hid hc; clear hc

  go_enter Try.func20, Try.ntmps20
  go_wp2_with fail
  refine HC.out.mono ?_
  rintro e w1 ⟨rfl, hb⟩
  clear HC
  have C0 := Lib.hid (Blk.keep B0.out hb); have C1 := Lib.hid (Blk.keep B1.out hb); have C2 := Lib.hid (Blk.keep B2.out hb); have CB := Lib.hid (HB.out.trans (Below.mono hb HB.out.size)); clear B0 B1 B2 HB
  have B0 := C0; have B1 := C1; have B2 := C2; have HB := CB
  clear hb
  have y0 : w1.cell? ⟨w.heap.size, 0, none⟩ = some (.int .i64 p) := Blk.cell C0.out 0
  have y1 : w1.cell? ⟨w.heap.size, 1, none⟩ = some (.slice A n c) := Blk.cell C0.out 1
  have z0 : w1.cell? ⟨w.heap.size + 1, 0, none⟩ = some (.int .i64 q) := Blk.cell C1.out 0
  have z1 : w1.cell? ⟨w.heap.size + 1, 1, none⟩ = some (.slice B m d) := Blk.cell C1.out 1
  have hc := checkSystem_any q B m d k w1 (HR2.out.below CB.out) hm
  rw [E2.out] at hc
  have HC := Lib.hid hc; clear hc C0 C1 C2 CB
  go_wp2_with fail
  refine HC.out.mono ?_
  rintro e w2 ⟨rfl, hb⟩
  clear HC y0 y1 z0 z1
  have C0 := Lib.hid (Blk.keep B0.out hb); have C1 := Lib.hid (Blk.keep B1.out hb); have C2 := Lib.hid (Blk.keep B2.out hb); have CB := Lib.hid (HB.out.trans (Below.mono hb HB.out.size)); clear B0 B1 B2 HB
  have B0 := C0; have B1 := C1; have B2 := C2; have HB := CB
  clear hb
  have y0 : w2.cell? ⟨w.heap.size, 0, none⟩ = some (.int .i64 p) := Blk.cell C0.out 0
  have y1 : w2.cell? ⟨w.heap.size, 1, none⟩ = some (.slice A n c) := Blk.cell C0.out 1
  have z0 : w2.cell? ⟨w.heap.size + 1, 0, none⟩ = some (.int .i64 q) := Blk.cell C1.out 0
  have z1 : w2.cell? ⟨w.heap.size + 1, 1, none⟩ = some (.slice B m d) := Blk.cell C1.out 1
  have hj := joinedB_any A B n c m d l k w2 (HR.out.below CB.out) (HR2.out.below CB.out) (by omega)
  have HJ := Lib.hid hj; clear hj C0 C1 C2 CB
  go_wp2_with (go_at_call 60; refine HJ.out.mono ?_; rintro e w3 ⟨g, rfl, ho, hb⟩; have HO := Lib.hid ho; clear ho HJ y0 y1 z0 z1; have hs3 := Blk.lt B2.out; obtain ⟨hg, hgb, -⟩ := own_block HO.out; have KG := Lib.hid hg; clear hg; have C0 := Lib.hid (Blk.keep B0.out hb); have C1 := Lib.hid (Blk.keep B1.out hb); have C2 := Lib.hid (Blk.keep B2.out hb); have CB := Lib.hid (HB.out.trans (Below.mono hb HB.out.size)); clear B0 B1 B2 HB; have B0 := C0; have B1 := C1; have B2 := C2; have HB := CB; clear hb; have y0 : w3.cell? ⟨w.heap.size, 0, none⟩ = some (.int .i64 p) := Blk.cell C0.out 0; have y1 : w3.cell? ⟨w.heap.size, 1, none⟩ = some (.slice A n c) := Blk.cell C0.out 1)
  clear y0 y1
  go_loopw [9] (fun i wr => ∃ u : Nat, n ≤ u ∧ u ≤ n + m ∧ i = .int .i64 u ∧ Blk wr g 54 (bcells (besL p l k u)).toArray ∧ Blk wr w.heap.size 24 #[.int .i64 p, .slice A n c] ∧ Blk wr (w.heap.size + 1) 24 #[.int .i64 q, .slice B m d] ∧ Blk wr (w.heap.size + 1 + 1) 24 #[.int .i64 0, .slice none 0 0] ∧ Below w.heap.size w wr) (fun i _ => n + m - (intOf i).toNat)
  case atStart => exact ⟨n, Nat.le_refl _, by omega, rfl, by rw [← hln, besL_first]; exact KG.out, B0.out, B1.out, B2.out, HB.out⟩
  case round =>
    clear KG HO B0 B1 B2 HB C0 C1 C2 CB
    obtain ⟨u, hu0, hu, rfl, kg, k0, k1, k2, ke⟩ := hrel
    by_cases hlt : u < n + m
    · have hlt' : (u : Int) < (n : Int) + (m : Int) := by omega
      have hlt2 : (u : Int) < ((n + m : Nat) : Int) := by omega
      obtain ⟨⟨f, t, mm, i⟩, hx⟩ : ∃ b, k[u - l.length]? = some b := ⟨k[u - l.length]'(by omega), List.getElem?_eq_getElem _⟩
      obtain ⟨f0, f1, t0, t1, -, -⟩ := HOK.out _ (List.mem_of_getElem? hx)
      dsimp only at f0 f1 t0 t1
      have hat := besL_at (p := p) (l := l) (by omega) hx
      have hnx := besL_set (p := p) (l := l) (by omega) hx
      have hset := bcells_set (f' := f + p) (t' := t + p) hat
      rw [show (⟨f + p, t + p, mm, i⟩ : Bnd) = shB p ⟨f, t, mm, i⟩ from rfl, hnx] at hset
      have HSET := Lib.hid hset; clear hset
      have hu0_ : (bcells (besL p l k u)).toArray[u * 4]? = some (.int .i64 f) := by rw [List.getElem?_toArray]; exact bcells_get _ u 0 _ hat (by omega)
      have hu1_ : ((bcells (besL p l k u)).toArray.setIfInBounds (u * 4) (.int .i64 (f + p)))[u * 4 + 1]? = some (.int .i64 t) := by rw [Array.getElem?_setIfInBounds_ne (by omega), List.getElem?_toArray]; exact bcells_get _ u 1 _ hat (by omega)
      have U0 := Lib.hid hu0_; have U1 := Lib.hid hu1_; clear hu0_ hu1_ hat hnx hx
      have HWR0 := Lib.hid (wrap_small (x := f + p) (by omega) (by omega)); have HWR1 := Lib.hid (wrap_small (x := t + p) (by omega) (by omega))
      have hk2 := Blk.lt k2
      go_wp2_with fail
      have K0 := Lib.hid (Blk.drew k0); have K1 := Lib.hid (Blk.drew k1); have K2 := Lib.hid (Blk.drew k2); have KB := Lib.hid (Blk.drew kg); have KE := Lib.hid (Below.drew ke)
      clear k0 k1 k2 kg ke
      generalize wr = W0 at *
      refine wp_region_held_drew (S := (fun W' => Blk W' w.heap.size 24 #[.int .i64 p, .slice A n c])) (by kernel_rfl) K0.out (fun _ => ?_)
      obtain ⟨w1, hw2⟩ : ∃ w', w' = W0.drew := ⟨_, rfl⟩
      rw [← hw2] at K0 K1 K2 KB KE
      rw [← hw2]
      clear hw2
      refine' wpAnyH_take (i := 0) (oi := { dst := some 36, op := Go.Op.move (Go.Operand.tmp 8), type := 22, pos := "gauge.go:120", after := #[], guard := none }) (v := _) rfl (by kernel_rfl) (by kernel_rfl) (by kernel_rfl) (fun _ _ _ h => h) (Or.inl ⟨by rfl, ?hyR3⟩) K0.out ?reR3
      case hyR3 => (rintro W' hS0; clear hS0; go_simp; try with_reducible rfl)
      try simp only [Act.put, List.setIfInBounds_toArray, List.set_cons_zero, List.set_cons_succ]
      refine' wpAnyH_take (i := 1) (oi := { dst := some 37, op := Go.Op.move (Go.Operand.tmp 9), type := 3, pos := "gauge.go:120", after := #[], guard := none }) (v := _) rfl (by kernel_rfl) (by kernel_rfl) (by kernel_rfl) (fun _ _ _ h => h) (Or.inl ⟨by rfl, ?hyR4⟩) K0.out ?reR4
      case hyR4 => (rintro W' hS0; clear hS0; go_simp; try with_reducible rfl)
      try simp only [Act.put, List.setIfInBounds_toArray, List.set_cons_zero, List.set_cons_succ]
      refine' wpAnyH_take (i := 2) (oi := { dst := some 38, op := Go.Op.indexAddr 22 (Go.Operand.tmp 36) (Go.Operand.tmp 37), type := 0, pos := "gauge.go:120", after := #[{ on := 0, ground := Go.Ground.data }, { on := 1, ground := Go.Ground.data }], guard := none }) (v := _) rfl (by kernel_rfl) (by kernel_rfl) (by kernel_rfl) (fun _ _ _ h => h) (Or.inl ⟨by rfl, ?hyR5⟩) K0.out ?reR5
      case hyR5 => (rintro W' hS0; clear hS0; go_simp; try with_reducible rfl)
      try simp only [Act.put, List.setIfInBounds_toArray, List.set_cons_zero, List.set_cons_succ]
      refine' wpAnyH_take (i := 3) (oi := { dst := some 39, op := Go.Op.fieldAddr 54 (Go.Operand.tmp 38) 0, type := 0, pos := "gauge.go:120", after := #[{ on := 2, ground := Go.Ground.data }], guard := none }) (v := _) rfl (by kernel_rfl) (by kernel_rfl) (by kernel_rfl) (fun _ _ _ h => h) (Or.inl ⟨by rfl, ?hyR6⟩) K0.out ?reR6
      case hyR6 => (rintro W' hS0; clear hS0; go_simp; try with_reducible rfl)
      try simp only [Act.put, List.setIfInBounds_toArray, List.set_cons_zero, List.set_cons_succ]
      refine' wpAnyH_take (i := 5) (oi := { dst := some 41, op := Go.Op.fieldAddr 24 (Go.Operand.tmp 2) 0, type := 0, pos := "gauge.go:120", after := #[], guard := none }) (v := _) rfl (by kernel_rfl) (by kernel_rfl) (by kernel_rfl) (fun _ _ _ h => h) (Or.inl ⟨by rfl, ?hyR7⟩) K0.out ?reR7
      case hyR7 => (rintro W' hS0; clear hS0; go_simp; try with_reducible rfl)
      try simp only [Act.put, List.setIfInBounds_toArray, List.set_cons_zero, List.set_cons_succ]
      refine' wpAnyH_take (i := 6) (oi := { dst := some 42, op := Go.Op.load 3 (Go.Operand.tmp 41), type := 3, pos := "gauge.go:120", after := #[{ on := 5, ground := Go.Ground.data }], guard := none }) (v := _) rfl (by kernel_rfl) (by kernel_rfl) (by kernel_rfl) (fun _ _ _ h => h) (Or.inl ⟨by rfl, ?hyR8⟩) K0.out ?reR8
      case hyR8 => (rintro W' hS0; have hc0 : W'.cell? ⟨w.heap.size, 0, none⟩ = some (.int .i64 p) := Blk.cell hS0 0; clear hS0; go_simp; try with_reducible rfl)
      try simp only [Act.put, List.setIfInBounds_toArray, List.set_cons_zero, List.set_cons_succ]
      refine wpAnyH_ready (rs := [4]) (by kernel_rfl) (by simp) ?_
      refine AllReadyH.cons (o := { dst := some 40, op := Go.Op.load 3 (Go.Operand.tmp 39), type := 3, pos := "gauge.go:120", after := #[{ on := 3, ground := Go.Ground.data }], guard := none }) rfl (fun K hK => ?_) ?_
      · -- 4: load
        have c4 : w1.cell? ⟨g, u * 4, none⟩ = some (.int .i64 f) := (Blk.cell KB.out _).trans U0.out
        go_simp
        refine hK.out _ _ K0.out (fun _ => ?_); clear hK K
        try simp only [Act.put, List.setIfInBounds_toArray, List.set_cons_zero, List.set_cons_succ]
        refine' wpAnyH_take (i := 7) (oi := { dst := some 43, op := Go.Op.binOp Go.BinOp.add 3 (Go.Operand.tmp 40) (Go.Operand.tmp 42) 3, type := 3, pos := "gauge.go:120", after := #[{ on := 4, ground := Go.Ground.data }, { on := 6, ground := Go.Ground.data }], guard := none }) (v := _) rfl (by kernel_rfl) (by kernel_rfl) (by kernel_rfl) (fun _ _ _ h => h) (Or.inl ⟨by rfl, ?hyR9⟩) K0.out ?reR9
        case hyR9 => (rintro W' hS0; clear hS0; go_simp; try with_reducible rfl)
        try simp only [Act.put, List.setIfInBounds_toArray, List.set_cons_zero, List.set_cons_succ]
        refine' wpAnyH_take (i := 8) (oi := { dst := some 44, op := Go.Op.indexAddr 22 (Go.Operand.tmp 36) (Go.Operand.tmp 37), type := 0, pos := "gauge.go:120", after := #[{ on := 0, ground := Go.Ground.data }, { on := 1, ground := Go.Ground.data }, { on := 0, ground := Go.Ground.phase }, { on := 1, ground := Go.Ground.phase }, { on := 2, ground := Go.Ground.phase }, { on := 3, ground := Go.Ground.phase }, { on := 4, ground := Go.Ground.phase }, { on := 5, ground := Go.Ground.phase }, { on := 6, ground := Go.Ground.phase }, { on := 7, ground := Go.Ground.phase }], guard := none }) (v := _) rfl (by kernel_rfl) (by kernel_rfl) (by kernel_rfl) (fun _ _ _ h => h) (Or.inl ⟨by rfl, ?hyR10⟩) K0.out ?reR10
        case hyR10 => (rintro W' hS0; clear hS0; go_simp; try with_reducible rfl)
        try simp only [Act.put, List.setIfInBounds_toArray, List.set_cons_zero, List.set_cons_succ]
        refine' wpAnyH_take (i := 9) (oi := { dst := some 45, op := Go.Op.fieldAddr 54 (Go.Operand.tmp 44) 0, type := 0, pos := "gauge.go:120", after := #[{ on := 8, ground := Go.Ground.data }, { on := 0, ground := Go.Ground.phase }, { on := 1, ground := Go.Ground.phase }, { on := 2, ground := Go.Ground.phase }, { on := 3, ground := Go.Ground.phase }, { on := 4, ground := Go.Ground.phase }, { on := 5, ground := Go.Ground.phase }, { on := 6, ground := Go.Ground.phase }, { on := 7, ground := Go.Ground.phase }], guard := none }) (v := _) rfl (by kernel_rfl) (by kernel_rfl) (by kernel_rfl) (fun _ _ _ h => h) (Or.inl ⟨by rfl, ?hyR11⟩) K0.out ?reR11
        case hyR11 => (rintro W' hS0; clear hS0; go_simp; try with_reducible rfl)
        try simp only [Act.put, List.setIfInBounds_toArray, List.set_cons_zero, List.set_cons_succ]
        refine wpAnyH_ready (rs := [10]) (by kernel_rfl) (by simp) ?_
        refine AllReadyH.cons (o := { dst := none, op := Go.Op.store 3 (Go.Operand.tmp 45) (Go.Operand.tmp 43), type := 0, pos := "gauge.go:120", after := #[{ on := 9, ground := Go.Ground.data }, { on := 7, ground := Go.Ground.data }, { on := 0, ground := Go.Ground.phase }, { on := 1, ground := Go.Ground.phase }, { on := 2, ground := Go.Ground.phase }, { on := 3, ground := Go.Ground.phase }, { on := 4, ground := Go.Ground.phase }, { on := 5, ground := Go.Ground.phase }, { on := 6, ground := Go.Ground.phase }, { on := 7, ground := Go.Ground.phase }], guard := none }) rfl (fun K hK => ?_) ?_
        · -- 10: store
          have c5 : w1.cell? ⟨g, u * 4, none⟩ = some (.int .i64 f) := (Blk.cell KB.out _).trans U0.out
          have f5 : w1.frozen? ⟨g, u * 4, none⟩ = false := Blk.frozen KB.out _
          go_simp
          try rw [HWR0.out]
          have k12 := Lib.hid (Blk.far (K0.out) (p := ⟨g, u * 4, none⟩) (by simp; omega) (.int .i64 (f + p)))
          have k13 := Lib.hid (Blk.far (K1.out) (p := ⟨g, u * 4, none⟩) (by simp; omega) (.int .i64 (f + p)))
          have k14 := Lib.hid (Blk.far (K2.out) (p := ⟨g, u * 4, none⟩) (by simp; omega) (.int .i64 (f + p)))
          have k15 := Lib.hid (Blk.set_ (KB.out) (u * 4) (.int .i64 (f + p)))
          have k16 := Lib.hid (Below.setCell (KE.out) (p := ⟨g, u * 4, none⟩) (by simp; omega) (.int .i64 (f + p)))
          obtain ⟨w17, hw18⟩ : ∃ w', w' = (w1.setCell ⟨g, u * 4, none⟩ (.int .i64 (f + p))) := ⟨_, rfl⟩
          rw [← hw18] at k12 k13 k14 k15 k16
          rw [← hw18]
          clear hw18 c5 f5
          refine hK.out _ _ k12.out (fun _ => ?_); clear hK K
          try simp only [Act.put, List.setIfInBounds_toArray, List.set_cons_zero, List.set_cons_succ]
          refine wpAnyH_done (by kernel_rfl) ?_ _
          go_wp2_with fail
          have K0' := Lib.hid (Blk.drew k12.out)
          have K1' := Lib.hid (Blk.drew k13.out)
          have K2' := Lib.hid (Blk.drew k14.out)
          have KB' := Lib.hid (Blk.drew k15.out)
          have KE' := Lib.hid (Below.drew k16.out)
          clear k12 k13 k14 k15 k16
          have K0 := K0'; have K1 := K1'; have K2 := K2'; have KB := KB'; have KE := KE'; clear K0' K1' K2' KB' KE'
          generalize w17 = W1 at *
          refine wp_region_held_drew (S := (fun W' => Blk W' w.heap.size 24 #[.int .i64 p, .slice A n c])) (by kernel_rfl) K0.out (fun _ => ?_)
          obtain ⟨w19, hw20⟩ : ∃ w', w' = W1.drew := ⟨_, rfl⟩
          rw [← hw20] at K0 K1 K2 KB KE
          rw [← hw20]
          clear hw20
          refine' wpAnyH_take (i := 0) (oi := { dst := some 46, op := Go.Op.move (Go.Operand.tmp 8), type := 22, pos := "gauge.go:121", after := #[], guard := none }) (v := _) rfl (by kernel_rfl) (by kernel_rfl) (by kernel_rfl) (fun _ _ _ h => h) (Or.inl ⟨by rfl, ?hyR21⟩) K0.out ?reR21
          case hyR21 => (rintro W' hS0; clear hS0; go_simp; try with_reducible rfl)
          try simp only [Act.put, List.setIfInBounds_toArray, List.set_cons_zero, List.set_cons_succ]
          refine' wpAnyH_take (i := 1) (oi := { dst := some 47, op := Go.Op.move (Go.Operand.tmp 9), type := 3, pos := "gauge.go:121", after := #[], guard := none }) (v := _) rfl (by kernel_rfl) (by kernel_rfl) (by kernel_rfl) (fun _ _ _ h => h) (Or.inl ⟨by rfl, ?hyR22⟩) K0.out ?reR22
          case hyR22 => (rintro W' hS0; clear hS0; go_simp; try with_reducible rfl)
          try simp only [Act.put, List.setIfInBounds_toArray, List.set_cons_zero, List.set_cons_succ]
          refine' wpAnyH_take (i := 2) (oi := { dst := some 48, op := Go.Op.indexAddr 22 (Go.Operand.tmp 46) (Go.Operand.tmp 47), type := 0, pos := "gauge.go:121", after := #[{ on := 0, ground := Go.Ground.data }, { on := 1, ground := Go.Ground.data }], guard := none }) (v := _) rfl (by kernel_rfl) (by kernel_rfl) (by kernel_rfl) (fun _ _ _ h => h) (Or.inl ⟨by rfl, ?hyR23⟩) K0.out ?reR23
          case hyR23 => (rintro W' hS0; clear hS0; go_simp; try with_reducible rfl)
          try simp only [Act.put, List.setIfInBounds_toArray, List.set_cons_zero, List.set_cons_succ]
          refine' wpAnyH_take (i := 3) (oi := { dst := some 49, op := Go.Op.fieldAddr 54 (Go.Operand.tmp 48) 1, type := 0, pos := "gauge.go:121", after := #[{ on := 2, ground := Go.Ground.data }], guard := none }) (v := _) rfl (by kernel_rfl) (by kernel_rfl) (by kernel_rfl) (fun _ _ _ h => h) (Or.inl ⟨by rfl, ?hyR24⟩) K0.out ?reR24
          case hyR24 => (rintro W' hS0; clear hS0; go_simp; try with_reducible rfl)
          try simp only [Act.put, List.setIfInBounds_toArray, List.set_cons_zero, List.set_cons_succ]
          refine' wpAnyH_take (i := 5) (oi := { dst := some 51, op := Go.Op.fieldAddr 24 (Go.Operand.tmp 2) 0, type := 0, pos := "gauge.go:121", after := #[], guard := none }) (v := _) rfl (by kernel_rfl) (by kernel_rfl) (by kernel_rfl) (fun _ _ _ h => h) (Or.inl ⟨by rfl, ?hyR25⟩) K0.out ?reR25
          case hyR25 => (rintro W' hS0; clear hS0; go_simp; try with_reducible rfl)
          try simp only [Act.put, List.setIfInBounds_toArray, List.set_cons_zero, List.set_cons_succ]
          refine' wpAnyH_take (i := 6) (oi := { dst := some 52, op := Go.Op.load 3 (Go.Operand.tmp 51), type := 3, pos := "gauge.go:121", after := #[{ on := 5, ground := Go.Ground.data }], guard := none }) (v := _) rfl (by kernel_rfl) (by kernel_rfl) (by kernel_rfl) (fun _ _ _ h => h) (Or.inl ⟨by rfl, ?hyR26⟩) K0.out ?reR26
          case hyR26 => (rintro W' hS0; have hc0 : W'.cell? ⟨w.heap.size, 0, none⟩ = some (.int .i64 p) := Blk.cell hS0 0; clear hS0; go_simp; try with_reducible rfl)
          try simp only [Act.put, List.setIfInBounds_toArray, List.set_cons_zero, List.set_cons_succ]
          refine wpAnyH_ready (rs := [4]) (by kernel_rfl) (by simp) ?_
          refine AllReadyH.cons (o := { dst := some 50, op := Go.Op.load 3 (Go.Operand.tmp 49), type := 3, pos := "gauge.go:121", after := #[{ on := 3, ground := Go.Ground.data }], guard := none }) rfl (fun K hK => ?_) ?_
          · -- 4: load
            have c4 : w19.cell? ⟨g, u * 4 + 1, none⟩ = some (.int .i64 t) := (Blk.cell KB.out _).trans U1.out
            go_simp
            refine hK.out _ _ K0.out (fun _ => ?_); clear hK K
            try simp only [Act.put, List.setIfInBounds_toArray, List.set_cons_zero, List.set_cons_succ]
            refine' wpAnyH_take (i := 7) (oi := { dst := some 53, op := Go.Op.binOp Go.BinOp.add 3 (Go.Operand.tmp 50) (Go.Operand.tmp 52) 3, type := 3, pos := "gauge.go:121", after := #[{ on := 4, ground := Go.Ground.data }, { on := 6, ground := Go.Ground.data }], guard := none }) (v := _) rfl (by kernel_rfl) (by kernel_rfl) (by kernel_rfl) (fun _ _ _ h => h) (Or.inl ⟨by rfl, ?hyR27⟩) K0.out ?reR27
            case hyR27 => (rintro W' hS0; clear hS0; go_simp; try with_reducible rfl)
            try simp only [Act.put, List.setIfInBounds_toArray, List.set_cons_zero, List.set_cons_succ]
            refine' wpAnyH_take (i := 8) (oi := { dst := some 54, op := Go.Op.indexAddr 22 (Go.Operand.tmp 46) (Go.Operand.tmp 47), type := 0, pos := "gauge.go:121", after := #[{ on := 0, ground := Go.Ground.data }, { on := 1, ground := Go.Ground.data }, { on := 0, ground := Go.Ground.phase }, { on := 1, ground := Go.Ground.phase }, { on := 2, ground := Go.Ground.phase }, { on := 3, ground := Go.Ground.phase }, { on := 4, ground := Go.Ground.phase }, { on := 5, ground := Go.Ground.phase }, { on := 6, ground := Go.Ground.phase }, { on := 7, ground := Go.Ground.phase }], guard := none }) (v := _) rfl (by kernel_rfl) (by kernel_rfl) (by kernel_rfl) (fun _ _ _ h => h) (Or.inl ⟨by rfl, ?hyR28⟩) K0.out ?reR28
            case hyR28 => (rintro W' hS0; clear hS0; go_simp; try with_reducible rfl)
            try simp only [Act.put, List.setIfInBounds_toArray, List.set_cons_zero, List.set_cons_succ]
            refine' wpAnyH_take (i := 9) (oi := { dst := some 55, op := Go.Op.fieldAddr 54 (Go.Operand.tmp 54) 1, type := 0, pos := "gauge.go:121", after := #[{ on := 8, ground := Go.Ground.data }, { on := 0, ground := Go.Ground.phase }, { on := 1, ground := Go.Ground.phase }, { on := 2, ground := Go.Ground.phase }, { on := 3, ground := Go.Ground.phase }, { on := 4, ground := Go.Ground.phase }, { on := 5, ground := Go.Ground.phase }, { on := 6, ground := Go.Ground.phase }, { on := 7, ground := Go.Ground.phase }], guard := none }) (v := _) rfl (by kernel_rfl) (by kernel_rfl) (by kernel_rfl) (fun _ _ _ h => h) (Or.inl ⟨by rfl, ?hyR29⟩) K0.out ?reR29
            case hyR29 => (rintro W' hS0; clear hS0; go_simp; try with_reducible rfl)
            try simp only [Act.put, List.setIfInBounds_toArray, List.set_cons_zero, List.set_cons_succ]
            refine wpAnyH_ready (rs := [10]) (by kernel_rfl) (by simp) ?_
            refine AllReadyH.cons (o := { dst := none, op := Go.Op.store 3 (Go.Operand.tmp 55) (Go.Operand.tmp 53), type := 0, pos := "gauge.go:121", after := #[{ on := 9, ground := Go.Ground.data }, { on := 7, ground := Go.Ground.data }, { on := 0, ground := Go.Ground.phase }, { on := 1, ground := Go.Ground.phase }, { on := 2, ground := Go.Ground.phase }, { on := 3, ground := Go.Ground.phase }, { on := 4, ground := Go.Ground.phase }, { on := 5, ground := Go.Ground.phase }, { on := 6, ground := Go.Ground.phase }, { on := 7, ground := Go.Ground.phase }], guard := none }) rfl (fun K hK => ?_) ?_
            · -- 10: store
              have c5 : w19.cell? ⟨g, u * 4 + 1, none⟩ = some (.int .i64 t) := (Blk.cell KB.out _).trans U1.out
              have f5 : w19.frozen? ⟨g, u * 4 + 1, none⟩ = false := Blk.frozen KB.out _
              go_simp
              try rw [HWR1.out]
              have k30 := Lib.hid (Blk.far (K0.out) (p := ⟨g, u * 4 + 1, none⟩) (by simp; omega) (.int .i64 (t + p)))
              have k31 := Lib.hid (Blk.far (K1.out) (p := ⟨g, u * 4 + 1, none⟩) (by simp; omega) (.int .i64 (t + p)))
              have k32 := Lib.hid (Blk.far (K2.out) (p := ⟨g, u * 4 + 1, none⟩) (by simp; omega) (.int .i64 (t + p)))
              have k33 := Lib.hid (Blk.set_ (KB.out) (u * 4 + 1) (.int .i64 (t + p)))
              have k34 := Lib.hid (Below.setCell (KE.out) (p := ⟨g, u * 4 + 1, none⟩) (by simp; omega) (.int .i64 (t + p)))
              obtain ⟨w35, hw36⟩ : ∃ w', w' = (w19.setCell ⟨g, u * 4 + 1, none⟩ (.int .i64 (t + p))) := ⟨_, rfl⟩
              rw [← hw36] at k30 k31 k32 k33 k34
              rw [← hw36]
              clear hw36 c5 f5
              refine hK.out _ _ k30.out (fun _ => ?_); clear hK K
              try simp only [Act.put, List.setIfInBounds_toArray, List.set_cons_zero, List.set_cons_succ]
              refine wpAnyH_done (by kernel_rfl) ?_ _
              have hfin := k33.out
              rw [List.setIfInBounds_toArray, List.setIfInBounds_toArray, HSET.out] at hfin
              have HFIN := Lib.hid hfin; clear hfin
              go_wp2
              go_roundw
              case rel => exact ⟨u + 1, by omega, by omega, by go_num, HFIN.out, k30.out, k31.out, k32.out, k34.out⟩
              case measure => (simp [intOf]; omega)
            exact AllReadyH.nil
          exact AllReadyH.nil
        exact AllReadyH.nil
      exact AllReadyH.nil
    · obtain rfl : u = n + m := by omega
      have kf := kg
      rw [show n + m = l.length + k.length from by omega, besL_all] at kf
      have hrd := (OwnB.rd (block_own (base := w.heap.size + 1 + 1 + 1) (n := n + m) kf (by omega) (by rw [List.length_append, List.length_map]; omega) (by unfold maxLen; omega))).1
      have KF := Lib.hid kf; have C0 := Lib.hid k0; have C1 := Lib.hid k1; have C2 := Lib.hid k2; have CE := Lib.hid ke; clear kg kf k0 k1 k2 ke
      have hmd := made_any (p + q) (some ⟨g, 0, none⟩) (n + m) (n + m) (l ++ k.map (shB p)) wr hrd (by unfold maxLen; omega)
      obtain ⟨p7, A7, n7, c7, hs7, hy7, hn7⟩ := sysR_form (chk (p + q) (l ++ k.map (shB p))) (p + q) (some ⟨g, 0, none⟩) (n + m) (n + m)
      rw [hs7] at hmd
      have HMD := Lib.hid hmd; have HS7 := Lib.hid hs7; clear hmd hs7 hrd hy7 hn7
      have y0 : wr.cell? ⟨w.heap.size, 0, none⟩ = some (.int .i64 p) := Blk.cell C0.out 0
      have y1 : wr.cell? ⟨w.heap.size, 1, none⟩ = some (.slice A n c) := Blk.cell C0.out 1
      have z0 : wr.cell? ⟨w.heap.size + 1, 0, none⟩ = some (.int .i64 q) := Blk.cell C1.out 0
      have z1 : wr.cell? ⟨w.heap.size + 1, 1, none⟩ = some (.slice B m d) := Blk.cell C1.out 1
      generalize hcq : chk (p + q) (l ++ k.map (shB p)) = cq at *
      have hlt2 := Blk.lt C2.out
      go_wp2_with (go_at_call 61; refine HMD.out.mono ?_; rintro e w5 ⟨rfl, hb⟩; clear HMD y0 y1 z0 z1; have D2 := Lib.hid (Blk.keep C2.out hb); have v0 : w5.cell? ⟨w.heap.size + 1 + 1, 0, none⟩ = some (.int .i64 0) := Blk.cell D2.out 0; have v1 : w5.cell? ⟨w.heap.size + 1 + 1, 1, none⟩ = some (.slice none 0 0) := Blk.cell D2.out 1; have f0 : w5.frozen? ⟨w.heap.size + 1 + 1, 0, none⟩ = false := Blk.frozen D2.out 0; have f1 : w5.frozen? ⟨w.heap.size + 1 + 1, 1, none⟩ = false := Blk.frozen D2.out 1)
      refine bodyPost_ret (v := .tuple #[.agg #[.int .i64 p7, .slice A7 n7 c7], .int .i64 cq]) (by simp [results, Try.results20, go_sem, v0, v1]) rfl ?_
      have hB5 := CE.out.trans (hb.mono CE.out.size)
      refine ⟨some ⟨g, 0, none⟩, n + m, n + m, (by rw [HS7.out]), fun _ => ?_, (hB5.setCell (p := ⟨w.heap.size + 1 + 1, 0, none⟩) (by simp; omega) _).setCell (p := ⟨w.heap.size + 1 + 1, 1, none⟩) (by simp; omega) _⟩
      exact owns_base (block_own (base := w.heap.size + 1 + 1 + 1) (((Blk.keep KF.out hb).far (p := ⟨w.heap.size + 1 + 1, 0, none⟩) (by simp; omega) _).far (p := ⟨w.heap.size + 1 + 1, 1, none⟩) (by simp; omega) _) (by omega) (by rw [List.length_append, List.length_map]; omega) (by unfold maxLen; omega)) (by omega)
set_option maxRecDepth 100000 in
set_option maxHeartbeats 8000000 in
theorem Beside_any (p q : Int) (A B : Option Addr) (n c m d : Nat) (l k : List Bnd) (w : World) (hr : RdB w A n c l) (hn : n ≤ maxLen) (hr2 : RdB w B m d k) (hm : m ≤ maxLen) : Calls Try.prog 20 #[.agg #[.int .i64 p, .slice A n c], .agg #[.int .i64 q, .slice B m d]] w (RetS (besC p l q k) (p + q) (l ++ k.map (shB p)) w) := by
  unfold besC
  by_cases h1 : chk p l = 0
  · rw [if_pos h1]
    by_cases h2 : chk q k = 0
    · rw [if_pos h2]
      obtain ⟨p1, p2, p3, -⟩ := chk_ok h1
      obtain ⟨q1, q2, q3, -⟩ := chk_ok h2
      exact bes_ok p q A B n c m d l k w hr hn hr2 hm (by rw [← hr.len]; exact p3) (by rw [← hr2.len]; exact q3) p1 p2 q1 q2 (Lib.hid (okB_of h2)) (Lib.hid h1) (Lib.hid h2)
    · rw [if_neg h2]
      exact bes_err2 p q A B n c m d l k w hr hn hr2 hm _ (by simpa using h2) (Lib.hid h2) (Lib.hid h1) (Lib.hid rfl)
  · rw [if_neg h1]
    exact bes_err1 p q A B n c m d l k w hr hn hr2 hm _ (by simpa using h1) (Lib.hid h1) (Lib.hid rfl)
end Go.Proofs.Ythlnialipjihdaa
