/- Reading a list of numbers at a place; a world that has been asked for an order. -/
import Derived.Test.YthlnialipjihdaaOpen
import Derived.Test.YthlnialipjihdaaEnds
import Derived.Test.YthlnialipjihdaaKeeps
set_option linter.unusedSimpArgs false
set_option linter.unusedVariables false
namespace Go.Proofs.Ythlnialipjihdaa
open Go.RowKit

theorem rdI_some {w : World} {A : Option Addr} {n c : Nat} {l : List Int} {k : Nat} {v : Int} (h : RdI w A n c l) (hv : l[k]? = some v) : ∃ b o, A = some ⟨b, o, none⟩ := by
  obtain ⟨b, o, x, h1, -⟩ := h.get (k := k) (by rw [← h.len]; exact (List.getElem?_eq_some_iff.1 hv).1)
  exact ⟨b, o, h1⟩
theorem rdI_at {w : World} {b o n c : Nat} {l : List Int} {k : Nat} {v : Int} (h : RdI w (some ⟨b, o, none⟩) n c l) (hv : l[k]? = some v) : w.cell? ⟨b, o + k, none⟩ = some (.int .i64 v) ∧ b < w.heap.size := by
  obtain ⟨b', o', x, h1, h2, h3, h4⟩ := h.get (k := k) (by rw [← h.len]; exact (List.getElem?_eq_some_iff.1 hv).1)
  injection h1 with h1
  injection h1 with e1 e2
  subst e1 e2
  rw [hv] at h3
  injection h3 with h3
  subst h3
  exact ⟨h4, h2⟩
theorem blk_drewN {w : World} {g : Nat} {t : TypeId} {cs : Array Value} (h : Blk w g t cs) (n : Nat) : Blk (w.drewN n) g t cs := h
theorem rdB_drewN {w : World} {A : Option Addr} {n c : Nat} {l : List Bnd} (h : RdB w A n c l) (q : Nat) : RdB (w.drewN q) A n c l := ⟨h.len, h.cap, h.nil, h.cells⟩
theorem rdI_drewN {w : World} {A : Option Addr} {n c : Nat} {l : List Int} (h : RdI w A n c l) (q : Nat) : RdI (w.drewN q) A n c l := ⟨h.len, h.cap, h.nil, h.cells⟩
end Go.Proofs.Ythlnialipjihdaa

/- What endOf answers, part by part; the code of Keeps. -/
namespace Go.Proofs.Ythlnialipjihdaa
open Go.RowKit

theorem endV_yes {p : Int} {l : List Bnd} {a b : Int} (h : scode p l [a, b] = 0) {x q : Int} {t : Bool} (e : endV p l a b true = .tuple #[.int .i64 x, .bool t, .int .i64 q]) :
    x = fin (dist l p.toNat a.toNat b.toNat) ∧ t = isF (dist l p.toNat a.toNat b.toNat) ∧ q = 0 := by
  unfold endV at e
  rw [if_pos h, if_pos rfl] at e
  injection e with e; injection e with e; injection e with e1 e; injection e with e2 e; injection e with e3 e
  injection e1 with _ e1; injection e2 with e2; injection e3 with _ e3
  exact ⟨e1.symm, e2.symm, e3.symm⟩
theorem endV_low {p : Int} {l : List Bnd} {a b : Int} (h : scode p l [a, b] = 0) {x q : Int} {t : Bool} (e : endV p l a b false = .tuple #[.int .i64 x, .bool t, .int .i64 q]) :
    x = -fin (dist l p.toNat b.toNat a.toNat) ∧ t = isF (dist l p.toNat b.toNat a.toNat) ∧ q = 0 := by
  unfold endV at e
  rw [if_pos h, if_neg (by simp)] at e
  injection e with e; injection e with e; injection e with e1 e; injection e with e2 e; injection e with e3 e
  injection e1 with _ e1; injection e2 with e2; injection e3 with _ e3
  exact ⟨e1.symm, e2.symm, e3.symm⟩
theorem endV_no {p : Int} {l : List Bnd} {a b : Int} {u : Bool} (h : scode p l [a, b] ≠ 0) {x q : Int} {t : Bool} (e : endV p l a b u = .tuple #[.int .i64 x, .bool t, .int .i64 q]) : x = 0 ∧ t = false ∧ q = scode p l [a, b] ∧ (q != 0) = true := by
  unfold endV at e
  rw [if_neg h] at e
  injection e with e; injection e with e; injection e with e1 e; injection e with e2 e; injection e with e3 e
  injection e1 with _ e1; injection e2 with e2; injection e3 with _ e3
  exact ⟨e1.symm, e2.symm, e3.symm, by rw [← e3]; simpa using h⟩

theorem keeps_code2 {p : Int} {l : List Bnd} {x : List Int} (hk : chk p l = 0) : (keepsV p l x).2 = 0 ∨ (keepsV p l x).2 = 1 := by
  unfold keepsV breaksV
  rw [if_neg (by simpa using hk)]
  by_cases hn : nums p x = false
  · rw [if_pos hn]; exact .inr rfl
  · rw [if_neg hn]
    cases l.findIdx? (fun b => !keepB x b) with
    | some i => exact .inl rfl
    | none => exact .inl rfl
theorem take_at' {x : List Int} (hx : x.length = 60) {v n : Nat} (hv : v < n) (hn : n ≤ 60) : (x.take n)[v]? = some (at_ x v) := by
  rw [List.getElem?_take, if_pos hv, List.getElem?_eq_getElem (by omega)]
  simp [at_, List.getD_eq_getElem?_getD, List.getElem?_eq_getElem (show v < x.length by omega)]
theorem get_at' {x : List Int} {v : Nat} (hv : v < x.length) : x[v]? = some (at_ x v) := by
  rw [List.getElem?_eq_getElem hv]
  simp [at_, List.getD_eq_getElem?_getD, List.getElem?_eq_getElem hv]
end Go.Proofs.Ythlnialipjihdaa
