import Derived.Test.YtaoanagmgheicaaGreatWRCheck
set_option linter.unusedSimpArgs false
set_option linter.unusedVariables false
namespace Go.Proofs.YtaoanagmgheicaaGreat
open Go.RowKit
theorem idx_at {l : List Bnd} {x : List Int} (h : ∀ i ∈ x, ∃ k b, i = Int.ofNat k ∧ l[k]? = some b) {j : Nat} (hj : j < x.length) :
 ∃ (k : Nat) (f t m i : Int), x[j]? = some (k : Int) ∧ l[k]? = some ⟨f, t, m, i⟩ ∧ bnd l (at_ x j) = ⟨f, t, m, i⟩ := by
 obtain ⟨k, b, e, hb⟩ := h (x[j]) (List.getElem_mem hj)
 obtain ⟨f, t, m, i⟩ := b
 have hx : x[j]? = some (k : Int) := by rw [List.getElem?_eq_getElem hj, e]; rfl
 refine ⟨k, f, t, m, i, hx, hb, ?_⟩
 rw [show at_ x j = (k : Int) from by simp [at_, hx]]
 exact bnd_of (by rw [Int.toNat_natCast]; exact hb)
theorem rCheckCircle_any (P : Int) (A : Option Addr) (n k : Nat) (l : List Bnd) (w : World) (hr : RdB w A n k l) (hn : n ≤ maxLen) (B : Option Addr) (m d : Nat) (x : List Int) (hx : RdI w B m d x) (hm : m ≤ 100) :
 Calls Tryz.prog 64 #[.agg #[.int .i64 P, .slice A n k], .slice B m d] w fun e w' => e = .returned (.tuple #[.bool (checkCircleV P l x).1, .int .i64 (checkCircleV P l x).2]) ∧ Below w.heap.size w w' := by
 by_cases hk : chk P l = 0
 · obtain ⟨hp1, hp2, hlen, -⟩ := chk_ok hk
   have hok := okB_of hk
   have hn4 : n ≤ 402 := by have := hr.len; omega
   have hxl := hx.len
   rw [rcirc_eq hk]
   unfold rcircV
   obtain ⟨V, hV⟩ : ∃ V, walkR l x [] [] 0 = V := ⟨_, rfl⟩
   obtain ⟨s, t⟩ := V
   cases t
   · have hV0 := walk_no hok (show (walkR l x [] [] 0).2 = false from by rw [hV])
     rw [hV0]
     exact rC_no P A n k l w hr hn B m d x hx hm hn4 (Lib.hid hok) (Lib.hid hk) (Lib.hid hV0)
   · rw [hV]
     by_cases h2 : m < 2
     · have : decide (2 ≤ x.length) = false := decide_eq_false (by omega)
       simp only [this, Bool.and_false, Bool.false_and]
       exact rC_short P A n k l w hr hn B m d x hx hm hn4 (Lib.hid hok) (Lib.hid hk) s (Lib.hid hV) h2
     · have h2' : decide (2 ≤ x.length) = true := decide_eq_true (by omega)
       obtain ⟨m, rfl⟩ : ∃ m', m = m' + 1 := ⟨m - 1, by omega⟩
       have hidx := walk_idx hok hV
       obtain ⟨k0, f0, t0, m0, i0, a1, a2, a3⟩ := idx_at hidx (j := 0) (by omega)
       obtain ⟨k1, f1, t1, m1, i1, c1, c2, c3⟩ := idx_at hidx (j := m) (by omega)
       have hlt : lastT l x = t1 := by unfold lastT; rw [show x.length - 1 = m from by omega, c3]
       simp only [h2', Bool.true_and, a3, hlt]
       by_cases hs : s < 0
       · by_cases hf : f0 = t1
         · subst hf
           simp only [hs, decide_true, Bool.and_self]
           exact rC_ok2 P A n k l w hr hn B m d x hx hm hn4 (Lib.hid hok) (Lib.hid hk) s (Lib.hid hV) (by omega) k0 k1 f0 t0 m0 i0 f1 m1 i1 a1 c1 a2 c2 (decide_eq_true hs)
         · simp only [hf, decide_false, Bool.and_false]
           exact rC_ok1 P A n k l w hr hn B m d x hx hm hn4 (Lib.hid hok) (Lib.hid hk) s (Lib.hid hV) (by omega) k0 k1 f0 t0 m0 i0 f1 t1 m1 i1 a1 c1 a2 c2 (decide_eq_true hs) (beq_eq_false_iff_ne.2 hf) (decide_eq_false hf) hf
       · simp only [hs, decide_false, Bool.false_and]
         exact rC_ok0 P A n k l w hr hn B m d x hx hm hn4 (Lib.hid hok) (Lib.hid hk) s (Lib.hid hV) (by omega) k0 k1 f0 t0 m0 i0 f1 t1 m1 i1 a1 c1 a2 c2 (decide_eq_false hs)
 · have hg : gcode P l [] = chk P l := by unfold gcode; rw [if_neg hk]
   have hv : checkCircleV P l x = (false, chk P l) := by unfold checkCircleV; rw [if_neg (by rw [hg]; exact hk), hg]
   rw [hv]
   exact rC_err P A n k l w hr hn B m d x hx hm _ (by simpa using hk) (Lib.hid rfl)
end Go.Proofs.YtaoanagmgheicaaGreat
