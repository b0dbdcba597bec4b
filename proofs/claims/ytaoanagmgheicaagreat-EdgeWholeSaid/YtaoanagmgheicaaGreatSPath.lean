import Derived.Test.YtaoanagmgheicaaGreatSCircle
import Derived.Test.YtaoanagmgheicaaGreatSKeeps
set_option linter.unusedSimpArgs false
set_option linter.unusedVariables false
namespace Go.Proofs.YtaoanagmgheicaaGreat
open Go.RowKit
def circleV (p : Int) (l : List Bnd) : List Int × Bool × Int :=
 if gcode p l [] = 0 then (circleL l p.toNat, (circleO l p.toNat).isSome, 0) else ([], false, gcode p l [])
set_option maxHeartbeats 2000000 in
theorem Circle_any (p : Int) (A : Option Addr) (n c : Nat) (l : List Bnd) (w : World) (hr : RdB w A n c l) (hn : n ≤ maxLen) :
 Calls Tryz.prog 124 #[.agg #[.int .i64 p, .slice A n c]] w (RetI (circleV p l) w) := by
 have hB : Below w.heap.size w (w.alloc (.cells #[.int .i64 p, .slice A n c] 46)) := (Below.refl _ w).alloc (Nat.le_refl _) _
 have hc := graphOf_any p A none n c 0 0 l [] _ (hr.below hB) hn (RdI.nil_ _) (by omega)
 have HC := Lib.hid hc; have HR := Lib.hid hr; clear hc hr
 unfold circleV
 by_cases hg : gcode p l [] = 0
 · obtain ⟨hk, -⟩ := gcode_ok hg
   obtain ⟨hp1, hp2, hlen, -⟩ := chk_ok hk
   have hok := okB_of hk
   rw [if_pos hg]
   rw [hg, sysR_yes] at HC
   clear hg hk
   obtain ⟨p, rfl⟩ := Int.eq_ofNat_of_zero_le (show 0 ≤ p by omega)
   rw [Int.toNat_natCast]
   have hn2 : n ≤ 402 := by have := HR.out.len; omega
   have hci := fun w' hw' => circle_any p A n c l (by omega) hn2 hok w' (HR.out.below hw')
   unfold RetB at hci
   generalize circleL l p = V at *
   generalize (circleO l p).isSome = ok at *
   have HCI := Lib.hid hci; clear hci hok
   go_enter Tryz.func124, Tryz.ntmps124
   go_wp2_with fail
   refine HC.out.mono ?_
   rintro e w1 ⟨rfl, hb1⟩
   have hB1 := hB.trans (hb1.mono hB.size)
   go_wp2_with fail
   refine (HCI.out _ (hB1.alloc hB1.size _)).mono ?_
   rintro e w2 ⟨A2, n2, c2, rfl, ho, hb2⟩
   have HO := Lib.hid ho; clear ho
   have hB2 := (hB1.alloc hB1.size (.cells #[.int .i64 (p : Int), .slice A n c] 136)).trans (hb2.mono (hB1.alloc hB1.size _).size)
   go_wp2
   go_ret3
   exact ⟨A2, n2, c2, rfl, owns_base HO.out (hB1.alloc hB1.size _).size, hB2⟩
 · rw [if_neg hg]
   generalize gcode p l [] = q at *
   rw [sysR_no hg] at HC
   have hne : (q != 0) = true := by simpa using hg
   clear hg
   go_enter Tryz.func124, Tryz.ntmps124
   go_wp2_with fail
   refine HC.out.mono ?_
   rintro e w1 ⟨rfl, hb1⟩
   have hB1 := hB.trans (hb1.mono hB.size)
   go_wp2
   go_ret3
   exact ⟨none, 0, 0, rfl, OwnI.nil_ _ _, (by have hsz_ := Below.size hB1; repeat' (first | with_reducible exact hB1 | with_reducible exact Below.refl _ _ | with_reducible refine Below.alloc ?_ ?_ _ | with_reducible refine Below.setCell ?_ ?_ _ | with_reducible refine Below.drew ?_ | with_reducible refine below_setRow ?_ ?_ _ | omega | (simp; done) | (simp; omega)))⟩
theorem edges_of {p : Int} {l : List Bnd} (hk : chk p l = 0) : ∀ c ∈ l, c.f.toNat < p.toNat ∧ c.t.toNat < p.toNat := fun c hc => by
 obtain ⟨_, _, _, h⟩ := chk_ok hk
 have := h c hc
 unfold okBnd at this
 rw [decide_eq_true_eq] at this
 omega
theorem at_shift (z : List Int) (d : Int) {v : Nat} (hv : v < z.length) : at_ (z.map (· - d)) v = at_ z v - d := by
 simp [at_, List.getD_eq_getElem?_getD, hv]
theorem at_shift_out (z : List Int) (d : Int) {v : Nat} (hv : z.length ≤ v) : at_ (z.map (· - d)) v = 0 := by
 simp [at_, List.getD_eq_getElem?_getD, hv]
theorem at_out {z : List Int} {v : Nat} (hv : z.length ≤ v) : at_ z v = 0 := by
 simp [at_, List.getD_eq_getElem?_getD, hv]
theorem shift_ok {p : Int} {l : List Bnd} {a : Nat} (hk : chk p l = 0) (hs : (settle l p.toNat zeros).isSome = true) (ha : a < 60) :
 ∃ y, Stable l y ∧ (∀ v, at_ y v ≤ at_ (startL a) v) ∧ at_ y a = 0 := by
 obtain ⟨hp1, hp2, -, -⟩ := chk_ok hk
 have hg := edges_of hk
 have hok := okB_of hk
 obtain ⟨z, hz⟩ := Option.isSome_iff_exists.1 hs
 obtain ⟨hst, -, hlen, hle⟩ := stable_settle hg (by rw [zeros_length]; omega) hz
 rw [zeros_length] at hlen
 have hwd := wd_setL (p := p.toNat) (wd_zeros (Int.le_refl 0)) hok (Int.le_refl 0) (by omega)
 have hzz : setL l p.toNat zeros = z := by unfold setL; rw [hz]; rfl
 rw [hzz] at hwd
 have hfin : ∀ v, at_ z v ≤ 0 := fun v => by have := hle v; rw [at_zeros] at this; exact this
 have hlow : ∀ v, v < 60 → -6000000000 ≤ at_ z v := fun v hv => by
  rcases hwd.2 v hv with h | h
  · have := hfin v; rw [h] at this; unfold Inf at this; omega
  · omega
 refine ⟨z.map (· - at_ z a), fun c hc hI => ?_, fun v => ?_, by rw [at_shift _ _ (by omega)]; omega⟩
 · obtain ⟨f0, f1, t0, t1, -, -⟩ := hok c hc
   have h1 := hst c hc (by rw [look_eq]; have := hfin c.f.toNat; unfold Inf; omega)
   rw [look_eq, look_eq] at h1 ⊢
   rw [at_shift _ _ (by omega), at_shift _ _ (by omega)]
   omega
 · by_cases hv : v < 60
   · rw [at_shift _ _ (by omega), at_startL ha v hv]
     split
     · rename_i h; subst h; omega
     · have := hfin v; have := hlow a ha; unfold Inf; omega
   · rw [at_shift_out _ _ (by omega), at_out (by rw [startL_length]; omega)]
     exact Int.le_refl _
theorem startL_le {a : Nat} (ha : a < 60) (v : Nat) : at_ (startL a) v ≤ Inf := by
 by_cases hv : v < 60
 · rw [at_startL ha v hv]; split <;> (unfold Inf; omega)
 · rw [at_out (by rw [startL_length]; omega)]; unfold Inf; omega
theorem from_settled {p : Int} {l : List Bnd} {a : Nat} (hk : chk p l = 0) (hs : (settle l p.toNat zeros).isSome = true) (ha : a < 60) :
 settle l p.toNat (startL a) = some (rounds l (p.toNat - 1) (startL a)) ∧ longer l (rounds l (p.toNat - 1) (startL a)) = rounds l (p.toNat - 1) (startL a) := by
 obtain ⟨y, h1, h2, -⟩ := shift_ok hk hs ha
 obtain ⟨hp1, hp2, -, -⟩ := chk_ok hk
 exact settle_of_stable (by omega) (edges_of hk) (by rw [startL_length]; omega) (startL_le ha) h1 h2
theorem dist_self {p : Int} {l : List Bnd} {a : Nat} (hk : chk p l = 0) (hs : (settle l p.toNat zeros).isSome = true) (ha : a < 60) : dist l p.toNat a a = 0 := by
 obtain ⟨y, h1, h2, h3⟩ := shift_ok hk hs ha
 obtain ⟨h4, -⟩ := from_settled hk hs ha
 have h5 := rounds_ge h1 h2 (startL_le ha) (p.toNat - 1) a
 have h6 := rounds_le0 l (startL a) a (p.toNat - 1)
 rw [at_startL ha a ha, if_pos rfl] at h6
 unfold dist setL
 rw [h4]
 show at_ (rounds l (p.toNat - 1) (startL a)) a = 0
 omega
def lowK (l : List Bnd) (x0 : List Int) (b : Nat) (most : Int) : Nat → Nat → Nat
 | 0, k => k
 | n + 1, k => if at_ (rounds l k x0) b ≤ most then k else lowK l x0 b most n (k + 1)
theorem lowK_spec {l : List Bnd} {x0 : List Int} {b : Nat} {most : Int} : ∀ (n k : Nat), at_ (rounds l (k + n) x0) b ≤ most → (∀ j, j < k → most < at_ (rounds l j x0) b) →
 lowK l x0 b most n k ≤ k + n ∧ at_ (rounds l (lowK l x0 b most n k) x0) b ≤ most ∧ ∀ j, j < lowK l x0 b most n k → most < at_ (rounds l j x0) b
 | 0, k, h, hmin => ⟨Nat.le_refl _, h, hmin⟩
 | n + 1, k, h, hmin => by
  unfold lowK
  by_cases hk : at_ (rounds l k x0) b ≤ most
  · rw [if_pos hk]; exact ⟨by omega, hk, hmin⟩
  · rw [if_neg hk]
    have ih := lowK_spec (l := l) (x0 := x0) (b := b) (most := most) n (k + 1) (by rw [show k + 1 + n = k + (n + 1) from by omega]; exact h) (fun j hj => by
     rcases Nat.lt_or_ge j k with h1 | h1
     · exact hmin j h1
     · obtain rfl : j = k := by omega
       omega)
    exact ⟨by omega, ih.2⟩
end Go.Proofs.YtaoanagmgheicaaGreat
