/- Rigid of gauge. -/
import Derived.Test.YthlnialipjihdaaPath
set_option linter.unusedSimpArgs false
set_option linter.unusedVariables false
namespace Go.Proofs.Ythlnialipjihdaa
open Go.RowKit

def fixK (l : List Bnd) (P p : Nat) : Nat → Nat → Nat
  | 0, q => q
  | n + 1, q => if dist l P q p = -dist l P p q then q else fixK l P p n (q + 1)
def rigidP (l : List Bnd) (P p : Nat) : Nat := fixK l P p p 0
def rigidL (l : List Bnd) (P : Nat) : List Int := (List.range P).map (fun p => (rigidP l P p : Int))
def rigidV (p : Int) (l : List Bnd) : List Int × Int := if scode p l [] = 0 then (rigidL l p.toNat, 0) else ([], scode p l [])
theorem fixK_step {l : List Bnd} {P p q : Nat} (h : q < p) : fixK l P p (p - q) q = if dist l P q p = -dist l P p q then q else fixK l P p (p - (q + 1)) (q + 1) := by
  obtain ⟨d, hd⟩ : ∃ d, p - q = d + 1 := ⟨p - q - 1, by omega⟩
  rw [hd, show p - (q + 1) = d from by omega]
  rfl

/-- A list of numbers, an error. -/
def RetL (V : List Int × Int) (w : World) (e : Ending) (w' : World) : Prop :=
  ∃ A n c, e = .returned (.tuple #[.slice A n c, .int .i64 V.2]) ∧ OwnI w' w.heap.size A n c V.1 ∧ Below w.heap.size w w'

def fFrom (l : List Bnd) (P k q : Nat) : List Int := if q < k then setL l P (startL q) else zeros
theorem fFrom_length (l : List Bnd) (P k q : Nat) : (fFrom l P k q).length = 60 := by unfold fFrom; split; exact setL_length (startL_length q); rfl
theorem fFrom_set (l : List Bnd) (P : Nat) {k : Nat} (hk : k < 60) : (rowsF (fFrom l P k)).set k (setL l P (startL k)) = rowsF (fFrom l P (k + 1)) := rowsF_set _ _ hk (by unfold fFrom; rw [if_pos (by omega)]) (fun q _ hq => by
  unfold fFrom
  by_cases h : q < k
  · rw [if_pos h, if_pos (by omega)]
  · rw [if_neg h, if_neg (by omega)])
/-- What is in the list when k points are done, and the next one stands at q. -/
def firstL (l : List Bnd) (P k q : Nat) : List Int := (List.range P).map (fun p => if p < k then (rigidP l P p : Int) else if p = k then (q : Int) else 0)
theorem firstL_length (l : List Bnd) (P k q : Nat) : (firstL l P k q).length = P := by simp [firstL]
theorem firstL_zero (l : List Bnd) (P : Nat) : List.replicate P (0 : Int) = firstL l P 0 0 := by
  unfold firstL
  apply List.ext_getElem?
  intro i
  rw [List.getElem?_replicate, List.getElem?_map]
  by_cases hi : i < P
  · rw [if_pos hi, List.getElem?_range hi]; simp
  · rw [if_neg hi, List.getElem?_eq_none (by simpa using hi)]; rfl
theorem firstL_at (l : List Bnd) {P k : Nat} (q : Nat) (hk : k < P) : at_ (firstL l P k q) k = q := by
  unfold firstL at_
  rw [List.getD_eq_getElem?_getD, List.getElem?_map, List.getElem?_range hk]
  simp
theorem firstL_set (l : List Bnd) {P k : Nat} (q r : Nat) (hk : k < P) : (firstL l P k q).set k (r : Int) = firstL l P k r := by
  apply List.ext_getElem?
  intro i
  rw [List.getElem?_set, firstL_length]
  unfold firstL
  rw [List.getElem?_map, List.getElem?_map]
  by_cases hi : i < P
  · rw [List.getElem?_range hi]
    by_cases e : k = i
    · subst e; rw [if_pos rfl, if_pos hk]; simp
    · rw [if_neg e]; simp [show ¬ i = k from fun h => e h.symm]
  · rw [List.getElem?_eq_none (by simpa using hi)]
    by_cases e : k = i
    · omega
    · rw [if_neg e]; rfl
theorem firstL_next (l : List Bnd) (P k : Nat) : firstL l P k (rigidP l P k) = firstL l P (k + 1) 0 := by
  unfold firstL
  refine List.map_congr_left (fun i _ => ?_)
  by_cases h : i < k
  · rw [if_pos h, if_pos (by omega)]
  · rw [if_neg h]
    by_cases e : i = k
    · subst e; rw [if_pos rfl, if_pos (by omega)]
    · rw [if_neg e, if_neg (by omega)]
      by_cases e2 : i = k + 1
      · rw [if_pos e2]; rfl
      · rw [if_neg e2]
theorem firstL_all (l : List Bnd) (P : Nat) : firstL l P P 0 = rigidL l P := by
  unfold firstL rigidL
  exact List.map_congr_left (fun i hi => by rw [if_pos (List.mem_range.1 hi)])

set_option maxRecDepth 100000 in
set_option maxHeartbeats 4000000 in
theorem Rigid_any (p : Int) (A : Option Addr) (n c : Nat) (l : List Bnd) (w : World) (hr : RdB w A n c l) (hn : n ≤ maxLen) :
    Calls Try.prog 48 #[.agg #[.int .i64 p, .slice A n c]] w (RetL (rigidV p l) w) := by
  have hB : Below w.heap.size w (w.alloc (.cells #[.int .i64 p, .slice A n c] 24)) := (Below.refl _ w).alloc (Nat.le_refl _) _
  have hc := solvable_any p A none n c 0 0 l [] _ (hr.below hB) hn (RdI.nil_ _) (by omega)
  have HC := Lib.hid hc; have HR := Lib.hid hr; clear hc hr
  unfold rigidV
  by_cases hs : scode p l [] = 0
  · obtain ⟨hk, -, hsol⟩ := scode_ok hs
    obtain ⟨hp1, hp2, hlen, -⟩ := chk_ok hk
    have hok := okB_of hk
    rw [if_pos hs]
    rw [hs, sysR_yes] at HC
    clear hs
    have hself := fun a ha => dist_self (a := a) hk hsol ha
    clear hk hsol
    obtain ⟨p, rfl⟩ := Int.eq_ofNat_of_zero_le (show 0 ≤ p by omega)
    simp only [Int.toNat_natCast] at hself ⊢
    have hn2 : n ≤ 402 := by have := HR.out.len; omega
    have hp60 : p ≤ 60 := by omega
    have hfr := fun a ha w' hw' => from_any p a A n c l hp60 ha hn2 hok w' (HR.out.below hw')
    have hbd := fun (a b : Nat) (ha : a < 60) (hb : b < 60) => dist_bd (l := l) (p := p) (a := a) (b := b) hok (by omega) ha hb
    have h0 : zeroRows = rowsF (fFrom l p 0) := by rw [zeroRows_F]; exact rowsF_congr (fun q _ => by simp [fFrom])
    have hz := zero_rows.1
    rw [h0] at hz
    have HZ := Lib.hid hz; have HF := Lib.hid hfr; have HBD := Lib.hid hbd; have HSELF := Lib.hid hself; clear hz h0 hfr hbd hself hok
    go_enter Try.func48, Try.ntmps48
    go_wp2_with fail
    refine HC.out.mono ?_
    rintro e w1 ⟨rfl, hb1⟩
    have hB1 := hB.trans (hb1.mono hB.size)
    have B0 := Lib.hid ((Blk.new w1 70 #[.int .i64 (p : Int), .slice A n c]).alloc (.cells (arr (flat (rowsF (fFrom l p 0)))) 102))
    have b1 := Blk.new (w1.alloc (.cells #[.int .i64 (p : Int), .slice A n c] 70)) 102 (arr (flat (rowsF (fFrom l p 0))))
    simp only [World.size_alloc] at b1
    have B1 := Lib.hid b1; clear b1
    have hB2 := (hB1.alloc hB1.size (.cells #[.int .i64 (p : Int), .slice A n c] 70))
    have hB3 := (hB2.alloc hB2.size (.cells (arr (flat (rowsF (fFrom l p 0)))) 102))
    have hw1 := hB1.size
    clear hB2
    go_wp2_with (first | (refine wpList_alloc_row rfl 102 rfl (arr (flat (rowsF (fFrom l p 0)))) HZ.out ?_; simp only [World.size_alloc]))
    have k0 : ((w1.alloc (.cells #[.int .i64 (p : Int), .slice A n c] 70)).alloc (.cells (arr (flat (rowsF (fFrom l p 0)))) 102)).cell? ⟨w1.heap.size, 0, none⟩ = some (.int .i64 (p : Int)) := B0.out.cell 0
    go_wp2
    go_loopw [20] (fun i wr => ∃ k : Nat, k ≤ p ∧ i = .int .i64 k ∧ Blk wr w1.heap.size 70 #[.int .i64 (p : Int), .slice A n c] ∧ Blk wr (w1.heap.size + 1) 102 (arr (flat (rowsF (fFrom l p k)))) ∧ Below w.heap.size w wr) (fun i _ => p - (intOf i).toNat)
    case atStart => exact ⟨0, Nat.zero_le _, rfl, B0.out, B1.out, hB3⟩
    case round =>
      obtain ⟨k, hk, rfl, c0, c1, hbr⟩ := hrel
      have C0 := Lib.hid c0; have C1 := Lib.hid c1; clear c0 c1
      have k0 : wr.cell? ⟨w1.heap.size, 0, none⟩ = some (.int .i64 (p : Int)) := C0.out.cell 0
      have k1 : wr.cell? ⟨w1.heap.size, 1, none⟩ = some (.slice A n c) := C0.out.cell 1
      by_cases hlt : k < p
      · have hlt' : (k : Int) < p := by omega
        have hk60 : k < 60 := by omega
        have hk60' : (k : Int) < 60 := by omega
        go_wp2_with fail
        refine (HF.out k hk60 wr hbr).mono ?_
        rintro e w2 ⟨rfl, hb2⟩
        have D1 := Lib.hid (C1.out.keep hb2)
        have hsl := setL_length (l := l) (p := p) (startL_length k)
        go_wp2_with (refine wpList_store_mid_arr rfl 79 (.tmp 27) (.tmp 26) rfl (w1.heap.size + 1) (k * 60) (r := setL l p (startL k)) hsl rfl rfl (Blk.there D1.out (rowsF_sixty (fun q _ => fFrom_length l p k q)) (by rw [rowsF_length]; exact hk60)) (size_sums hsl) ?_)
        go_roundw
        case rel => exact ⟨k + 1, by omega, by go_num, (C0.out.keep hb2).farRow (by omega) _ _, by rw [← fFrom_set l p hk60]; exact D1.out.rowSet (rowsF_sixty (fun q _ => fFrom_length l p k q)) (by rw [rowsF_length]; exact hk60) hsl, below_setCells (by omega) _ _ _ (hbr.trans (hb2.mono hbr.size))⟩
        case measure => simp [intOf]; omega
      · obtain rfl : k = p := by omega
        obtain ⟨P, hPk⟩ : ∃ P, P = k := ⟨_, rfl⟩
        subst hPk
        obtain ⟨wP, hwP⟩ : ∃ wP, wP = wr := ⟨_, rfl⟩
        subst hwP
        have hl1 := C1.out.lt
        go_wp2_with (at_make; refine wpList_make_ints rfl _ _ rfl _ _ P rfl rfl (by first | omega | (simp; done) | (simp; omega)) (by first | omega | (simp; done) | (simp; omega)) (by omega) ?_)
        have l2 := Blk.new wP 3 (arr (List.replicate P 0))
        rw [firstL_zero l P] at l2
        rw [firstL_zero l P]
        have L2 := Lib.hid l2; clear l2
        have R2 := Lib.hid (C1.out.alloc (.cells (arr (firstL l P 0 0)) 3))
        have BE2 := Lib.hid (hbr.alloc hbr.size (.cells (arr (firstL l P 0 0)) 3))
        have hwb := hbr.size
        clear k0 k1
        go_loopw [34] (fun i wr => ∃ k : Nat, k ≤ P ∧ i = .int .i64 k ∧ Blk wr wP.heap.size 3 (arr (firstL l P k 0)) ∧ Blk wr (w1.heap.size + 1) 102 (arr (flat (rowsF (fFrom l P P)))) ∧ Below w.heap.size w wr) (fun i _ => P - (intOf i).toNat)
        case atStart => exact ⟨0, Nat.zero_le _, rfl, L2.out, R2.out, BE2.out⟩
        case round =>
          obtain ⟨k, hk, rfl, l3, r3, hb3⟩ := hrel
          by_cases hlt : k < P
          · have hlt' : (k : Int) < P := by omega
            have L3 := Lib.hid l3; have R3 := Lib.hid r3; have BE3 := Lib.hid hb3; clear l3 r3 hb3
            go_wp2
            go_loopw [] (fun wr => ∃ q : Nat, q ≤ k ∧ fixK l P k (k - q) q = rigidP l P k ∧ Blk wr wP.heap.size 3 (arr (firstL l P k q)) ∧ Blk wr (w1.heap.size + 1) 102 (arr (flat (rowsF (fFrom l P P)))) ∧ Below w.heap.size w wr) (fun wr => match wr.cell? ⟨wP.heap.size, k, none⟩ with | some (.int _ q) => k - q.toNat | _ => 0)
            case atStart => exact ⟨0, Nat.zero_le _, rfl, L3.out, R3.out, BE3.out⟩
            case round =>
              obtain ⟨q, hq, hfix, l4, r4, hb4⟩ := hrel
              have hk60 : k < 60 := by omega
              have hq60 : q < 60 := by omega
              have hk60' : (k : Int) < 60 := by omega
              have hq60' : (q : Int) < 60 := by omega
              have g1 : (rowsF (fFrom l P P))[q]? = some (setL l P (startL q)) := by rw [rowsF_get _ hq60]; unfold fFrom; rw [if_pos (by omega)]
              have g2 : (rowsF (fFrom l P P))[k]? = some (setL l P (startL k)) := by rw [rowsF_get _ hk60]; unfold fFrom; rw [if_pos (by omega)]
              have u1 : wr.cell? ⟨w1.heap.size + 1, q * 60 + k, none⟩ = some (.int .i64 (dist l P q k)) := Blk.at r4 (rowsF_sixty (fun q _ => fFrom_length l P P q)) g1 hk60
              have u2 : wr.cell? ⟨w1.heap.size + 1, k * 60 + q, none⟩ = some (.int .i64 (dist l P k q)) := Blk.at r4 (rowsF_sixty (fun q _ => fFrom_length l P P q)) g2 hq60
              have u3 : wr.cell? ⟨wP.heap.size, k, none⟩ = some (.int .i64 (q : Int)) := by rw [l4.cell, arr_get _ _ (by rw [firstL_length]; exact hlt), firstL_at l q hlt]
              have u4 : wr.frozen? ⟨wP.heap.size, k, none⟩ = false := l4.frozen k
              have hz1 := l4.lt; have hz2 := r4.lt
              have hstep := fun h => fixK_step (l := l) (P := P) (p := k) (q := q) h
              have hse := HSELF.out k hk60
              have hbq := HBD.out k q hk60 hq60
              have hne : q = k → dist l P q k = -dist l P k q := fun e => by rw [e, hse]; rfl
              have hfx := fun w => isFixed_any (dist l P q k) (dist l P k q) w (by unfold Inf at hbq; omega)
              have L4 := Lib.hid l4; have R4 := Lib.hid r4; have BE4 := Lib.hid hb4; have HFI := Lib.hid hfix; have HST := Lib.hid hstep; have HNE := Lib.hid hne; clear l4 r4 hb4 hfix hstep hne g1 g2 hse hbq
              generalize dist l P q k = x at *
              generalize dist l P k q = y at *
              by_cases he : x = -y
              · have hb : (x == -y) = true := by simpa using he
                simp only [hb] at hfx
                have HFX := Lib.hid hfx
                have hend : rigidP l P k = q := by
                  rw [← HFI.out]
                  rcases Nat.lt_or_ge q k with h | h
                  · rw [HST.out h, if_pos he]
                  · obtain rfl : q = k := by omega
                    rw [Nat.sub_self]; rfl
                have HEND := Lib.hid hend
                clear hend hfx hb he
                go_wp2
                go_quiet ((go_at_call 82; refine Calls.quiet_of_same ((HFX.out _).mono (fun _ _ h => ⟨h.1, h.2.symm⟩))))
                have h5 := L4.out
                rw [← HEND.out, firstL_next] at h5
                go_wp2
                go_roundw
                case rel => exact ⟨k + 1, by omega, by go_num, h5, R4.out, bdN BE4.out _⟩
                case measure => simp [intOf]; omega
              · have hb : (x == -y) = false := by simpa using he
                simp only [hb] at hfx
                have HFX := Lib.hid hfx
                have hlq : q < k := by
                  rcases Nat.lt_or_ge q k with h | h
                  · exact h
                  · exact absurd (HNE.out (by omega)) he
                have hgo : fixK l P k (k - (q + 1)) (q + 1) = rigidP l P k := by rw [← HFI.out, HST.out hlq, if_neg he]
                have HGO := Lib.hid hgo
                clear hgo hfx hb he
                have hwr : IntKind.i64.wrap ((q : Int) + 1) = (q : Int) + 1 := IntWalk.i64_in _ (by omega)
                have hset := L4.out.set_ k (.int .i64 ((q + 1 : Nat) : Int))
                rw [arr_set, firstL_set l q (q + 1) hlt] at hset
                have HSET := Lib.hid hset; clear hset
                go_wp2
                go_quiet ((go_at_call 82; refine Calls.quiet_of_same ((HFX.out _).mono (fun _ _ h => ⟨h.1, h.2.symm⟩))))
                go_wp2
                go_roundw
                case rel => exact ⟨q + 1, hlq, HGO.out, HSET.out, R4.out.far (p := ⟨wP.heap.size, k, none⟩) (by simp; omega) _, (bdN BE4.out _).setCell (p := ⟨wP.heap.size, k, none⟩) (by simp; omega) _⟩
                case measure =>
                  have m1 : ((wr.drewN nq).setCell ⟨wP.heap.size, k, none⟩ (.int .i64 ((q : Int) + 1))).cell? ⟨wP.heap.size, k, none⟩ = some (.int .i64 ((q : Int) + 1)) := World.cell?_setCell_same' _ _ _ (by rw [show (wr.drewN nq).cell? ⟨wP.heap.size, k, none⟩ = wr.cell? ⟨wP.heap.size, k, none⟩ from rfl, u3]; rfl)
                  rw [m1, u3]
                  show k - ((q : Int) + 1).toNat < k - ((q : Int)).toNat
                  omega
          · obtain rfl : k = P := by omega
            rw [firstL_all] at l3
            have L3 := Lib.hid l3; clear l3
            go_wp2
            go_ret2
            exact ⟨_, _, _, rfl, own_of_blk L3.out (by omega) (by simp [rigidL]) (by unfold maxLen; omega), hb3⟩
  · rw [if_neg hs]
    generalize scode p l [] = q at *
    rw [sysR_no hs] at HC
    have hne : (q != 0) = true := by simpa using hs
    clear hs
    go_enter Try.func48, Try.ntmps48
    go_wp2_with fail
    refine HC.out.mono ?_
    rintro e w1 ⟨rfl, hb1⟩
    have hB1 := hB.trans (hb1.mono hB.size)
    go_wp2
    go_ret2
    exact ⟨none, 0, 0, rfl, OwnI.nil_ _ _, (by have hsz_ := Below.size hB1; repeat' (first | with_reducible exact hB1 | with_reducible exact Below.refl _ _ | with_reducible refine Below.alloc ?_ ?_ _ | with_reducible refine Below.setCell ?_ ?_ _ | with_reducible refine Below.drew ?_ | with_reducible refine below_setRow ?_ ?_ _ | omega | (simp; done) | (simp; omega)))⟩
end Go.Proofs.Ythlnialipjihdaa
