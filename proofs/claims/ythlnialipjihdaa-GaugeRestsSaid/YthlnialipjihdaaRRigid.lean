/- The reference's Rigid. -/
import Derived.Test.YthlnialipjihdaaREnds
import Derived.Test.YthlnialipjihdaaRigid
set_option linter.unusedSimpArgs false
set_option linter.unusedVariables false
namespace Go.Proofs.Ythlnialipjihdaa
open Go.RowKit

def rigidPre (l : List Bnd) (p q : Nat) : List Int := (List.range q).map (fun v => (rigidP l p v : Int))
theorem rigidPre_succ (l : List Bnd) (p q : Nat) : rigidPre l p (q + 1) = rigidPre l p q ++ [(rigidP l p q : Int)] := by
  unfold rigidPre
  rw [List.range_succ, List.map_append]
  rfl
theorem scode_zero {P : Int} {l : List Bnd} : scode P l [0, 0] = scode P l [] := by
  have : gcode P l [0, 0] = gcode P l [] := by
    unfold gcode
    by_cases hk : chk P l = 0
    · obtain ⟨hp1, -⟩ := chk_ok hk
      rw [if_pos hk, if_pos hk, if_pos (by simp [isPt]; omega), if_pos (by simp)]
    · rw [if_neg hk, if_neg hk]
  unfold scode
  rw [this]

set_option maxRecDepth 100000 in
set_option maxHeartbeats 8000000 in
theorem rRig_err (P : Int) (A : Option Addr) (n k : Nat) (l : List Bnd) (w : World) (hr : RdB w A n k l) (hn : n ≤ maxLen) (q : Int) (hq : (q != 0) = true) (E0 : Hid (tup (greatT P l 0 0) = .tuple #[.int .i64 0, .bool false, .int .i64 q])) :
    Calls Try.prog 49 #[.agg #[.int .i64 P, .slice A n k]] w (RetL ([], q) w) := by
  go_enter Try.func49, Try.ntmps49
  have bel_1 := Lib.hid (show Below w.heap.size w w from Below.refl _ w)
  have rd_2 := Lib.hid (hr)
  clear hr
  have bel_3 := Lib.hid (Below.alloc bel_1.out (bel_1.out.size) (.cells #[.int .i64 P, .slice A n k] 24))
  clear bel_1
  have rd_4 := Lib.hid (RdB.alloc rd_2.out (.cells #[.int .i64 P, .slice A n k] 24))
  clear rd_2
  have srd_5 := Lib.hid (Blk.new w 24 #[.int .i64 P, .slice A n k])
  have hc := rGreatest_any P 0 0 A n k l _ rd_4.out hn
  rw [E0.out] at hc
  try dsimp only at hc
  have HC := Lib.hid hc; clear hc
  go_wp2_with fail
  refine HC.out.mono ?_
  rintro e w_6 ⟨rfl, hb⟩
  clear HC
  have bel_7 := Lib.hid (Below.trans bel_3.out (Below.mono hb (bel_3.out.size)))
  clear bel_3
  have rd_8 := Lib.hid (RdB.below rd_4.out hb)
  clear rd_4
  have srd_9 := Lib.hid (Blk.keep srd_5.out hb)
  clear srd_5
  clear hb
  have z_10 : (w_6).cell? ⟨w.heap.size, 0, none⟩ = some (.int .i64 P) := Blk.cell srd_9.out 0
  have z_11 : (w_6).cell? ⟨w.heap.size, 1, none⟩ = some (.slice A n k) := Blk.cell srd_9.out 1
  go_wp2
  go_ret2
  exact ⟨none, 0, 0, rfl, OwnI.nil_ _ _, bel_7.out⟩

set_option maxRecDepth 100000 in
set_option maxHeartbeats 8000000 in
theorem rRig_ok (p : Nat) (A : Option Addr) (n k : Nat) (l : List Bnd) (w : World) (hr : RdB w A n k l) (hn : n ≤ maxLen) (hn4 : n ≤ 402) (hp1 : 1 ≤ p) (hp : p ≤ 60) (hk : chk p l = 0) (hS : (settle l p zeros).isSome = true) (X : Int) (T : Bool) (E0 : Hid (tup (greatT (p : Int) l 0 0) = .tuple #[.int .i64 X, .bool T, .int .i64 0])) :
    Calls Try.prog 49 #[.agg #[.int .i64 (p : Int), .slice A n k]] w (RetL (rigidL l p, 0) w) := by
  obtain ⟨i0, hi0, hz0, hz1, hz2⟩ := info_parts infoI
  have HI := Lib.hid hi0; have HZ0 := Lib.hid hz0; have HZ1 := Lib.hid hz1; have HZ2 := Lib.hid hz2; clear hi0 hz0 hz1 hz2
  have HR := Lib.hid hr
  go_enter Try.func49, Try.ntmps49
  have bel_1 := Lib.hid (show Below w.heap.size w w from Below.refl _ w)
  have rd_2 := Lib.hid (hr)
  clear hr
  have bel_3 := Lib.hid (Below.alloc bel_1.out (bel_1.out.size) (.cells #[.int .i64 (p : Int), .slice A n k] 24))
  clear bel_1
  have rd_4 := Lib.hid (RdB.alloc rd_2.out (.cells #[.int .i64 (p : Int), .slice A n k] 24))
  clear rd_2
  have srd_5 := Lib.hid (Blk.new w 24 #[.int .i64 (p : Int), .slice A n k])
  have hc := rGreatest_any (p : Int) 0 0 A n k l _ rd_4.out hn
  rw [E0.out] at hc
  try dsimp only at hc
  have HC := Lib.hid hc; clear hc
  go_wp2_with fail
  refine HC.out.mono ?_
  rintro e w_6 ⟨rfl, hb⟩
  clear HC
  have bel_7 := Lib.hid (Below.trans bel_3.out (Below.mono hb (bel_3.out.size)))
  clear bel_3
  have rd_8 := Lib.hid (RdB.below rd_4.out hb)
  clear rd_4
  have srd_9 := Lib.hid (Blk.keep srd_5.out hb)
  clear srd_5
  clear hb
  have z_10 : (w_6).cell? ⟨w.heap.size, 0, none⟩ = some (.int .i64 (p : Int)) := Blk.cell srd_9.out 0
  have z_11 : (w_6).cell? ⟨w.heap.size, 1, none⟩ = some (.slice A n k) := Blk.cell srd_9.out 1
  clear z_10 z_11
  go_wp2
  go_loopw [8, 7] (fun iv ov wr => ∃ q : Nat, q ≤ p ∧ iv = .int .i64 q ∧ wr.ownsRow (w.heap.size + 1) 3 1 ov q ((rigidPre l p q).map (Value.int .i64)) ∧ Blk wr w.heap.size 24 #[.int .i64 (p : Int), .slice A n k] ∧ Below w.heap.size w wr) (fun iv _ _ => p - (intOf iv).toNat)
  case atStart => exact ⟨0, Nat.zero_le _, rfl, World.ownsRow_nil _ _ _ _, srd_9.out, bel_7.out⟩
  case round =>
    clear srd_9 bel_7 rd_8
    obtain ⟨q, hq, rfl, hown, hbx, hbe⟩ := hrel
    have KO := Lib.hid hown; have KB := Lib.hid hbx; have KE := Lib.hid hbe; clear hown hbx hbe
    have y0 : wr.cell? ⟨w.heap.size, 0, none⟩ = some (.int .i64 (p : Int)) := Blk.cell KB.out 0
    by_cases hqp : q < p
    · have hqp' : (q : Int) < p := by omega
      go_wp2
      clear y0
      go_loopw [10, 9] (fun kv fv wr => ∃ j f : Nat, j ≤ q ∧ kv = .int .i64 ((j : Int) - 1) ∧ fv = .int .i64 f ∧ f = fixK l p q (q - j) j ∧ wr.ownsRow (w.heap.size + 1) 3 1 u7 q ((rigidPre l p q).map (Value.int .i64)) ∧ Blk wr w.heap.size 24 #[.int .i64 (p : Int), .slice A n k] ∧ Below w.heap.size w wr) (fun kv _ _ => (intOf kv + 1).toNat)
      case atStart => exact ⟨q, q, Nat.le_refl _, rfl, rfl, by rw [Nat.sub_self]; rfl, KO.out, KB.out, KE.out⟩
      case round =>
        clear KO KB KE
        obtain ⟨j, f, hj, hkv, rfl, hf, hown, hbx, hbe⟩ := hrel
        have KO := Lib.hid hown; have KB := Lib.hid hbx; have KE := Lib.hid hbe; have HF := Lib.hid hf; clear hown hbx hbe hf
        have hlt0 := KB.out.lt
        rcases j with _ | v
        · obtain rfl : u10 = .int .i64 (-1) := hkv
          have hfr : f = rigidP l p q := HF.out
          have hrep : (rigidPre l p (q + 1)).map (Value.int .i64) = (rigidPre l p q).map (Value.int .i64) ++ [.int .i64 (f : Int)] := by rw [rigidPre_succ, List.map_append, ← hfr]; rfl
          have HREP := Lib.hid hrep; clear hrep hfr
          have OW := Lib.hid (World.ownsRow.alloc KO.out (.cells #[.int .i64 (f : Int)] 3))
          have N1 := Lib.hid (Blk.new wr 3 #[.int .i64 (f : Int)])
          have hbb := Below.alloc KE.out KE.out.size (.cells #[.int .i64 (f : Int)] 3)
          have HBB := Lib.hid hbb; clear hbb
          go_wp2_with (at_builtin; refine wpList_append_own _ rfl (.tmp 44) (.tmp 46) 33 rfl (w.heap.size + 1) 3 i0 _ 1 8 Try.underlying33 HI.out HZ0.out HZ1.out HZ2.out rfl (by omega) u7 _ _ rfl OW.out ⟨wr.heap.size, 0, none⟩ 1 1 [.int .i64 (f : Int)] rfl rfl (fun j u hu => by rw [Addr.add_lit, Nat.zero_add, N1.out.cell]; simpa using hu) (by simp [Value.oneCell']) (by unfold maxLen; omega) (by omega) (by simp; omega) ?_; intro v' w4 hown4 hg4 _; have HO4 := Lib.hid hown4; have HG4 := Lib.hid (show World.grownBy _ w4 u7.ownBlock from hg4); clear hown4 hg4)
          go_roundw
          case rel => exact ⟨q + 1, by omega, by go_num, (by rw [HREP.out]; exact HO4.out), blk_grown (KB.out.alloc _) HG4.out (fun e => by have := (OW.out.lt _ e).1; omega), HBB.out.grown HG4.out HBB.out.size (fun q e => by have := (OW.out.lt q e).1; omega)⟩
          case measure => (simp [intOf]; try omega)
        · obtain rfl : u10 = .int .i64 (v : Int) := by rw [hkv]; congr 1; omega
          clear hkv
          have hv0 : (0 : Int) ≤ v := by omega
          have d0 : decide ((0 : Int) ≤ v) = true := decide_eq_true hv0
          have hstep := fixK_step (l := l) (P := p) (p := q) (q := v) (by omega)
          rw [← HF.out] at hstep
          have hc := rfixed_any p v q A n k l wr (RdB.below HR.out KE.out) hn hn4 hp1 hp (by omega) hqp hk hS
          unfold fixT at hc
          have y0 : wr.cell? ⟨w.heap.size, 0, none⟩ = some (.int .i64 (p : Int)) := Blk.cell KB.out 0
          have y1 : wr.cell? ⟨w.heap.size, 1, none⟩ = some (.slice A n k) := Blk.cell KB.out 1
          by_cases hd : dist l p v q = -dist l p q v
          · rw [if_pos hd] at hc hstep
            have HC := Lib.hid hc; have HST := Lib.hid hstep; clear hc hstep hd
            generalize dist l p v q = dd at *
            go_wp2_with fail
            refine HC.out.mono ?_
            rintro e w5 ⟨rfl, hb⟩
            clear HC y0 y1
            go_wp2
            go_roundw
            case rel => exact ⟨v, v, by omega, by go_num, rfl, HST.out.symm, owns_below KO.out hb, Blk.keep KB.out hb, KE.out.trans (hb.mono KE.out.size)⟩
            case measure => (simp [intOf]; try omega)
          · rw [if_neg hd] at hc hstep
            have HC := Lib.hid hc; have HST := Lib.hid hstep; clear hc hstep hd
            go_wp2_with fail
            refine HC.out.mono ?_
            rintro e w5 ⟨rfl, hb⟩
            clear HC y0 y1
            go_wp2
            go_roundw
            case rel => exact ⟨v, f, by omega, by go_num, rfl, HST.out.symm, owns_below KO.out hb, Blk.keep KB.out hb, KE.out.trans (hb.mono KE.out.size)⟩
            case measure => (simp [intOf]; try omega)
    · obtain rfl : q = p := by omega
      have hRL : rigidPre l q q = rigidL l q := rfl
      have ho := KO.out
      rw [hRL] at ho
      obtain ⟨A5, c5, hv5, -⟩ := own_form ho
      subst hv5
      have HO := Lib.hid (owns_base ho (Nat.le_succ _)); clear ho hRL KO
      go_wp2
      go_ret2
      exact ⟨A5, _, c5, rfl, HO.out, KE.out⟩

theorem rRigid_any (P : Int) (A : Option Addr) (n k : Nat) (l : List Bnd) (w : World) (hr : RdB w A n k l) (hn : n ≤ maxLen) : Calls Try.prog 49 #[.agg #[.int .i64 P, .slice A n k]] w (RetL (rigidV P l) w) := by
  unfold rigidV
  rw [← scode_zero]
  by_cases hs : scode P l [0, 0] = 0
  · obtain ⟨hk, -, hS⟩ := scode_ok hs
    obtain ⟨hp1, hp2, hlen, -⟩ := chk_ok hk
    have hn4 : n ≤ 402 := by have := hr.len; omega
    obtain ⟨p, rfl⟩ := Int.eq_ofNat_of_zero_le (show 0 ≤ P by omega)
    rw [Int.toNat_natCast] at hS
    rw [if_pos hs, Int.toNat_natCast]
    exact rRig_ok p A n k l w hr hn hn4 (by omega) (by omega) hk hS _ _ (Lib.hid (show tup (greatT (p : Int) l 0 0) = .tuple #[.int .i64 (fin (dist l (p : Int).toNat (0 : Int).toNat (0 : Int).toNat)), .bool (isF (dist l (p : Int).toNat (0 : Int).toNat (0 : Int).toNat)), .int .i64 0] from by unfold tup greatT; simp only [if_pos hs]))
  · rw [if_neg hs]
    exact rRig_err P A n k l w hr hn (scode P l [0, 0]) (by simpa using hs) (Lib.hid (show tup (greatT P l 0 0) = .tuple #[.int .i64 0, .bool false, .int .i64 (scode P l [0, 0])] from by unfold tup greatT; simp only [if_neg hs]))
end Go.Proofs.Ythlnialipjihdaa
