/- The reference's Doubt and Rests. -/
import Derived.Test.YthlnialipjihdaaRAll
import Derived.Test.YthlnialipjihdaaREnds
import Derived.Test.YthlnialipjihdaaRst
set_option linter.unusedSimpArgs false
set_option linter.unusedVariables false
namespace Go.Proofs.Ythlnialipjihdaa
open Go.RowKit

def doubtR (p : Int) (l : List Bnd) : List Int × Bool × Int :=
  if chk p l = 0 then (if (settle l p.toNat zeros).isSome = true then ([], false, 0) else (lessLoop (holdsD p.toNat) l (allL l).length (allL l), true, 0)) else ([], false, chk p l)
/-- Is the end in hand still that one? -/
def holdsG (p x y : Nat) (N : Int) (l : List Bnd) : Bool := isF (dist l p x y) && decide (fin (dist l p x y) = N)
def restsR (p : Int) (l : List Bnd) (a b : Int) (u : Bool) : List Int × Int :=
  if scode p l [a, b] = 0 then (if isF (dist l p.toNat (if u then a else b).toNat (if u then b else a).toNat) = true then (lessLoop (holdsG p.toNat (if u then a else b).toNat (if u then b else a).toNat (fin (dist l p.toNat (if u then a else b).toNat (if u then b else a).toNat))) l (allL l).length (allL l), 0) else ([], 0)) else ([], scode p l [a, b])

set_option maxRecDepth 100000 in
set_option maxHeartbeats 8000000 in
theorem rD_err (P : Int) (A : Option Addr) (n k : Nat) (l : List Bnd) (w : World) (hr : RdB w A n k l) (hn : n ≤ maxLen) (q : Int) (hq : (q != 0) = true) (E0 : Hid (chk P l = q)) :
    Calls Try.prog 47 #[.agg #[.int .i64 P, .slice A n k]] w (RetI ([], false, q) w) := by
  go_enter Try.func47, Try.ntmps47
  have bel_1 := Lib.hid (show Below w.heap.size w w from Below.refl _ w)
  have rd_2 := Lib.hid (hr)
  clear hr
  have bel_3 := Lib.hid (Below.alloc bel_1.out (bel_1.out.size) (.cells #[.int .i64 P, .slice A n k] 24))
  clear bel_1
  have rd_4 := Lib.hid (RdB.alloc rd_2.out (.cells #[.int .i64 P, .slice A n k] 24))
  clear rd_2
  have srd_5 := Lib.hid (Blk.new w 24 #[.int .i64 P, .slice A n k])
  have hc := rCheckSystem_any P A n k l _ rd_4.out hn
  rw [E0.out] at hc
  try dsimp only at hc
  have HC := Lib.hid hc; clear hc
  go_wp2_with fail
  refine HC.out.mono ?_
  rintro e w_6 ⟨rfl, hb⟩
  clear HC
  have bel_7 := Lib.hid (Below.trans bel_3.out (Below.mono hb (bel_3.out.size)))
  clear bel_3
  have rd_8 := Lib.hid (RdB.below rd_4.out hb)
  clear rd_4
  have srd_9 := Lib.hid (Blk.keep srd_5.out hb)
  clear srd_5
  clear hb
  have z_10 : (w_6).cell? ⟨w.heap.size, 0, none⟩ = some (.int .i64 P) := Blk.cell srd_9.out 0
  have z_11 : (w_6).cell? ⟨w.heap.size, 1, none⟩ = some (.slice A n k) := Blk.cell srd_9.out 1
  go_wp2
  go_ret3
  exact ⟨none, 0, 0, rfl, OwnI.nil_ _ _, bel_7.out⟩

set_option maxRecDepth 100000 in
set_option maxHeartbeats 8000000 in
theorem rD_sol (p : Nat) (A : Option Addr) (n k : Nat) (l : List Bnd) (w : World) (hr : RdB w A n k l) (hn : n ≤ maxLen) (hn4 : n ≤ 400) (hp1 : 1 ≤ p) (hp : p ≤ 60) (HE : Hid (OkP p l)) (E0 : Hid (chk p l = 0)) (hS : (settle l p zeros).isSome = true) :
    Calls Try.prog 47 #[.agg #[.int .i64 (p : Int), .slice A n k]] w (RetI ([], false, 0) w) := by
  go_enter Try.func47, Try.ntmps47
  have bel_1 := Lib.hid (show Below w.heap.size w w from Below.refl _ w)
  have rd_2 := Lib.hid (hr)
  clear hr
  have bel_3 := Lib.hid (Below.alloc bel_1.out (bel_1.out.size) (.cells #[.int .i64 (p : Int), .slice A n k] 24))
  clear bel_1
  have rd_4 := Lib.hid (RdB.alloc rd_2.out (.cells #[.int .i64 (p : Int), .slice A n k] 24))
  clear rd_2
  have srd_5 := Lib.hid (Blk.new w 24 #[.int .i64 (p : Int), .slice A n k])
  have hc := rCheckSystem_any (p : Int) A n k l _ rd_4.out hn
  rw [E0.out] at hc
  try dsimp only at hc
  have HC := Lib.hid hc; clear hc
  go_wp2_with fail
  refine HC.out.mono ?_
  rintro e w_6 ⟨rfl, hb⟩
  clear HC
  have bel_7 := Lib.hid (Below.trans bel_3.out (Below.mono hb (bel_3.out.size)))
  clear bel_3
  have rd_8 := Lib.hid (RdB.below rd_4.out hb)
  clear rd_4
  have srd_9 := Lib.hid (Blk.keep srd_5.out hb)
  clear srd_5
  clear hb
  have z_10 : (w_6).cell? ⟨w.heap.size, 0, none⟩ = some (.int .i64 (p : Int)) := Blk.cell srd_9.out 0
  have z_11 : (w_6).cell? ⟨w.heap.size, 1, none⟩ = some (.slice A n k) := Blk.cell srd_9.out 1
  have hc := rsolve_any p A n k l _ rd_8.out (by omega) hp1 hp HE.out
  rw [hS] at hc
  unfold RetB at hc; try dsimp only at hc
  have HC := Lib.hid hc; clear hc
  go_wp2_with fail
  refine HC.out.mono ?_
  rintro e w_12 ⟨Aq, nq, cq, rfl, ho, hb⟩
  clear HC
  clear z_10 z_11
  have ow_13 := Lib.hid (owns_base ho (bel_7.out.size))
  have bel_14 := Lib.hid (Below.trans bel_7.out (Below.mono hb (bel_7.out.size)))
  clear bel_7
  have rd_15 := Lib.hid (RdB.below rd_8.out hb)
  clear rd_8
  have srd_16 := Lib.hid (Blk.keep srd_9.out hb)
  clear srd_9
  have q_17 := Lib.hid ((OwnI.rd ho).1)
  obtain rfl : nq = (solL l p).length := q_17.out.len.symm
  clear ho hb
  have z_18 : (w_12).cell? ⟨w.heap.size, 0, none⟩ = some (.int .i64 (p : Int)) := Blk.cell srd_16.out 0
  have z_19 : (w_12).cell? ⟨w.heap.size, 1, none⟩ = some (.slice A n k) := Blk.cell srd_16.out 1
  go_wp2
  go_ret3
  exact ⟨none, 0, 0, rfl, OwnI.nil_ _ _, bel_14.out⟩

set_option maxRecDepth 100000 in
set_option maxHeartbeats 8000000 in
theorem rD_loop (p : Nat) (A : Option Addr) (n k : Nat) (l : List Bnd) (w : World) (hr : RdB w A n k l) (hn : n ≤ maxLen) (hn4 : n ≤ 400) (hp1 : 1 ≤ p) (hp : p ≤ 60) (HE : Hid (OkP p l)) (E0 : Hid (chk p l = 0)) (hS : (settle l p zeros).isSome = false) (V : List Int) (HV : Hid (lessLoop (holdsD p) l (allL l).length (allL l) = V)) :
    Calls Try.prog 47 #[.agg #[.int .i64 (p : Int), .slice A n k]] w (RetI (V, true, 0) w) := by
  have HR := Lib.hid hr; have HRL := Lib.hid hr.len
  go_enter Try.func47, Try.ntmps47
  have bel_1 := Lib.hid (show Below w.heap.size w w from Below.refl _ w)
  have rd_2 := Lib.hid (hr)
  clear hr
  have bel_3 := Lib.hid (Below.alloc bel_1.out (bel_1.out.size) (.cells #[.int .i64 (p : Int), .slice A n k] 24))
  clear bel_1
  have rd_4 := Lib.hid (RdB.alloc rd_2.out (.cells #[.int .i64 (p : Int), .slice A n k] 24))
  clear rd_2
  have srd_5 := Lib.hid (Blk.new w 24 #[.int .i64 (p : Int), .slice A n k])
  have hc := rCheckSystem_any (p : Int) A n k l _ rd_4.out hn
  rw [E0.out] at hc
  try dsimp only at hc
  have HC := Lib.hid hc; clear hc
  go_wp2_with fail
  refine HC.out.mono ?_
  rintro e w_6 ⟨rfl, hb⟩
  clear HC
  have bel_7 := Lib.hid (Below.trans bel_3.out (Below.mono hb (bel_3.out.size)))
  clear bel_3
  have rd_8 := Lib.hid (RdB.below rd_4.out hb)
  clear rd_4
  have srd_9 := Lib.hid (Blk.keep srd_5.out hb)
  clear srd_5
  clear hb
  have z_10 : (w_6).cell? ⟨w.heap.size, 0, none⟩ = some (.int .i64 (p : Int)) := Blk.cell srd_9.out 0
  have z_11 : (w_6).cell? ⟨w.heap.size, 1, none⟩ = some (.slice A n k) := Blk.cell srd_9.out 1
  have hc := rsolve_any p A n k l _ rd_8.out (by omega) hp1 hp HE.out
  rw [hS] at hc
  unfold RetB at hc; try dsimp only at hc
  have HC := Lib.hid hc; clear hc
  go_wp2_with fail
  refine HC.out.mono ?_
  rintro e w_12 ⟨Aq, nq, cq, rfl, ho, hb⟩
  clear HC
  clear z_10 z_11
  have ow_13 := Lib.hid (owns_base ho (bel_7.out.size))
  have bel_14 := Lib.hid (Below.trans bel_7.out (Below.mono hb (bel_7.out.size)))
  clear bel_7
  have rd_15 := Lib.hid (RdB.below rd_8.out hb)
  clear rd_8
  have srd_16 := Lib.hid (Blk.keep srd_9.out hb)
  clear srd_9
  have q_17 := Lib.hid ((OwnI.rd ho).1)
  obtain rfl : nq = (solL l p).length := q_17.out.len.symm
  clear ho hb
  have z_18 : (w_12).cell? ⟨w.heap.size, 0, none⟩ = some (.int .i64 (p : Int)) := Blk.cell srd_16.out 0
  have z_19 : (w_12).cell? ⟨w.heap.size, 1, none⟩ = some (.slice A n k) := Blk.cell srd_16.out 1
  go_wp2_with fail
  refine (all_any p A n k l _ rd_15.out hn4).mono ?_
  rintro e w8 ⟨Az, nz, cz, rfl, ho, hb⟩
  clear z_18 z_19
  have HO := Lib.hid (owns_base ho (bel_14.out.size)); have HLZ := Lib.hid ((OwnI.rd ho).1.len); clear ho
  have bel_20 := Lib.hid (Below.trans bel_14.out (Below.mono hb (bel_14.out.size)))
  clear bel_14
  have rd_21 := Lib.hid (RdB.below rd_15.out hb)
  clear rd_15
  have srd_22 := Lib.hid (Blk.keep srd_16.out hb)
  clear srd_16
  have ownq_23 := Lib.hid (owns_below ow_13.out hb)
  clear ow_13
  have q_24 := Lib.hid (RdI.below q_17.out hb)
  clear q_17
  clear hb
  have hal := allL_length l
  have HAL := Lib.hid (show (allL l).length ≤ 400 from by rw [HRL.out] at hal; omega)
  clear hal
  have hnz : nz ≤ 400 := by have h1 := HLZ.out; have h2 := HAL.out; omega
  go_wp2
  go_loopw [9, 8] (fun iv kv wr => ∃ (j : Nat) (kept : List Int) (Ak : Option Addr) (nk ck : Nat), iv = .int .i64 ((j : Int) - 1) ∧ kv = .slice Ak nk ck ∧ OwnI wr w.heap.size Ak nk ck kept ∧ j ≤ kept.length ∧ kept.length ≤ 400 ∧ lessLoop (holdsD p) l j kept = V ∧ Blk wr w.heap.size 24 #[.int .i64 (p : Int), .slice A n k] ∧ Below w.heap.size w wr) (fun iv _ _ => (intOf iv + 1).toNat)
  case atStart => exact ⟨nz, allL l, Az, nz, cz, rfl, rfl, HO.out, by rw [HLZ.out]; exact Nat.le_refl _, HAL.out, by rw [← HLZ.out]; exact HV.out, srd_22.out, bel_20.out⟩
  case round =>
    obtain ⟨j, kept, Ak, nk, ck, hiv, rfl, hown, hj, hk4, hlo, hbx, hbe⟩ := hrel
    obtain ⟨wo, rfl⟩ : ∃ wo : World, wo = wr := ⟨wr, rfl⟩
    have hnk := (OwnI.rd hown).1.len
    have KO0 := Lib.hid hown; have KB0 := Lib.hid hbx; have KE0 := Lib.hid hbe; have HLO := Lib.hid hlo; clear hown hbx hbe hlo
    have hlt0 := KB0.out.lt
    rcases j with _ | i
    · obtain rfl : u9 = .int .i64 (-1) := hiv
      have hV : kept = V := HLO.out
      have HKO := Lib.hid (show OwnI wo w.heap.size Ak nk ck V from by rw [← hV]; exact KO0.out)
      clear hV hnk KO0
      go_wp2
      go_ret3
      exact ⟨Ak, nk, ck, rfl, HKO.out, KE0.out⟩
    · obtain rfl : u9 = .int .i64 (i : Int) := by rw [hiv]; congr 1; omega
      clear hiv
      have hi0 : (0 : Int) ≤ i := by omega
      have d0 : decide ((0 : Int) ≤ i) = true := decide_eq_true hi0
      have hstep : lessLoop (holdsD p) l i (if holdsD p (onlyL l (kept.eraseIdx i)) = true then kept.eraseIdx i else kept) = V := HLO.out
      have hle : (onlyL l (kept.eraseIdx i)).length ≤ 400 := Nat.le_trans (List.length_filter_le _ _) (by rw [HRL.out]; exact hn4)
      have HLE := Lib.hid hle; clear hle HLO
      obtain ⟨T, hT⟩ : ∃ T, (settle (onlyL l (kept.eraseIdx i)) p zeros).isSome = T := ⟨_, rfl⟩
      have hsv := fun A2 n2 c2 W (h1 : RdB W A2 n2 c2 (onlyL l (kept.eraseIdx i))) (h2 : n2 ≤ 402) => rsolve_any p A2 n2 c2 (onlyL l (kept.eraseIdx i)) W h1 h2 hp1 hp (fun c hc => HE.out c (onlyL_sub c hc))
      rw [hT] at hsv
      unfold RetB at hsv
      have hhold : holdsD p (onlyL l (kept.eraseIdx i)) = !T := by unfold holdsD; rw [hT]
      rw [hhold] at hstep
      have HSV := Lib.hid hsv; clear hsv hT hhold
      have y0 : wo.cell? ⟨w.heap.size, 0, none⟩ = some (.int .i64 (p : Int)) := Blk.cell KB0.out 0
      cases T
      · rw [if_pos (by simp)] at hstep
        have HSTEP := Lib.hid hstep; clear hstep
        go_wp2_with fail
        clear y0
        have K0 := Lib.hid (Blk.drew KB0.out); have KE := Lib.hid (Below.drew KE0.out); have KR := Lib.hid (RdB.drew (RdB.below HR.out KE0.out)); have KO := Lib.hid (World.ownsRow.drew KO0.out)
        clear KB0 KE0 KO0
        refine wp_region_held_drew (S := (fun W' => Blk W' w.heap.size 24 #[.int .i64 (p : Int), .slice A n k])) (by kernel_rfl) K0.out (fun _ => ?_)
        obtain ⟨w1, hw2⟩ : ∃ w', w' = wo.drew := ⟨_, rfl⟩
        rw [← hw2] at K0 KE KR KO
        rw [← hw2]
        clear hw2
        refine' wpAnyH_take (i := 0) (oi := { dst := some 33, op := Go.Op.load 24 (Go.Operand.tmp 1), type := 24, pos := "ref.go:498", after := #[], guard := none }) (v := _) rfl (by kernel_rfl) (by kernel_rfl) (by kernel_rfl) (fun _ _ _ h => h) (Or.inl ⟨by rfl, ?hyR3⟩) K0.out ?reR3
        case hyR3 => (rintro W' hS0; have hc0 : W'.cell? ⟨w.heap.size, 0, none⟩ = some (.int .i64 (p : Int)) := Blk.cell hS0 0; have hc1 : W'.cell? ⟨w.heap.size, 1, none⟩ = some (.slice A n k) := Blk.cell hS0 1; clear hS0; go_simp; try with_reducible rfl)
        try simp only [Act.put, List.setIfInBounds_toArray, List.set_cons_zero, List.set_cons_succ]
        refine' wpAnyH_take (i := 1) (oi := { dst := some 34, op := Go.Op.move (Go.Operand.tmp 8), type := 33, pos := "ref.go:498", after := #[], guard := none }) (v := _) rfl (by kernel_rfl) (by kernel_rfl) (by kernel_rfl) (fun _ _ _ h => h) (Or.inl ⟨by rfl, ?hyR4⟩) K0.out ?reR4
        case hyR4 => (rintro W' hS0; clear hS0; go_simp; try with_reducible rfl)
        try simp only [Act.put, List.setIfInBounds_toArray, List.set_cons_zero, List.set_cons_succ]
        refine' wpAnyH_take (i := 2) (oi := { dst := some 35, op := Go.Op.move (Go.Operand.tmp 9), type := 3, pos := "ref.go:498", after := #[], guard := none }) (v := _) rfl (by kernel_rfl) (by kernel_rfl) (by kernel_rfl) (fun _ _ _ h => h) (Or.inl ⟨by rfl, ?hyR5⟩) K0.out ?reR5
        case hyR5 => (rintro W' hS0; clear hS0; go_simp; try with_reducible rfl)
        try simp only [Act.put, List.setIfInBounds_toArray, List.set_cons_zero, List.set_cons_succ]
        refine wpAnyH_ready (rs := [3]) (by kernel_rfl) (by simp) ?_
        refine AllReadyH.cons (o := { dst := some 36, op := Go.Op.call { callee := Go.Callee.value (Go.Operand.func 92), args := #[Go.Operand.tmp 34, Go.Operand.tmp 35], argTypes := #[33, 3] }, type := 33, pos := "ref.go:498", after := #[{ on := 1, ground := Go.Ground.data }, { on := 2, ground := Go.Ground.data }], guard := none }) rfl (fun K hK => ?_) ?_
        · -- 3: call
          go_simp
          go_at_call 92
          refine (less_any Ak nk ck i kept _ (OwnI.rd KO.out).1 (by omega) (by omega)).mono ?_
          rintro e w6 ⟨B1, d1, rfl, ho1, hb7⟩
          dsimp only
          have b0_8 := Lib.hid (Blk.keep (K0.out) hb7)
          have bel_9 := Lib.hid (Below.trans (KE.out) (Below.mono hb7 ((KE.out).size)))
          have rd_10 := Lib.hid (RdB.below (KR.out) hb7)
          have cp_11 := Lib.hid (owns_below (KO.out) hb7)
          have O1 := Lib.hid (OwnI.rd ho1).1; clear ho1
          refine hK.out _ _ b0_8.out (fun _ => ?_); clear hK K
          try simp only [Act.put, List.setIfInBounds_toArray, List.set_cons_zero, List.set_cons_succ]
          refine wpAnyH_ready (rs := [4]) (by kernel_rfl) (by simp) ?_
          refine AllReadyH.cons (o := { dst := some 37, op := Go.Op.call { callee := Go.Callee.value (Go.Operand.func 91), args := #[Go.Operand.tmp 33, Go.Operand.tmp 36], argTypes := #[24, 33] }, type := 24, pos := "ref.go:498", after := #[{ on := 0, ground := Go.Ground.data }, { on := 3, ground := Go.Ground.data }, { on := 3, ground := Go.Ground.chain }], guard := none }) rfl (fun K hK => ?_) ?_
          · -- 4: call
            go_simp
            go_at_call 91
            refine (only_any p A B1 n k (nk - 1) d1 l (kept.eraseIdx i) _ rd_10.out hn4 O1.out (by unfold maxLen; omega)).mono ?_
            rintro e w12 ⟨A2, n2, c2, rfl, ho2, hb13⟩
            dsimp only
            have b0_14 := Lib.hid (Blk.keep (b0_8.out) hb13)
            have bel_15 := Lib.hid (Below.trans (bel_9.out) (Below.mono hb13 ((bel_9.out).size)))
            have rd_16 := Lib.hid (RdB.below (rd_10.out) hb13)
            have cp_17 := Lib.hid (owns_below (cp_11.out) hb13)
            have r1_18 := Lib.hid (RdI.below (O1.out) hb13)
            have O2 := Lib.hid (OwnB.rd ho2).1; clear ho2
            have hn2 : n2 ≤ 400 := by have h1 := O2.out.len; have h2 := HLE.out; omega
            refine hK.out _ _ b0_14.out (fun _ => ?_); clear hK K
            try simp only [Act.put, List.setIfInBounds_toArray, List.set_cons_zero, List.set_cons_succ]
            refine wpAnyH_ready (rs := [5]) (by kernel_rfl) (by simp) ?_
            refine AllReadyH.cons (o := { dst := some 38, op := Go.Op.call { callee := Go.Callee.value (Go.Operand.func 72), args := #[Go.Operand.tmp 37], argTypes := #[24] }, type := 83, pos := "ref.go:498", after := #[{ on := 4, ground := Go.Ground.data }, { on := 4, ground := Go.Ground.chain }], guard := none }) rfl (fun K hK => ?_) ?_
            · -- 5: call
              go_simp
              go_at_call 72
              refine (HSV.out A2 n2 c2 _ O2.out (by omega)).mono ?_
              rintro e w19 ⟨A3, n3, c3, rfl, ho3, hb20⟩
              dsimp only
              clear ho3
              have b0_21 := Lib.hid (Blk.keep (b0_14.out) hb20)
              have bel_22 := Lib.hid (Below.trans (bel_15.out) (Below.mono hb20 ((bel_15.out).size)))
              have rd_23 := Lib.hid (RdB.below (rd_16.out) hb20)
              have cp_24 := Lib.hid (owns_below (cp_17.out) hb20)
              have r1_25 := Lib.hid (RdI.below (r1_18.out) hb20)
              have r2_26 := Lib.hid (RdB.below (O2.out) hb20)
              refine hK.out _ _ b0_21.out (fun _ => ?_); clear hK K
              try simp only [Act.put, List.setIfInBounds_toArray, List.set_cons_zero, List.set_cons_succ]
              refine' wpAnyH_take (i := 6) (oi := { dst := some 32, op := Go.Op.move (Go.Operand.tmp 38), type := 83, pos := "ref.go:498", after := #[{ on := 5, ground := Go.Ground.data }], guard := none }) (v := _) rfl (by kernel_rfl) (by kernel_rfl) (by kernel_rfl) (fun _ _ _ h => h) (Or.inl ⟨by rfl, ?hyR27⟩) b0_21.out ?reR27
              case hyR27 => (rintro W' hS0; clear hS0; go_simp; try with_reducible rfl)
              try simp only [Act.put, List.setIfInBounds_toArray, List.set_cons_zero, List.set_cons_succ]
              refine' wpAnyH_take (i := 7) (oi := { dst := some 39, op := Go.Op.extract (Go.Operand.tmp 32) 0, type := 33, pos := "ref.go:498", after := #[{ on := 6, ground := Go.Ground.data }], guard := none }) (v := _) rfl (by kernel_rfl) (by kernel_rfl) (by kernel_rfl) (fun _ _ _ h => h) (Or.inl ⟨by rfl, ?hyR28⟩) b0_21.out ?reR28
              case hyR28 => (rintro W' hS0; clear hS0; go_simp; try with_reducible rfl)
              try simp only [Act.put, List.setIfInBounds_toArray, List.set_cons_zero, List.set_cons_succ]
              refine' wpAnyH_take (i := 8) (oi := { dst := some 40, op := Go.Op.extract (Go.Operand.tmp 32) 1, type := 4, pos := "ref.go:498", after := #[{ on := 6, ground := Go.Ground.data }, { on := 9, ground := Go.Ground.gcOnly Go.Departure.lateStores }], guard := none }) (v := _) rfl (by kernel_rfl) (by kernel_rfl) (by kernel_rfl) (fun _ _ _ h => h) (Or.inl ⟨by rfl, ?hyR29⟩) b0_21.out ?reR29
              case hyR29 => (rintro W' hS0; clear hS0; go_simp; try with_reducible rfl)
              try simp only [Act.put, List.setIfInBounds_toArray, List.set_cons_zero, List.set_cons_succ]
              refine' wpAnyH_take (i := 9) (oi := { dst := some 10, op := Go.Op.assign (Go.Operand.tmp 39), type := 33, pos := "ref.go:498", after := #[{ on := 7, ground := Go.Ground.data }, { on := 5, ground := Go.Ground.chain }, { on := 0, ground := Go.Ground.phase }, { on := 1, ground := Go.Ground.phase }, { on := 2, ground := Go.Ground.phase }, { on := 3, ground := Go.Ground.phase }, { on := 4, ground := Go.Ground.phase }, { on := 5, ground := Go.Ground.phase }, { on := 6, ground := Go.Ground.phase }, { on := 7, ground := Go.Ground.phase }, { on := 8, ground := Go.Ground.textOnly Go.Departure.lateStores }], guard := none }) (v := _) rfl (by kernel_rfl) (by kernel_rfl) (by kernel_rfl) (fun _ _ _ h => h) (Or.inl ⟨by rfl, ?hyR30⟩) b0_21.out ?reR30
              case hyR30 => (rintro W' hS0; clear hS0; go_simp; try with_reducible rfl)
              try simp only [Act.put, List.setIfInBounds_toArray, List.set_cons_zero, List.set_cons_succ]
              refine' wpAnyH_take (i := 10) (oi := { dst := some 11, op := Go.Op.assign (Go.Operand.tmp 40), type := 4, pos := "ref.go:498", after := #[{ on := 8, ground := Go.Ground.data }, { on := 9, ground := Go.Ground.chain }, { on := 0, ground := Go.Ground.phase }, { on := 1, ground := Go.Ground.phase }, { on := 2, ground := Go.Ground.phase }, { on := 3, ground := Go.Ground.phase }, { on := 4, ground := Go.Ground.phase }, { on := 5, ground := Go.Ground.phase }, { on := 6, ground := Go.Ground.phase }, { on := 7, ground := Go.Ground.phase }, { on := 8, ground := Go.Ground.phase }, { on := 9, ground := Go.Ground.phase }], guard := none }) (v := _) rfl (by kernel_rfl) (by kernel_rfl) (by kernel_rfl) (fun _ _ _ h => h) (Or.inl ⟨by rfl, ?hyR31⟩) b0_21.out ?reR31
              case hyR31 => (rintro W' hS0; clear hS0; go_simp; try with_reducible rfl)
              try simp only [Act.put, List.setIfInBounds_toArray, List.set_cons_zero, List.set_cons_succ]
              refine wpAnyH_done (by kernel_rfl) ?_ _
              go_wp2_with fail
              refine (less_any Ak nk ck i kept _ (OwnI.rd cp_24.out).1 (by omega) (by omega)).mono ?_
              rintro e w9 ⟨B9, d9, rfl, ho9, hb9⟩
              have H9 := Lib.hid (owns_base ho9 (bel_22.out.size)); have K9 := Lib.hid (Blk.keep b0_21.out hb9); have E9 := Lib.hid (Below.trans bel_22.out (Below.mono hb9 bel_22.out.size)); clear ho9 hb9
              have hle9 : (kept.eraseIdx i).length = kept.length - 1 := by rw [List.length_eraseIdx]; rw [if_pos (by omega)]
              go_wp2
              go_roundw
              case rel => exact ⟨i, kept.eraseIdx i, B9, nk - 1, d9, rfl, rfl, H9.out, by omega, by omega, HSTEP.out, K9.out, E9.out⟩
              case measure => (simp [intOf]; try omega)
            exact AllReadyH.nil
          exact AllReadyH.nil
        exact AllReadyH.nil
      · rw [if_neg (by simp)] at hstep
        have HSTEP := Lib.hid hstep; clear hstep
        go_wp2_with fail
        clear y0
        have K0 := Lib.hid (Blk.drew KB0.out); have KE := Lib.hid (Below.drew KE0.out); have KR := Lib.hid (RdB.drew (RdB.below HR.out KE0.out)); have KO := Lib.hid (World.ownsRow.drew KO0.out)
        clear KB0 KE0 KO0
        refine wp_region_held_drew (S := (fun W' => Blk W' w.heap.size 24 #[.int .i64 (p : Int), .slice A n k])) (by kernel_rfl) K0.out (fun _ => ?_)
        obtain ⟨w32, hw33⟩ : ∃ w', w' = wo.drew := ⟨_, rfl⟩
        rw [← hw33] at K0 KE KR KO
        rw [← hw33]
        clear hw33
        refine' wpAnyH_take (i := 0) (oi := { dst := some 33, op := Go.Op.load 24 (Go.Operand.tmp 1), type := 24, pos := "ref.go:498", after := #[], guard := none }) (v := _) rfl (by kernel_rfl) (by kernel_rfl) (by kernel_rfl) (fun _ _ _ h => h) (Or.inl ⟨by rfl, ?hyR34⟩) K0.out ?reR34
        case hyR34 => (rintro W' hS0; have hc0 : W'.cell? ⟨w.heap.size, 0, none⟩ = some (.int .i64 (p : Int)) := Blk.cell hS0 0; have hc1 : W'.cell? ⟨w.heap.size, 1, none⟩ = some (.slice A n k) := Blk.cell hS0 1; clear hS0; go_simp; try with_reducible rfl)
        try simp only [Act.put, List.setIfInBounds_toArray, List.set_cons_zero, List.set_cons_succ]
        refine' wpAnyH_take (i := 1) (oi := { dst := some 34, op := Go.Op.move (Go.Operand.tmp 8), type := 33, pos := "ref.go:498", after := #[], guard := none }) (v := _) rfl (by kernel_rfl) (by kernel_rfl) (by kernel_rfl) (fun _ _ _ h => h) (Or.inl ⟨by rfl, ?hyR35⟩) K0.out ?reR35
        case hyR35 => (rintro W' hS0; clear hS0; go_simp; try with_reducible rfl)
        try simp only [Act.put, List.setIfInBounds_toArray, List.set_cons_zero, List.set_cons_succ]
        refine' wpAnyH_take (i := 2) (oi := { dst := some 35, op := Go.Op.move (Go.Operand.tmp 9), type := 3, pos := "ref.go:498", after := #[], guard := none }) (v := _) rfl (by kernel_rfl) (by kernel_rfl) (by kernel_rfl) (fun _ _ _ h => h) (Or.inl ⟨by rfl, ?hyR36⟩) K0.out ?reR36
        case hyR36 => (rintro W' hS0; clear hS0; go_simp; try with_reducible rfl)
        try simp only [Act.put, List.setIfInBounds_toArray, List.set_cons_zero, List.set_cons_succ]
        refine wpAnyH_ready (rs := [3]) (by kernel_rfl) (by simp) ?_
        refine AllReadyH.cons (o := { dst := some 36, op := Go.Op.call { callee := Go.Callee.value (Go.Operand.func 92), args := #[Go.Operand.tmp 34, Go.Operand.tmp 35], argTypes := #[33, 3] }, type := 33, pos := "ref.go:498", after := #[{ on := 1, ground := Go.Ground.data }, { on := 2, ground := Go.Ground.data }], guard := none }) rfl (fun K hK => ?_) ?_
        · -- 3: call
          go_simp
          go_at_call 92
          refine (less_any Ak nk ck i kept _ (OwnI.rd KO.out).1 (by omega) (by omega)).mono ?_
          rintro e w37 ⟨B1, d1, rfl, ho1, hb38⟩
          dsimp only
          have b0_39 := Lib.hid (Blk.keep (K0.out) hb38)
          have bel_40 := Lib.hid (Below.trans (KE.out) (Below.mono hb38 ((KE.out).size)))
          have rd_41 := Lib.hid (RdB.below (KR.out) hb38)
          have cp_42 := Lib.hid (owns_below (KO.out) hb38)
          have O1 := Lib.hid (OwnI.rd ho1).1; clear ho1
          refine hK.out _ _ b0_39.out (fun _ => ?_); clear hK K
          try simp only [Act.put, List.setIfInBounds_toArray, List.set_cons_zero, List.set_cons_succ]
          refine wpAnyH_ready (rs := [4]) (by kernel_rfl) (by simp) ?_
          refine AllReadyH.cons (o := { dst := some 37, op := Go.Op.call { callee := Go.Callee.value (Go.Operand.func 91), args := #[Go.Operand.tmp 33, Go.Operand.tmp 36], argTypes := #[24, 33] }, type := 24, pos := "ref.go:498", after := #[{ on := 0, ground := Go.Ground.data }, { on := 3, ground := Go.Ground.data }, { on := 3, ground := Go.Ground.chain }], guard := none }) rfl (fun K hK => ?_) ?_
          · -- 4: call
            go_simp
            go_at_call 91
            refine (only_any p A B1 n k (nk - 1) d1 l (kept.eraseIdx i) _ rd_41.out hn4 O1.out (by unfold maxLen; omega)).mono ?_
            rintro e w43 ⟨A2, n2, c2, rfl, ho2, hb44⟩
            dsimp only
            have b0_45 := Lib.hid (Blk.keep (b0_39.out) hb44)
            have bel_46 := Lib.hid (Below.trans (bel_40.out) (Below.mono hb44 ((bel_40.out).size)))
            have rd_47 := Lib.hid (RdB.below (rd_41.out) hb44)
            have cp_48 := Lib.hid (owns_below (cp_42.out) hb44)
            have r1_49 := Lib.hid (RdI.below (O1.out) hb44)
            have O2 := Lib.hid (OwnB.rd ho2).1; clear ho2
            have hn2 : n2 ≤ 400 := by have h1 := O2.out.len; have h2 := HLE.out; omega
            refine hK.out _ _ b0_45.out (fun _ => ?_); clear hK K
            try simp only [Act.put, List.setIfInBounds_toArray, List.set_cons_zero, List.set_cons_succ]
            refine wpAnyH_ready (rs := [5]) (by kernel_rfl) (by simp) ?_
            refine AllReadyH.cons (o := { dst := some 38, op := Go.Op.call { callee := Go.Callee.value (Go.Operand.func 72), args := #[Go.Operand.tmp 37], argTypes := #[24] }, type := 83, pos := "ref.go:498", after := #[{ on := 4, ground := Go.Ground.data }, { on := 4, ground := Go.Ground.chain }], guard := none }) rfl (fun K hK => ?_) ?_
            · -- 5: call
              go_simp
              go_at_call 72
              refine (HSV.out A2 n2 c2 _ O2.out (by omega)).mono ?_
              rintro e w50 ⟨A3, n3, c3, rfl, ho3, hb51⟩
              dsimp only
              clear ho3
              have b0_52 := Lib.hid (Blk.keep (b0_45.out) hb51)
              have bel_53 := Lib.hid (Below.trans (bel_46.out) (Below.mono hb51 ((bel_46.out).size)))
              have rd_54 := Lib.hid (RdB.below (rd_47.out) hb51)
              have cp_55 := Lib.hid (owns_below (cp_48.out) hb51)
              have r1_56 := Lib.hid (RdI.below (r1_49.out) hb51)
              have r2_57 := Lib.hid (RdB.below (O2.out) hb51)
              refine hK.out _ _ b0_52.out (fun _ => ?_); clear hK K
              try simp only [Act.put, List.setIfInBounds_toArray, List.set_cons_zero, List.set_cons_succ]
              refine' wpAnyH_take (i := 6) (oi := { dst := some 32, op := Go.Op.move (Go.Operand.tmp 38), type := 83, pos := "ref.go:498", after := #[{ on := 5, ground := Go.Ground.data }], guard := none }) (v := _) rfl (by kernel_rfl) (by kernel_rfl) (by kernel_rfl) (fun _ _ _ h => h) (Or.inl ⟨by rfl, ?hyR58⟩) b0_52.out ?reR58
              case hyR58 => (rintro W' hS0; clear hS0; go_simp; try with_reducible rfl)
              try simp only [Act.put, List.setIfInBounds_toArray, List.set_cons_zero, List.set_cons_succ]
              refine' wpAnyH_take (i := 7) (oi := { dst := some 39, op := Go.Op.extract (Go.Operand.tmp 32) 0, type := 33, pos := "ref.go:498", after := #[{ on := 6, ground := Go.Ground.data }], guard := none }) (v := _) rfl (by kernel_rfl) (by kernel_rfl) (by kernel_rfl) (fun _ _ _ h => h) (Or.inl ⟨by rfl, ?hyR59⟩) b0_52.out ?reR59
              case hyR59 => (rintro W' hS0; clear hS0; go_simp; try with_reducible rfl)
              try simp only [Act.put, List.setIfInBounds_toArray, List.set_cons_zero, List.set_cons_succ]
              refine' wpAnyH_take (i := 8) (oi := { dst := some 40, op := Go.Op.extract (Go.Operand.tmp 32) 1, type := 4, pos := "ref.go:498", after := #[{ on := 6, ground := Go.Ground.data }, { on := 9, ground := Go.Ground.gcOnly Go.Departure.lateStores }], guard := none }) (v := _) rfl (by kernel_rfl) (by kernel_rfl) (by kernel_rfl) (fun _ _ _ h => h) (Or.inl ⟨by rfl, ?hyR60⟩) b0_52.out ?reR60
              case hyR60 => (rintro W' hS0; clear hS0; go_simp; try with_reducible rfl)
              try simp only [Act.put, List.setIfInBounds_toArray, List.set_cons_zero, List.set_cons_succ]
              refine' wpAnyH_take (i := 9) (oi := { dst := some 10, op := Go.Op.assign (Go.Operand.tmp 39), type := 33, pos := "ref.go:498", after := #[{ on := 7, ground := Go.Ground.data }, { on := 5, ground := Go.Ground.chain }, { on := 0, ground := Go.Ground.phase }, { on := 1, ground := Go.Ground.phase }, { on := 2, ground := Go.Ground.phase }, { on := 3, ground := Go.Ground.phase }, { on := 4, ground := Go.Ground.phase }, { on := 5, ground := Go.Ground.phase }, { on := 6, ground := Go.Ground.phase }, { on := 7, ground := Go.Ground.phase }, { on := 8, ground := Go.Ground.textOnly Go.Departure.lateStores }], guard := none }) (v := _) rfl (by kernel_rfl) (by kernel_rfl) (by kernel_rfl) (fun _ _ _ h => h) (Or.inl ⟨by rfl, ?hyR61⟩) b0_52.out ?reR61
              case hyR61 => (rintro W' hS0; clear hS0; go_simp; try with_reducible rfl)
              try simp only [Act.put, List.setIfInBounds_toArray, List.set_cons_zero, List.set_cons_succ]
              refine' wpAnyH_take (i := 10) (oi := { dst := some 11, op := Go.Op.assign (Go.Operand.tmp 40), type := 4, pos := "ref.go:498", after := #[{ on := 8, ground := Go.Ground.data }, { on := 9, ground := Go.Ground.chain }, { on := 0, ground := Go.Ground.phase }, { on := 1, ground := Go.Ground.phase }, { on := 2, ground := Go.Ground.phase }, { on := 3, ground := Go.Ground.phase }, { on := 4, ground := Go.Ground.phase }, { on := 5, ground := Go.Ground.phase }, { on := 6, ground := Go.Ground.phase }, { on := 7, ground := Go.Ground.phase }, { on := 8, ground := Go.Ground.phase }, { on := 9, ground := Go.Ground.phase }], guard := none }) (v := _) rfl (by kernel_rfl) (by kernel_rfl) (by kernel_rfl) (fun _ _ _ h => h) (Or.inl ⟨by rfl, ?hyR62⟩) b0_52.out ?reR62
              case hyR62 => (rintro W' hS0; clear hS0; go_simp; try with_reducible rfl)
              try simp only [Act.put, List.setIfInBounds_toArray, List.set_cons_zero, List.set_cons_succ]
              refine wpAnyH_done (by kernel_rfl) ?_ _
              go_wp2
              go_roundw
              case rel => exact ⟨i, kept, Ak, nk, ck, rfl, rfl, cp_55.out, by omega, hk4, HSTEP.out, b0_52.out, bel_53.out⟩
              case measure => (simp [intOf]; try omega)
            exact AllReadyH.nil
          exact AllReadyH.nil
        exact AllReadyH.nil

theorem rDoubt_any (P : Int) (A : Option Addr) (n k : Nat) (l : List Bnd) (w : World) (hr : RdB w A n k l) (hn : n ≤ maxLen) : Calls Try.prog 47 #[.agg #[.int .i64 P, .slice A n k]] w (RetI (doubtR P l) w) := by
  unfold doubtR
  by_cases hk : chk P l = 0
  · obtain ⟨hp1, hp2, hlen, -⟩ := chk_ok hk
    have he := okP_of hk
    have hn4 : n ≤ 400 := by have := hr.len; omega
    obtain ⟨p, rfl⟩ := Int.eq_ofNat_of_zero_le (show 0 ≤ P by omega)
    rw [Int.toNat_natCast] at he
    rw [if_pos hk, Int.toNat_natCast]
    cases hS : (settle l p zeros).isSome
    · rw [if_neg (by simp)]
      exact rD_loop p A n k l w hr hn hn4 (by omega) (by omega) (Lib.hid he) (Lib.hid hk) hS _ (Lib.hid rfl)
    · rw [if_pos rfl]
      exact rD_sol p A n k l w hr hn hn4 (by omega) (by omega) (Lib.hid he) (Lib.hid hk) hS
  · rw [if_neg hk]
    exact rD_err P A n k l w hr hn _ (by simpa using hk) (Lib.hid rfl)

set_option maxRecDepth 100000 in
set_option maxHeartbeats 8000000 in
theorem rR_err (P a b : Int) (u : Bool) (A : Option Addr) (n k : Nat) (l : List Bnd) (w : World) (hr : RdB w A n k l) (hn : n ≤ maxLen) (q : Int) (hq : (q != 0) = true) (E0 : Hid (tup (greatT P l a b) = .tuple #[.int .i64 0, .bool false, .int .i64 q])) :
    Calls Try.prog 45 #[.agg #[.int .i64 P, .slice A n k], .int .i64 a, .int .i64 b, .bool u] w (RetL ([], q) w) := by
  go_enter Try.func45, Try.ntmps45
  have bel_1 := Lib.hid (show Below w.heap.size w w from Below.refl _ w)
  have rd_2 := Lib.hid (hr)
  clear hr
  have bel_3 := Lib.hid (Below.alloc bel_1.out (bel_1.out.size) (.cells #[.int .i64 P, .slice A n k] 24))
  clear bel_1
  have rd_4 := Lib.hid (RdB.alloc rd_2.out (.cells #[.int .i64 P, .slice A n k] 24))
  clear rd_2
  have srd_5 := Lib.hid (Blk.new w 24 #[.int .i64 P, .slice A n k])
  have hc := rGreatest_any P a b A n k l _ rd_4.out hn
  rw [E0.out] at hc
  try dsimp only at hc
  have HC := Lib.hid hc; clear hc
  go_wp2_with fail
  refine HC.out.mono ?_
  rintro e w_6 ⟨rfl, hb⟩
  clear HC
  have bel_7 := Lib.hid (Below.trans bel_3.out (Below.mono hb (bel_3.out.size)))
  clear bel_3
  have rd_8 := Lib.hid (RdB.below rd_4.out hb)
  clear rd_4
  have srd_9 := Lib.hid (Blk.keep srd_5.out hb)
  clear srd_5
  clear hb
  have z_10 : (w_6).cell? ⟨w.heap.size, 0, none⟩ = some (.int .i64 P) := Blk.cell srd_9.out 0
  have z_11 : (w_6).cell? ⟨w.heap.size, 1, none⟩ = some (.slice A n k) := Blk.cell srd_9.out 1
  go_wp2
  go_ret2
  exact ⟨none, 0, 0, rfl, OwnI.nil_ _ _, bel_7.out⟩

set_option maxRecDepth 100000 in
set_option maxHeartbeats 8000000 in
theorem rR_none_t (p x y : Nat) (A : Option Addr) (n k : Nat) (l : List Bnd) (w : World) (hr : RdB w A n k l) (hn : n ≤ maxLen) (hn4 : n ≤ 400) (hp1 : 1 ≤ p) (hp : p ≤ 60) (hx : x < p) (hy : y < p) (hk : chk p l = 0) (hS : (settle l p zeros).isSome = true) (X0 : Int) (T0 : Bool) (E0 : Hid (tup (greatT (p : Int) l (x : Int) (y : Int)) = .tuple #[.int .i64 X0, .bool T0, .int .i64 0])) (N : Int) (F1 : Hid (fin (dist l p x y) = N)) (I1 : Hid (isF (dist l p x y) = false)) :
    Calls Try.prog 45 #[.agg #[.int .i64 (p : Int), .slice A n k], .int .i64 (x : Int), .int .i64 (y : Int), .bool true] w (RetL ([], 0) w) := by
  go_enter Try.func45, Try.ntmps45
  have bel_1 := Lib.hid (show Below w.heap.size w w from Below.refl _ w)
  have rd_2 := Lib.hid (hr)
  clear hr
  have bel_3 := Lib.hid (Below.alloc bel_1.out (bel_1.out.size) (.cells #[.int .i64 (p : Int), .slice A n k] 24))
  clear bel_1
  have rd_4 := Lib.hid (RdB.alloc rd_2.out (.cells #[.int .i64 (p : Int), .slice A n k] 24))
  clear rd_2
  have srd_5 := Lib.hid (Blk.new w 24 #[.int .i64 (p : Int), .slice A n k])
  have hc := rGreatest_any (p : Int) (x : Int) (y : Int) A n k l _ rd_4.out hn
  rw [E0.out] at hc
  try dsimp only at hc
  have HC := Lib.hid hc; clear hc
  go_wp2_with fail
  refine HC.out.mono ?_
  rintro e w_6 ⟨rfl, hb⟩
  clear HC
  have bel_7 := Lib.hid (Below.trans bel_3.out (Below.mono hb (bel_3.out.size)))
  clear bel_3
  have rd_8 := Lib.hid (RdB.below rd_4.out hb)
  clear rd_4
  have srd_9 := Lib.hid (Blk.keep srd_5.out hb)
  clear srd_5
  clear hb
  have z_10 : (w_6).cell? ⟨w.heap.size, 0, none⟩ = some (.int .i64 (p : Int)) := Blk.cell srd_9.out 0
  have z_11 : (w_6).cell? ⟨w.heap.size, 1, none⟩ = some (.slice A n k) := Blk.cell srd_9.out 1
  have hc := rgreat_any p x y A n k l _ rd_8.out (by omega) hk hS hx hy
  rw [F1.out] at hc
  rw [I1.out] at hc
  try dsimp only at hc
  have HC := Lib.hid hc; clear hc
  go_wp2_with fail
  refine HC.out.mono ?_
  rintro e w_12 ⟨rfl, hb⟩
  clear HC
  clear z_10 z_11
  have bel_13 := Lib.hid (Below.trans bel_7.out (Below.mono hb (bel_7.out.size)))
  clear bel_7
  have rd_14 := Lib.hid (RdB.below rd_8.out hb)
  clear rd_8
  have srd_15 := Lib.hid (Blk.keep srd_9.out hb)
  clear srd_9
  clear hb
  have z_16 : (w_12).cell? ⟨w.heap.size, 0, none⟩ = some (.int .i64 (p : Int)) := Blk.cell srd_15.out 0
  have z_17 : (w_12).cell? ⟨w.heap.size, 1, none⟩ = some (.slice A n k) := Blk.cell srd_15.out 1
  go_wp2
  go_ret2
  exact ⟨none, 0, 0, rfl, OwnI.nil_ _ _, bel_13.out⟩

set_option maxRecDepth 100000 in
set_option maxHeartbeats 8000000 in
theorem rR_none_f (p x y : Nat) (A : Option Addr) (n k : Nat) (l : List Bnd) (w : World) (hr : RdB w A n k l) (hn : n ≤ maxLen) (hn4 : n ≤ 400) (hp1 : 1 ≤ p) (hp : p ≤ 60) (hx : x < p) (hy : y < p) (hk : chk p l = 0) (hS : (settle l p zeros).isSome = true) (X0 : Int) (T0 : Bool) (E0 : Hid (tup (greatT (p : Int) l (y : Int) (x : Int)) = .tuple #[.int .i64 X0, .bool T0, .int .i64 0])) (N : Int) (F1 : Hid (fin (dist l p x y) = N)) (I1 : Hid (isF (dist l p x y) = false)) :
    Calls Try.prog 45 #[.agg #[.int .i64 (p : Int), .slice A n k], .int .i64 (y : Int), .int .i64 (x : Int), .bool false] w (RetL ([], 0) w) := by
  go_enter Try.func45, Try.ntmps45
  have bel_1 := Lib.hid (show Below w.heap.size w w from Below.refl _ w)
  have rd_2 := Lib.hid (hr)
  clear hr
  have bel_3 := Lib.hid (Below.alloc bel_1.out (bel_1.out.size) (.cells #[.int .i64 (p : Int), .slice A n k] 24))
  clear bel_1
  have rd_4 := Lib.hid (RdB.alloc rd_2.out (.cells #[.int .i64 (p : Int), .slice A n k] 24))
  clear rd_2
  have srd_5 := Lib.hid (Blk.new w 24 #[.int .i64 (p : Int), .slice A n k])
  have hc := rGreatest_any (p : Int) (y : Int) (x : Int) A n k l _ rd_4.out hn
  rw [E0.out] at hc
  try dsimp only at hc
  have HC := Lib.hid hc; clear hc
  go_wp2_with fail
  refine HC.out.mono ?_
  rintro e w_6 ⟨rfl, hb⟩
  clear HC
  have bel_7 := Lib.hid (Below.trans bel_3.out (Below.mono hb (bel_3.out.size)))
  clear bel_3
  have rd_8 := Lib.hid (RdB.below rd_4.out hb)
  clear rd_4
  have srd_9 := Lib.hid (Blk.keep srd_5.out hb)
  clear srd_5
  clear hb
  have z_10 : (w_6).cell? ⟨w.heap.size, 0, none⟩ = some (.int .i64 (p : Int)) := Blk.cell srd_9.out 0
  have z_11 : (w_6).cell? ⟨w.heap.size, 1, none⟩ = some (.slice A n k) := Blk.cell srd_9.out 1
  have hc := rgreat_any p x y A n k l _ rd_8.out (by omega) hk hS hx hy
  rw [F1.out] at hc
  rw [I1.out] at hc
  try dsimp only at hc
  have HC := Lib.hid hc; clear hc
  go_wp2_with fail
  refine HC.out.mono ?_
  rintro e w_12 ⟨rfl, hb⟩
  clear HC
  clear z_10 z_11
  have bel_13 := Lib.hid (Below.trans bel_7.out (Below.mono hb (bel_7.out.size)))
  clear bel_7
  have rd_14 := Lib.hid (RdB.below rd_8.out hb)
  clear rd_8
  have srd_15 := Lib.hid (Blk.keep srd_9.out hb)
  clear srd_9
  clear hb
  have z_16 : (w_12).cell? ⟨w.heap.size, 0, none⟩ = some (.int .i64 (p : Int)) := Blk.cell srd_15.out 0
  have z_17 : (w_12).cell? ⟨w.heap.size, 1, none⟩ = some (.slice A n k) := Blk.cell srd_15.out 1
  go_wp2
  go_ret2
  exact ⟨none, 0, 0, rfl, OwnI.nil_ _ _, bel_13.out⟩

set_option maxRecDepth 100000 in
set_option maxHeartbeats 8000000 in
theorem rR_loop_t (p x y : Nat) (A : Option Addr) (n k : Nat) (l : List Bnd) (w : World) (hr : RdB w A n k l) (hn : n ≤ maxLen) (hn4 : n ≤ 400) (hp1 : 1 ≤ p) (hp : p ≤ 60) (hx : x < p) (hy : y < p) (hk : chk p l = 0) (hS : (settle l p zeros).isSome = true) (X0 : Int) (T0 : Bool) (E0 : Hid (tup (greatT (p : Int) l (x : Int) (y : Int)) = .tuple #[.int .i64 X0, .bool T0, .int .i64 0])) (N : Int) (F1 : Hid (fin (dist l p x y) = N)) (I1 : Hid (isF (dist l p x y) = true)) (HK2 : Hid (∀ S, chk p (onlyL l S) = 0 ∧ (settle (onlyL l S) p zeros).isSome = true)) (V : List Int) (HV : Hid (lessLoop (holdsG p x y N) l (allL l).length (allL l) = V)) :
    Calls Try.prog 45 #[.agg #[.int .i64 (p : Int), .slice A n k], .int .i64 (x : Int), .int .i64 (y : Int), .bool true] w (RetL (V, 0) w) := by
  have HR := Lib.hid hr; have HRL := Lib.hid hr.len
  go_enter Try.func45, Try.ntmps45
  have bel_1 := Lib.hid (show Below w.heap.size w w from Below.refl _ w)
  have rd_2 := Lib.hid (hr)
  clear hr
  have bel_3 := Lib.hid (Below.alloc bel_1.out (bel_1.out.size) (.cells #[.int .i64 (p : Int), .slice A n k] 24))
  clear bel_1
  have rd_4 := Lib.hid (RdB.alloc rd_2.out (.cells #[.int .i64 (p : Int), .slice A n k] 24))
  clear rd_2
  have srd_5 := Lib.hid (Blk.new w 24 #[.int .i64 (p : Int), .slice A n k])
  have hc := rGreatest_any (p : Int) (x : Int) (y : Int) A n k l _ rd_4.out hn
  rw [E0.out] at hc
  try dsimp only at hc
  have HC := Lib.hid hc; clear hc
  go_wp2_with fail
  refine HC.out.mono ?_
  rintro e w_6 ⟨rfl, hb⟩
  clear HC
  have bel_7 := Lib.hid (Below.trans bel_3.out (Below.mono hb (bel_3.out.size)))
  clear bel_3
  have rd_8 := Lib.hid (RdB.below rd_4.out hb)
  clear rd_4
  have srd_9 := Lib.hid (Blk.keep srd_5.out hb)
  clear srd_5
  clear hb
  have z_10 : (w_6).cell? ⟨w.heap.size, 0, none⟩ = some (.int .i64 (p : Int)) := Blk.cell srd_9.out 0
  have z_11 : (w_6).cell? ⟨w.heap.size, 1, none⟩ = some (.slice A n k) := Blk.cell srd_9.out 1
  have hc := rgreat_any p x y A n k l _ rd_8.out (by omega) hk hS hx hy
  rw [F1.out] at hc
  rw [I1.out] at hc
  try dsimp only at hc
  have HC := Lib.hid hc; clear hc
  go_wp2_with fail
  refine HC.out.mono ?_
  rintro e w_12 ⟨rfl, hb⟩
  clear HC
  clear z_10 z_11
  have bel_13 := Lib.hid (Below.trans bel_7.out (Below.mono hb (bel_7.out.size)))
  clear bel_7
  have rd_14 := Lib.hid (RdB.below rd_8.out hb)
  clear rd_8
  have srd_15 := Lib.hid (Blk.keep srd_9.out hb)
  clear srd_9
  clear hb
  have z_16 : (w_12).cell? ⟨w.heap.size, 0, none⟩ = some (.int .i64 (p : Int)) := Blk.cell srd_15.out 0
  have z_17 : (w_12).cell? ⟨w.heap.size, 1, none⟩ = some (.slice A n k) := Blk.cell srd_15.out 1
  go_wp2_with fail
  refine (all_any p A n k l _ rd_14.out hn4).mono ?_
  rintro e w8 ⟨Az, nz, cz, rfl, ho, hb⟩
  clear z_16 z_17
  have HO := Lib.hid (owns_base ho (bel_13.out.size)); have HLZ := Lib.hid ((OwnI.rd ho).1.len); clear ho
  have bel_18 := Lib.hid (Below.trans bel_13.out (Below.mono hb (bel_13.out.size)))
  clear bel_13
  have rd_19 := Lib.hid (RdB.below rd_14.out hb)
  clear rd_14
  have srd_20 := Lib.hid (Blk.keep srd_15.out hb)
  clear srd_15
  clear hb
  have hal := allL_length l
  have HAL := Lib.hid (show (allL l).length ≤ 400 from by rw [HRL.out] at hal; omega)
  clear hal
  have hnz : nz ≤ 400 := by have h1 := HLZ.out; have h2 := HAL.out; omega
  go_wp2
  go_loopw [18, 17] (fun iv kv wr => ∃ (j : Nat) (kept : List Int) (Ak : Option Addr) (nk ck : Nat), iv = .int .i64 ((j : Int) - 1) ∧ kv = .slice Ak nk ck ∧ OwnI wr w.heap.size Ak nk ck kept ∧ j ≤ kept.length ∧ kept.length ≤ 400 ∧ lessLoop (holdsG p x y N) l j kept = V ∧ Blk wr w.heap.size 24 #[.int .i64 (p : Int), .slice A n k] ∧ Below w.heap.size w wr) (fun iv _ _ => (intOf iv + 1).toNat)
  case atStart => exact ⟨nz, allL l, Az, nz, cz, rfl, rfl, HO.out, by rw [HLZ.out]; exact Nat.le_refl _, HAL.out, by rw [← HLZ.out]; exact HV.out, srd_20.out, bel_18.out⟩
  case round =>
    obtain ⟨j, kept, Ak, nk, ck, hiv, rfl, hown, hj, hk4, hlo, hbx, hbe⟩ := hrel
    obtain ⟨wo, rfl⟩ : ∃ wo : World, wo = wr := ⟨wr, rfl⟩
    have hnk := (OwnI.rd hown).1.len
    have KO0 := Lib.hid hown; have KB0 := Lib.hid hbx; have KE0 := Lib.hid hbe; have HLO := Lib.hid hlo; clear hown hbx hbe hlo
    have hlt0 := KB0.out.lt
    rcases j with _ | i
    · obtain rfl : u18 = .int .i64 (-1) := hiv
      have hV : kept = V := HLO.out
      have HKO := Lib.hid (show OwnI wo w.heap.size Ak nk ck V from by rw [← hV]; exact KO0.out)
      clear hV hnk KO0
      go_wp2
      go_ret2
      exact ⟨Ak, nk, ck, rfl, HKO.out, KE0.out⟩
    · obtain rfl : u18 = .int .i64 (i : Int) := by rw [hiv]; congr 1; omega
      clear hiv
      have hi0 : (0 : Int) ≤ i := by omega
      have d0 : decide ((0 : Int) ≤ i) = true := decide_eq_true hi0
      have hstep : lessLoop (holdsG p x y N) l i (if holdsG p x y N (onlyL l (kept.eraseIdx i)) = true then kept.eraseIdx i else kept) = V := HLO.out
      have hle : (onlyL l (kept.eraseIdx i)).length ≤ 400 := Nat.le_trans (List.length_filter_le _ _) (by rw [HRL.out]; exact hn4)
      have HLE := Lib.hid hle; clear hle HLO
      obtain ⟨X, hX⟩ : ∃ X, fin (dist (onlyL l (kept.eraseIdx i)) p x y) = X := ⟨_, rfl⟩
      obtain ⟨T, hT⟩ : ∃ T, isF (dist (onlyL l (kept.eraseIdx i)) p x y) = T := ⟨_, rfl⟩
      have hsv := fun A2 n2 c2 W (h1 : RdB W A2 n2 c2 (onlyL l (kept.eraseIdx i))) (h2 : n2 ≤ 402) => rgreat_any p x y A2 n2 c2 (onlyL l (kept.eraseIdx i)) W h1 h2 (HK2.out _).1 (HK2.out _).2 hx hy
      rw [hX, hT] at hsv
      have hhold : holdsG p x y N (onlyL l (kept.eraseIdx i)) = (T && decide (X = N)) := by unfold holdsG; rw [hX, hT]
      rw [hhold] at hstep
      have HSV := Lib.hid hsv; clear hsv hT hX hhold
      have y0 : wo.cell? ⟨w.heap.size, 0, none⟩ = some (.int .i64 (p : Int)) := Blk.cell KB0.out 0
      cases T
      · rw [if_neg (by simp)] at hstep
        have HSTEP := Lib.hid hstep; clear hstep
        go_wp2_with fail
        clear y0
        have K0 := Lib.hid (Blk.drew KB0.out); have KE := Lib.hid (Below.drew KE0.out); have KR := Lib.hid (RdB.drew (RdB.below HR.out KE0.out)); have KO := Lib.hid (World.ownsRow.drew KO0.out)
        clear KB0 KE0 KO0
        refine wp_region_held_drew (S := (fun W' => Blk W' w.heap.size 24 #[.int .i64 (p : Int), .slice A n k])) (by kernel_rfl) K0.out (fun _ => ?_)
        obtain ⟨w63, hw64⟩ : ∃ w', w' = wo.drew := ⟨_, rfl⟩
        rw [← hw64] at K0 KE KR KO
        rw [← hw64]
        clear hw64
        refine' wpAnyH_take (i := 0) (oi := { dst := some 57, op := Go.Op.load 24 (Go.Operand.tmp 4), type := 24, pos := "ref.go:478", after := #[], guard := none }) (v := _) rfl (by kernel_rfl) (by kernel_rfl) (by kernel_rfl) (fun _ _ _ h => h) (Or.inl ⟨by rfl, ?hyR65⟩) K0.out ?reR65
        case hyR65 => (rintro W' hS0; have hc0 : W'.cell? ⟨w.heap.size, 0, none⟩ = some (.int .i64 (p : Int)) := Blk.cell hS0 0; have hc1 : W'.cell? ⟨w.heap.size, 1, none⟩ = some (.slice A n k) := Blk.cell hS0 1; clear hS0; go_simp; try with_reducible rfl)
        try simp only [Act.put, List.setIfInBounds_toArray, List.set_cons_zero, List.set_cons_succ]
        refine' wpAnyH_take (i := 1) (oi := { dst := some 58, op := Go.Op.move (Go.Operand.tmp 17), type := 33, pos := "ref.go:478", after := #[], guard := none }) (v := _) rfl (by kernel_rfl) (by kernel_rfl) (by kernel_rfl) (fun _ _ _ h => h) (Or.inl ⟨by rfl, ?hyR66⟩) K0.out ?reR66
        case hyR66 => (rintro W' hS0; clear hS0; go_simp; try with_reducible rfl)
        try simp only [Act.put, List.setIfInBounds_toArray, List.set_cons_zero, List.set_cons_succ]
        refine' wpAnyH_take (i := 2) (oi := { dst := some 59, op := Go.Op.move (Go.Operand.tmp 18), type := 3, pos := "ref.go:478", after := #[], guard := none }) (v := _) rfl (by kernel_rfl) (by kernel_rfl) (by kernel_rfl) (fun _ _ _ h => h) (Or.inl ⟨by rfl, ?hyR67⟩) K0.out ?reR67
        case hyR67 => (rintro W' hS0; clear hS0; go_simp; try with_reducible rfl)
        try simp only [Act.put, List.setIfInBounds_toArray, List.set_cons_zero, List.set_cons_succ]
        refine' wpAnyH_take (i := 5) (oi := { dst := some 62, op := Go.Op.move (Go.Operand.tmp 13), type := 3, pos := "ref.go:478", after := #[], guard := none }) (v := _) rfl (by kernel_rfl) (by kernel_rfl) (by kernel_rfl) (fun _ _ _ h => h) (Or.inl ⟨by rfl, ?hyR68⟩) K0.out ?reR68
        case hyR68 => (rintro W' hS0; clear hS0; go_simp; try with_reducible rfl)
        try simp only [Act.put, List.setIfInBounds_toArray, List.set_cons_zero, List.set_cons_succ]
        refine' wpAnyH_take (i := 6) (oi := { dst := some 63, op := Go.Op.move (Go.Operand.tmp 14), type := 3, pos := "ref.go:478", after := #[], guard := none }) (v := _) rfl (by kernel_rfl) (by kernel_rfl) (by kernel_rfl) (fun _ _ _ h => h) (Or.inl ⟨by rfl, ?hyR69⟩) K0.out ?reR69
        case hyR69 => (rintro W' hS0; clear hS0; go_simp; try with_reducible rfl)
        try simp only [Act.put, List.setIfInBounds_toArray, List.set_cons_zero, List.set_cons_succ]
        refine wpAnyH_ready (rs := [3]) (by kernel_rfl) (by simp) ?_
        refine AllReadyH.cons (o := { dst := some 60, op := Go.Op.call { callee := Go.Callee.value (Go.Operand.func 92), args := #[Go.Operand.tmp 58, Go.Operand.tmp 59], argTypes := #[33, 3] }, type := 33, pos := "ref.go:478", after := #[{ on := 1, ground := Go.Ground.data }, { on := 2, ground := Go.Ground.data }], guard := none }) rfl (fun K hK => ?_) ?_
        · -- 3: call
          go_simp
          go_at_call 92
          refine (less_any Ak nk ck i kept _ (OwnI.rd KO.out).1 (by omega) (by omega)).mono ?_
          rintro e w70 ⟨B1, d1, rfl, ho1, hb71⟩
          dsimp only
          have b0_72 := Lib.hid (Blk.keep (K0.out) hb71)
          have bel_73 := Lib.hid (Below.trans (KE.out) (Below.mono hb71 ((KE.out).size)))
          have rd_74 := Lib.hid (RdB.below (KR.out) hb71)
          have cp_75 := Lib.hid (owns_below (KO.out) hb71)
          have O1 := Lib.hid (OwnI.rd ho1).1; clear ho1
          refine hK.out _ _ b0_72.out (fun _ => ?_); clear hK K
          try simp only [Act.put, List.setIfInBounds_toArray, List.set_cons_zero, List.set_cons_succ]
          refine wpAnyH_ready (rs := [4]) (by kernel_rfl) (by simp) ?_
          refine AllReadyH.cons (o := { dst := some 61, op := Go.Op.call { callee := Go.Callee.value (Go.Operand.func 91), args := #[Go.Operand.tmp 57, Go.Operand.tmp 60], argTypes := #[24, 33] }, type := 24, pos := "ref.go:478", after := #[{ on := 0, ground := Go.Ground.data }, { on := 3, ground := Go.Ground.data }, { on := 3, ground := Go.Ground.chain }], guard := none }) rfl (fun K hK => ?_) ?_
          · -- 4: call
            go_simp
            go_at_call 91
            refine (only_any p A B1 n k (nk - 1) d1 l (kept.eraseIdx i) _ rd_74.out hn4 O1.out (by unfold maxLen; omega)).mono ?_
            rintro e w76 ⟨A2, n2, c2, rfl, ho2, hb77⟩
            dsimp only
            have b0_78 := Lib.hid (Blk.keep (b0_72.out) hb77)
            have bel_79 := Lib.hid (Below.trans (bel_73.out) (Below.mono hb77 ((bel_73.out).size)))
            have rd_80 := Lib.hid (RdB.below (rd_74.out) hb77)
            have cp_81 := Lib.hid (owns_below (cp_75.out) hb77)
            have r1_82 := Lib.hid (RdI.below (O1.out) hb77)
            have O2 := Lib.hid (OwnB.rd ho2).1; clear ho2
            have hn2 : n2 ≤ 400 := by have h1 := O2.out.len; have h2 := HLE.out; omega
            refine hK.out _ _ b0_78.out (fun _ => ?_); clear hK K
            try simp only [Act.put, List.setIfInBounds_toArray, List.set_cons_zero, List.set_cons_succ]
            refine wpAnyH_ready (rs := [7]) (by kernel_rfl) (by simp) ?_
            refine AllReadyH.cons (o := { dst := some 64, op := Go.Op.call { callee := Go.Callee.value (Go.Operand.func 79), args := #[Go.Operand.tmp 61, Go.Operand.tmp 62, Go.Operand.tmp 63], argTypes := #[24, 3, 3] }, type := 85, pos := "ref.go:478", after := #[{ on := 4, ground := Go.Ground.data }, { on := 5, ground := Go.Ground.data }, { on := 6, ground := Go.Ground.data }, { on := 4, ground := Go.Ground.chain }], guard := none }) rfl (fun K hK => ?_) ?_
            · -- 7: call
              go_simp
              go_at_call 79
              refine (HSV.out A2 n2 c2 _ O2.out (by omega)).mono ?_
              rintro e w83 ⟨rfl, hb84⟩
              dsimp only
              have b0_85 := Lib.hid (Blk.keep (b0_78.out) hb84)
              have bel_86 := Lib.hid (Below.trans (bel_79.out) (Below.mono hb84 ((bel_79.out).size)))
              have rd_87 := Lib.hid (RdB.below (rd_80.out) hb84)
              have cp_88 := Lib.hid (owns_below (cp_81.out) hb84)
              have r1_89 := Lib.hid (RdI.below (r1_82.out) hb84)
              have r2_90 := Lib.hid (RdB.below (O2.out) hb84)
              refine hK.out _ _ b0_85.out (fun _ => ?_); clear hK K
              try simp only [Act.put, List.setIfInBounds_toArray, List.set_cons_zero, List.set_cons_succ]
              refine' wpAnyH_take (i := 8) (oi := { dst := some 56, op := Go.Op.move (Go.Operand.tmp 64), type := 85, pos := "ref.go:478", after := #[{ on := 7, ground := Go.Ground.data }], guard := none }) (v := _) rfl (by kernel_rfl) (by kernel_rfl) (by kernel_rfl) (fun _ _ _ h => h) (Or.inl ⟨by rfl, ?hyR91⟩) b0_85.out ?reR91
              case hyR91 => (rintro W' hS0; clear hS0; go_simp; try with_reducible rfl)
              try simp only [Act.put, List.setIfInBounds_toArray, List.set_cons_zero, List.set_cons_succ]
              refine' wpAnyH_take (i := 9) (oi := { dst := some 65, op := Go.Op.extract (Go.Operand.tmp 56) 0, type := 3, pos := "ref.go:478", after := #[{ on := 8, ground := Go.Ground.data }], guard := none }) (v := _) rfl (by kernel_rfl) (by kernel_rfl) (by kernel_rfl) (fun _ _ _ h => h) (Or.inl ⟨by rfl, ?hyR92⟩) b0_85.out ?reR92
              case hyR92 => (rintro W' hS0; clear hS0; go_simp; try with_reducible rfl)
              try simp only [Act.put, List.setIfInBounds_toArray, List.set_cons_zero, List.set_cons_succ]
              refine' wpAnyH_take (i := 10) (oi := { dst := some 66, op := Go.Op.extract (Go.Operand.tmp 56) 1, type := 4, pos := "ref.go:478", after := #[{ on := 8, ground := Go.Ground.data }, { on := 11, ground := Go.Ground.gcOnly Go.Departure.lateStores }], guard := none }) (v := _) rfl (by kernel_rfl) (by kernel_rfl) (by kernel_rfl) (fun _ _ _ h => h) (Or.inl ⟨by rfl, ?hyR93⟩) b0_85.out ?reR93
              case hyR93 => (rintro W' hS0; clear hS0; go_simp; try with_reducible rfl)
              try simp only [Act.put, List.setIfInBounds_toArray, List.set_cons_zero, List.set_cons_succ]
              refine' wpAnyH_take (i := 11) (oi := { dst := some 19, op := Go.Op.assign (Go.Operand.tmp 65), type := 3, pos := "ref.go:478", after := #[{ on := 9, ground := Go.Ground.data }, { on := 7, ground := Go.Ground.chain }, { on := 0, ground := Go.Ground.phase }, { on := 1, ground := Go.Ground.phase }, { on := 2, ground := Go.Ground.phase }, { on := 3, ground := Go.Ground.phase }, { on := 4, ground := Go.Ground.phase }, { on := 5, ground := Go.Ground.phase }, { on := 6, ground := Go.Ground.phase }, { on := 7, ground := Go.Ground.phase }, { on := 8, ground := Go.Ground.phase }, { on := 9, ground := Go.Ground.phase }, { on := 10, ground := Go.Ground.textOnly Go.Departure.lateStores }], guard := none }) (v := _) rfl (by kernel_rfl) (by kernel_rfl) (by kernel_rfl) (fun _ _ _ h => h) (Or.inl ⟨by rfl, ?hyR94⟩) b0_85.out ?reR94
              case hyR94 => (rintro W' hS0; clear hS0; go_simp; try with_reducible rfl)
              try simp only [Act.put, List.setIfInBounds_toArray, List.set_cons_zero, List.set_cons_succ]
              refine' wpAnyH_take (i := 12) (oi := { dst := some 20, op := Go.Op.assign (Go.Operand.tmp 66), type := 4, pos := "ref.go:478", after := #[{ on := 10, ground := Go.Ground.data }, { on := 11, ground := Go.Ground.chain }, { on := 0, ground := Go.Ground.phase }, { on := 1, ground := Go.Ground.phase }, { on := 2, ground := Go.Ground.phase }, { on := 3, ground := Go.Ground.phase }, { on := 4, ground := Go.Ground.phase }, { on := 5, ground := Go.Ground.phase }, { on := 6, ground := Go.Ground.phase }, { on := 7, ground := Go.Ground.phase }, { on := 8, ground := Go.Ground.phase }, { on := 9, ground := Go.Ground.phase }, { on := 10, ground := Go.Ground.phase }, { on := 11, ground := Go.Ground.phase }], guard := none }) (v := _) rfl (by kernel_rfl) (by kernel_rfl) (by kernel_rfl) (fun _ _ _ h => h) (Or.inl ⟨by rfl, ?hyR95⟩) b0_85.out ?reR95
              case hyR95 => (rintro W' hS0; clear hS0; go_simp; try with_reducible rfl)
              try simp only [Act.put, List.setIfInBounds_toArray, List.set_cons_zero, List.set_cons_succ]
              refine wpAnyH_done (by kernel_rfl) ?_ _
              go_wp2
              go_roundw
              case rel => exact ⟨i, kept, Ak, nk, ck, rfl, rfl, cp_88.out, by omega, hk4, HSTEP.out, b0_85.out, bel_86.out⟩
              case measure => (simp [intOf]; try omega)
            exact AllReadyH.nil
          exact AllReadyH.nil
        exact AllReadyH.nil
      · by_cases hXN : X = N
        · subst hXN
          rw [if_pos (by simp)] at hstep
          have HSTEP := Lib.hid hstep; clear hstep
          go_wp2_with fail
          clear y0
          have K0 := Lib.hid (Blk.drew KB0.out); have KE := Lib.hid (Below.drew KE0.out); have KR := Lib.hid (RdB.drew (RdB.below HR.out KE0.out)); have KO := Lib.hid (World.ownsRow.drew KO0.out)
          clear KB0 KE0 KO0
          refine wp_region_held_drew (S := (fun W' => Blk W' w.heap.size 24 #[.int .i64 (p : Int), .slice A n k])) (by kernel_rfl) K0.out (fun _ => ?_)
          obtain ⟨w96, hw97⟩ : ∃ w', w' = wo.drew := ⟨_, rfl⟩
          rw [← hw97] at K0 KE KR KO
          rw [← hw97]
          clear hw97
          refine' wpAnyH_take (i := 0) (oi := { dst := some 57, op := Go.Op.load 24 (Go.Operand.tmp 4), type := 24, pos := "ref.go:478", after := #[], guard := none }) (v := _) rfl (by kernel_rfl) (by kernel_rfl) (by kernel_rfl) (fun _ _ _ h => h) (Or.inl ⟨by rfl, ?hyR98⟩) K0.out ?reR98
          case hyR98 => (rintro W' hS0; have hc0 : W'.cell? ⟨w.heap.size, 0, none⟩ = some (.int .i64 (p : Int)) := Blk.cell hS0 0; have hc1 : W'.cell? ⟨w.heap.size, 1, none⟩ = some (.slice A n k) := Blk.cell hS0 1; clear hS0; go_simp; try with_reducible rfl)
          try simp only [Act.put, List.setIfInBounds_toArray, List.set_cons_zero, List.set_cons_succ]
          refine' wpAnyH_take (i := 1) (oi := { dst := some 58, op := Go.Op.move (Go.Operand.tmp 17), type := 33, pos := "ref.go:478", after := #[], guard := none }) (v := _) rfl (by kernel_rfl) (by kernel_rfl) (by kernel_rfl) (fun _ _ _ h => h) (Or.inl ⟨by rfl, ?hyR99⟩) K0.out ?reR99
          case hyR99 => (rintro W' hS0; clear hS0; go_simp; try with_reducible rfl)
          try simp only [Act.put, List.setIfInBounds_toArray, List.set_cons_zero, List.set_cons_succ]
          refine' wpAnyH_take (i := 2) (oi := { dst := some 59, op := Go.Op.move (Go.Operand.tmp 18), type := 3, pos := "ref.go:478", after := #[], guard := none }) (v := _) rfl (by kernel_rfl) (by kernel_rfl) (by kernel_rfl) (fun _ _ _ h => h) (Or.inl ⟨by rfl, ?hyR100⟩) K0.out ?reR100
          case hyR100 => (rintro W' hS0; clear hS0; go_simp; try with_reducible rfl)
          try simp only [Act.put, List.setIfInBounds_toArray, List.set_cons_zero, List.set_cons_succ]
          refine' wpAnyH_take (i := 5) (oi := { dst := some 62, op := Go.Op.move (Go.Operand.tmp 13), type := 3, pos := "ref.go:478", after := #[], guard := none }) (v := _) rfl (by kernel_rfl) (by kernel_rfl) (by kernel_rfl) (fun _ _ _ h => h) (Or.inl ⟨by rfl, ?hyR101⟩) K0.out ?reR101
          case hyR101 => (rintro W' hS0; clear hS0; go_simp; try with_reducible rfl)
          try simp only [Act.put, List.setIfInBounds_toArray, List.set_cons_zero, List.set_cons_succ]
          refine' wpAnyH_take (i := 6) (oi := { dst := some 63, op := Go.Op.move (Go.Operand.tmp 14), type := 3, pos := "ref.go:478", after := #[], guard := none }) (v := _) rfl (by kernel_rfl) (by kernel_rfl) (by kernel_rfl) (fun _ _ _ h => h) (Or.inl ⟨by rfl, ?hyR102⟩) K0.out ?reR102
          case hyR102 => (rintro W' hS0; clear hS0; go_simp; try with_reducible rfl)
          try simp only [Act.put, List.setIfInBounds_toArray, List.set_cons_zero, List.set_cons_succ]
          refine wpAnyH_ready (rs := [3]) (by kernel_rfl) (by simp) ?_
          refine AllReadyH.cons (o := { dst := some 60, op := Go.Op.call { callee := Go.Callee.value (Go.Operand.func 92), args := #[Go.Operand.tmp 58, Go.Operand.tmp 59], argTypes := #[33, 3] }, type := 33, pos := "ref.go:478", after := #[{ on := 1, ground := Go.Ground.data }, { on := 2, ground := Go.Ground.data }], guard := none }) rfl (fun K hK => ?_) ?_
          · -- 3: call
            go_simp
            go_at_call 92
            refine (less_any Ak nk ck i kept _ (OwnI.rd KO.out).1 (by omega) (by omega)).mono ?_
            rintro e w103 ⟨B1, d1, rfl, ho1, hb104⟩
            dsimp only
            have b0_105 := Lib.hid (Blk.keep (K0.out) hb104)
            have bel_106 := Lib.hid (Below.trans (KE.out) (Below.mono hb104 ((KE.out).size)))
            have rd_107 := Lib.hid (RdB.below (KR.out) hb104)
            have cp_108 := Lib.hid (owns_below (KO.out) hb104)
            have O1 := Lib.hid (OwnI.rd ho1).1; clear ho1
            refine hK.out _ _ b0_105.out (fun _ => ?_); clear hK K
            try simp only [Act.put, List.setIfInBounds_toArray, List.set_cons_zero, List.set_cons_succ]
            refine wpAnyH_ready (rs := [4]) (by kernel_rfl) (by simp) ?_
            refine AllReadyH.cons (o := { dst := some 61, op := Go.Op.call { callee := Go.Callee.value (Go.Operand.func 91), args := #[Go.Operand.tmp 57, Go.Operand.tmp 60], argTypes := #[24, 33] }, type := 24, pos := "ref.go:478", after := #[{ on := 0, ground := Go.Ground.data }, { on := 3, ground := Go.Ground.data }, { on := 3, ground := Go.Ground.chain }], guard := none }) rfl (fun K hK => ?_) ?_
            · -- 4: call
              go_simp
              go_at_call 91
              refine (only_any p A B1 n k (nk - 1) d1 l (kept.eraseIdx i) _ rd_107.out hn4 O1.out (by unfold maxLen; omega)).mono ?_
              rintro e w109 ⟨A2, n2, c2, rfl, ho2, hb110⟩
              dsimp only
              have b0_111 := Lib.hid (Blk.keep (b0_105.out) hb110)
              have bel_112 := Lib.hid (Below.trans (bel_106.out) (Below.mono hb110 ((bel_106.out).size)))
              have rd_113 := Lib.hid (RdB.below (rd_107.out) hb110)
              have cp_114 := Lib.hid (owns_below (cp_108.out) hb110)
              have r1_115 := Lib.hid (RdI.below (O1.out) hb110)
              have O2 := Lib.hid (OwnB.rd ho2).1; clear ho2
              have hn2 : n2 ≤ 400 := by have h1 := O2.out.len; have h2 := HLE.out; omega
              refine hK.out _ _ b0_111.out (fun _ => ?_); clear hK K
              try simp only [Act.put, List.setIfInBounds_toArray, List.set_cons_zero, List.set_cons_succ]
              refine wpAnyH_ready (rs := [7]) (by kernel_rfl) (by simp) ?_
              refine AllReadyH.cons (o := { dst := some 64, op := Go.Op.call { callee := Go.Callee.value (Go.Operand.func 79), args := #[Go.Operand.tmp 61, Go.Operand.tmp 62, Go.Operand.tmp 63], argTypes := #[24, 3, 3] }, type := 85, pos := "ref.go:478", after := #[{ on := 4, ground := Go.Ground.data }, { on := 5, ground := Go.Ground.data }, { on := 6, ground := Go.Ground.data }, { on := 4, ground := Go.Ground.chain }], guard := none }) rfl (fun K hK => ?_) ?_
              · -- 7: call
                go_simp
                go_at_call 79
                refine (HSV.out A2 n2 c2 _ O2.out (by omega)).mono ?_
                rintro e w116 ⟨rfl, hb117⟩
                dsimp only
                have b0_118 := Lib.hid (Blk.keep (b0_111.out) hb117)
                have bel_119 := Lib.hid (Below.trans (bel_112.out) (Below.mono hb117 ((bel_112.out).size)))
                have rd_120 := Lib.hid (RdB.below (rd_113.out) hb117)
                have cp_121 := Lib.hid (owns_below (cp_114.out) hb117)
                have r1_122 := Lib.hid (RdI.below (r1_115.out) hb117)
                have r2_123 := Lib.hid (RdB.below (O2.out) hb117)
                refine hK.out _ _ b0_118.out (fun _ => ?_); clear hK K
                try simp only [Act.put, List.setIfInBounds_toArray, List.set_cons_zero, List.set_cons_succ]
                refine' wpAnyH_take (i := 8) (oi := { dst := some 56, op := Go.Op.move (Go.Operand.tmp 64), type := 85, pos := "ref.go:478", after := #[{ on := 7, ground := Go.Ground.data }], guard := none }) (v := _) rfl (by kernel_rfl) (by kernel_rfl) (by kernel_rfl) (fun _ _ _ h => h) (Or.inl ⟨by rfl, ?hyR124⟩) b0_118.out ?reR124
                case hyR124 => (rintro W' hS0; clear hS0; go_simp; try with_reducible rfl)
                try simp only [Act.put, List.setIfInBounds_toArray, List.set_cons_zero, List.set_cons_succ]
                refine' wpAnyH_take (i := 9) (oi := { dst := some 65, op := Go.Op.extract (Go.Operand.tmp 56) 0, type := 3, pos := "ref.go:478", after := #[{ on := 8, ground := Go.Ground.data }], guard := none }) (v := _) rfl (by kernel_rfl) (by kernel_rfl) (by kernel_rfl) (fun _ _ _ h => h) (Or.inl ⟨by rfl, ?hyR125⟩) b0_118.out ?reR125
                case hyR125 => (rintro W' hS0; clear hS0; go_simp; try with_reducible rfl)
                try simp only [Act.put, List.setIfInBounds_toArray, List.set_cons_zero, List.set_cons_succ]
                refine' wpAnyH_take (i := 10) (oi := { dst := some 66, op := Go.Op.extract (Go.Operand.tmp 56) 1, type := 4, pos := "ref.go:478", after := #[{ on := 8, ground := Go.Ground.data }, { on := 11, ground := Go.Ground.gcOnly Go.Departure.lateStores }], guard := none }) (v := _) rfl (by kernel_rfl) (by kernel_rfl) (by kernel_rfl) (fun _ _ _ h => h) (Or.inl ⟨by rfl, ?hyR126⟩) b0_118.out ?reR126
                case hyR126 => (rintro W' hS0; clear hS0; go_simp; try with_reducible rfl)
                try simp only [Act.put, List.setIfInBounds_toArray, List.set_cons_zero, List.set_cons_succ]
                refine' wpAnyH_take (i := 11) (oi := { dst := some 19, op := Go.Op.assign (Go.Operand.tmp 65), type := 3, pos := "ref.go:478", after := #[{ on := 9, ground := Go.Ground.data }, { on := 7, ground := Go.Ground.chain }, { on := 0, ground := Go.Ground.phase }, { on := 1, ground := Go.Ground.phase }, { on := 2, ground := Go.Ground.phase }, { on := 3, ground := Go.Ground.phase }, { on := 4, ground := Go.Ground.phase }, { on := 5, ground := Go.Ground.phase }, { on := 6, ground := Go.Ground.phase }, { on := 7, ground := Go.Ground.phase }, { on := 8, ground := Go.Ground.phase }, { on := 9, ground := Go.Ground.phase }, { on := 10, ground := Go.Ground.textOnly Go.Departure.lateStores }], guard := none }) (v := _) rfl (by kernel_rfl) (by kernel_rfl) (by kernel_rfl) (fun _ _ _ h => h) (Or.inl ⟨by rfl, ?hyR127⟩) b0_118.out ?reR127
                case hyR127 => (rintro W' hS0; clear hS0; go_simp; try with_reducible rfl)
                try simp only [Act.put, List.setIfInBounds_toArray, List.set_cons_zero, List.set_cons_succ]
                refine' wpAnyH_take (i := 12) (oi := { dst := some 20, op := Go.Op.assign (Go.Operand.tmp 66), type := 4, pos := "ref.go:478", after := #[{ on := 10, ground := Go.Ground.data }, { on := 11, ground := Go.Ground.chain }, { on := 0, ground := Go.Ground.phase }, { on := 1, ground := Go.Ground.phase }, { on := 2, ground := Go.Ground.phase }, { on := 3, ground := Go.Ground.phase }, { on := 4, ground := Go.Ground.phase }, { on := 5, ground := Go.Ground.phase }, { on := 6, ground := Go.Ground.phase }, { on := 7, ground := Go.Ground.phase }, { on := 8, ground := Go.Ground.phase }, { on := 9, ground := Go.Ground.phase }, { on := 10, ground := Go.Ground.phase }, { on := 11, ground := Go.Ground.phase }], guard := none }) (v := _) rfl (by kernel_rfl) (by kernel_rfl) (by kernel_rfl) (fun _ _ _ h => h) (Or.inl ⟨by rfl, ?hyR128⟩) b0_118.out ?reR128
                case hyR128 => (rintro W' hS0; clear hS0; go_simp; try with_reducible rfl)
                try simp only [Act.put, List.setIfInBounds_toArray, List.set_cons_zero, List.set_cons_succ]
                refine wpAnyH_done (by kernel_rfl) ?_ _
                go_wp2_with fail
                refine (less_any Ak nk ck i kept _ (OwnI.rd cp_121.out).1 (by omega) (by omega)).mono ?_
                rintro e w9 ⟨B9, d9, rfl, ho9, hb9⟩
                have H9 := Lib.hid (owns_base ho9 (bel_119.out.size)); have K9 := Lib.hid (Blk.keep b0_118.out hb9); have E9 := Lib.hid (Below.trans bel_119.out (Below.mono hb9 bel_119.out.size)); clear ho9 hb9
                have hle9 : (kept.eraseIdx i).length = kept.length - 1 := by rw [List.length_eraseIdx]; rw [if_pos (by omega)]
                go_wp2
                go_roundw
                case rel => exact ⟨i, kept.eraseIdx i, B9, nk - 1, d9, rfl, rfl, H9.out, by omega, by omega, HSTEP.out, K9.out, E9.out⟩
                case measure => (simp [intOf]; try omega)
              exact AllReadyH.nil
            exact AllReadyH.nil
          exact AllReadyH.nil
        · rw [if_neg (by simp [hXN])] at hstep
          have HSTEP := Lib.hid hstep; clear hstep
          have e1 : (X == N) = false := beq_eq_false_iff_ne.2 hXN
          have e2 : decide (X = N) = false := decide_eq_false hXN
          go_wp2_with fail
          clear y0
          have K0 := Lib.hid (Blk.drew KB0.out); have KE := Lib.hid (Below.drew KE0.out); have KR := Lib.hid (RdB.drew (RdB.below HR.out KE0.out)); have KO := Lib.hid (World.ownsRow.drew KO0.out)
          clear KB0 KE0 KO0
          refine wp_region_held_drew (S := (fun W' => Blk W' w.heap.size 24 #[.int .i64 (p : Int), .slice A n k])) (by kernel_rfl) K0.out (fun _ => ?_)
          obtain ⟨w129, hw130⟩ : ∃ w', w' = wo.drew := ⟨_, rfl⟩
          rw [← hw130] at K0 KE KR KO
          rw [← hw130]
          clear hw130
          refine' wpAnyH_take (i := 0) (oi := { dst := some 57, op := Go.Op.load 24 (Go.Operand.tmp 4), type := 24, pos := "ref.go:478", after := #[], guard := none }) (v := _) rfl (by kernel_rfl) (by kernel_rfl) (by kernel_rfl) (fun _ _ _ h => h) (Or.inl ⟨by rfl, ?hyR131⟩) K0.out ?reR131
          case hyR131 => (rintro W' hS0; have hc0 : W'.cell? ⟨w.heap.size, 0, none⟩ = some (.int .i64 (p : Int)) := Blk.cell hS0 0; have hc1 : W'.cell? ⟨w.heap.size, 1, none⟩ = some (.slice A n k) := Blk.cell hS0 1; clear hS0; go_simp; try with_reducible rfl)
          try simp only [Act.put, List.setIfInBounds_toArray, List.set_cons_zero, List.set_cons_succ]
          refine' wpAnyH_take (i := 1) (oi := { dst := some 58, op := Go.Op.move (Go.Operand.tmp 17), type := 33, pos := "ref.go:478", after := #[], guard := none }) (v := _) rfl (by kernel_rfl) (by kernel_rfl) (by kernel_rfl) (fun _ _ _ h => h) (Or.inl ⟨by rfl, ?hyR132⟩) K0.out ?reR132
          case hyR132 => (rintro W' hS0; clear hS0; go_simp; try with_reducible rfl)
          try simp only [Act.put, List.setIfInBounds_toArray, List.set_cons_zero, List.set_cons_succ]
          refine' wpAnyH_take (i := 2) (oi := { dst := some 59, op := Go.Op.move (Go.Operand.tmp 18), type := 3, pos := "ref.go:478", after := #[], guard := none }) (v := _) rfl (by kernel_rfl) (by kernel_rfl) (by kernel_rfl) (fun _ _ _ h => h) (Or.inl ⟨by rfl, ?hyR133⟩) K0.out ?reR133
          case hyR133 => (rintro W' hS0; clear hS0; go_simp; try with_reducible rfl)
          try simp only [Act.put, List.setIfInBounds_toArray, List.set_cons_zero, List.set_cons_succ]
          refine' wpAnyH_take (i := 5) (oi := { dst := some 62, op := Go.Op.move (Go.Operand.tmp 13), type := 3, pos := "ref.go:478", after := #[], guard := none }) (v := _) rfl (by kernel_rfl) (by kernel_rfl) (by kernel_rfl) (fun _ _ _ h => h) (Or.inl ⟨by rfl, ?hyR134⟩) K0.out ?reR134
          case hyR134 => (rintro W' hS0; clear hS0; go_simp; try with_reducible rfl)
          try simp only [Act.put, List.setIfInBounds_toArray, List.set_cons_zero, List.set_cons_succ]
          refine' wpAnyH_take (i := 6) (oi := { dst := some 63, op := Go.Op.move (Go.Operand.tmp 14), type := 3, pos := "ref.go:478", after := #[], guard := none }) (v := _) rfl (by kernel_rfl) (by kernel_rfl) (by kernel_rfl) (fun _ _ _ h => h) (Or.inl ⟨by rfl, ?hyR135⟩) K0.out ?reR135
          case hyR135 => (rintro W' hS0; clear hS0; go_simp; try with_reducible rfl)
          try simp only [Act.put, List.setIfInBounds_toArray, List.set_cons_zero, List.set_cons_succ]
          refine wpAnyH_ready (rs := [3]) (by kernel_rfl) (by simp) ?_
          refine AllReadyH.cons (o := { dst := some 60, op := Go.Op.call { callee := Go.Callee.value (Go.Operand.func 92), args := #[Go.Operand.tmp 58, Go.Operand.tmp 59], argTypes := #[33, 3] }, type := 33, pos := "ref.go:478", after := #[{ on := 1, ground := Go.Ground.data }, { on := 2, ground := Go.Ground.data }], guard := none }) rfl (fun K hK => ?_) ?_
          · -- 3: call
            go_simp
            go_at_call 92
            refine (less_any Ak nk ck i kept _ (OwnI.rd KO.out).1 (by omega) (by omega)).mono ?_
            rintro e w136 ⟨B1, d1, rfl, ho1, hb137⟩
            dsimp only
            have b0_138 := Lib.hid (Blk.keep (K0.out) hb137)
            have bel_139 := Lib.hid (Below.trans (KE.out) (Below.mono hb137 ((KE.out).size)))
            have rd_140 := Lib.hid (RdB.below (KR.out) hb137)
            have cp_141 := Lib.hid (owns_below (KO.out) hb137)
            have O1 := Lib.hid (OwnI.rd ho1).1; clear ho1
            refine hK.out _ _ b0_138.out (fun _ => ?_); clear hK K
            try simp only [Act.put, List.setIfInBounds_toArray, List.set_cons_zero, List.set_cons_succ]
            refine wpAnyH_ready (rs := [4]) (by kernel_rfl) (by simp) ?_
            refine AllReadyH.cons (o := { dst := some 61, op := Go.Op.call { callee := Go.Callee.value (Go.Operand.func 91), args := #[Go.Operand.tmp 57, Go.Operand.tmp 60], argTypes := #[24, 33] }, type := 24, pos := "ref.go:478", after := #[{ on := 0, ground := Go.Ground.data }, { on := 3, ground := Go.Ground.data }, { on := 3, ground := Go.Ground.chain }], guard := none }) rfl (fun K hK => ?_) ?_
            · -- 4: call
              go_simp
              go_at_call 91
              refine (only_any p A B1 n k (nk - 1) d1 l (kept.eraseIdx i) _ rd_140.out hn4 O1.out (by unfold maxLen; omega)).mono ?_
              rintro e w142 ⟨A2, n2, c2, rfl, ho2, hb143⟩
              dsimp only
              have b0_144 := Lib.hid (Blk.keep (b0_138.out) hb143)
              have bel_145 := Lib.hid (Below.trans (bel_139.out) (Below.mono hb143 ((bel_139.out).size)))
              have rd_146 := Lib.hid (RdB.below (rd_140.out) hb143)
              have cp_147 := Lib.hid (owns_below (cp_141.out) hb143)
              have r1_148 := Lib.hid (RdI.below (O1.out) hb143)
              have O2 := Lib.hid (OwnB.rd ho2).1; clear ho2
              have hn2 : n2 ≤ 400 := by have h1 := O2.out.len; have h2 := HLE.out; omega
              refine hK.out _ _ b0_144.out (fun _ => ?_); clear hK K
              try simp only [Act.put, List.setIfInBounds_toArray, List.set_cons_zero, List.set_cons_succ]
              refine wpAnyH_ready (rs := [7]) (by kernel_rfl) (by simp) ?_
              refine AllReadyH.cons (o := { dst := some 64, op := Go.Op.call { callee := Go.Callee.value (Go.Operand.func 79), args := #[Go.Operand.tmp 61, Go.Operand.tmp 62, Go.Operand.tmp 63], argTypes := #[24, 3, 3] }, type := 85, pos := "ref.go:478", after := #[{ on := 4, ground := Go.Ground.data }, { on := 5, ground := Go.Ground.data }, { on := 6, ground := Go.Ground.data }, { on := 4, ground := Go.Ground.chain }], guard := none }) rfl (fun K hK => ?_) ?_
              · -- 7: call
                go_simp
                go_at_call 79
                refine (HSV.out A2 n2 c2 _ O2.out (by omega)).mono ?_
                rintro e w149 ⟨rfl, hb150⟩
                dsimp only
                have b0_151 := Lib.hid (Blk.keep (b0_144.out) hb150)
                have bel_152 := Lib.hid (Below.trans (bel_145.out) (Below.mono hb150 ((bel_145.out).size)))
                have rd_153 := Lib.hid (RdB.below (rd_146.out) hb150)
                have cp_154 := Lib.hid (owns_below (cp_147.out) hb150)
                have r1_155 := Lib.hid (RdI.below (r1_148.out) hb150)
                have r2_156 := Lib.hid (RdB.below (O2.out) hb150)
                refine hK.out _ _ b0_151.out (fun _ => ?_); clear hK K
                try simp only [Act.put, List.setIfInBounds_toArray, List.set_cons_zero, List.set_cons_succ]
                refine' wpAnyH_take (i := 8) (oi := { dst := some 56, op := Go.Op.move (Go.Operand.tmp 64), type := 85, pos := "ref.go:478", after := #[{ on := 7, ground := Go.Ground.data }], guard := none }) (v := _) rfl (by kernel_rfl) (by kernel_rfl) (by kernel_rfl) (fun _ _ _ h => h) (Or.inl ⟨by rfl, ?hyR157⟩) b0_151.out ?reR157
                case hyR157 => (rintro W' hS0; clear hS0; go_simp; try with_reducible rfl)
                try simp only [Act.put, List.setIfInBounds_toArray, List.set_cons_zero, List.set_cons_succ]
                refine' wpAnyH_take (i := 9) (oi := { dst := some 65, op := Go.Op.extract (Go.Operand.tmp 56) 0, type := 3, pos := "ref.go:478", after := #[{ on := 8, ground := Go.Ground.data }], guard := none }) (v := _) rfl (by kernel_rfl) (by kernel_rfl) (by kernel_rfl) (fun _ _ _ h => h) (Or.inl ⟨by rfl, ?hyR158⟩) b0_151.out ?reR158
                case hyR158 => (rintro W' hS0; clear hS0; go_simp; try with_reducible rfl)
                try simp only [Act.put, List.setIfInBounds_toArray, List.set_cons_zero, List.set_cons_succ]
                refine' wpAnyH_take (i := 10) (oi := { dst := some 66, op := Go.Op.extract (Go.Operand.tmp 56) 1, type := 4, pos := "ref.go:478", after := #[{ on := 8, ground := Go.Ground.data }, { on := 11, ground := Go.Ground.gcOnly Go.Departure.lateStores }], guard := none }) (v := _) rfl (by kernel_rfl) (by kernel_rfl) (by kernel_rfl) (fun _ _ _ h => h) (Or.inl ⟨by rfl, ?hyR159⟩) b0_151.out ?reR159
                case hyR159 => (rintro W' hS0; clear hS0; go_simp; try with_reducible rfl)
                try simp only [Act.put, List.setIfInBounds_toArray, List.set_cons_zero, List.set_cons_succ]
                refine' wpAnyH_take (i := 11) (oi := { dst := some 19, op := Go.Op.assign (Go.Operand.tmp 65), type := 3, pos := "ref.go:478", after := #[{ on := 9, ground := Go.Ground.data }, { on := 7, ground := Go.Ground.chain }, { on := 0, ground := Go.Ground.phase }, { on := 1, ground := Go.Ground.phase }, { on := 2, ground := Go.Ground.phase }, { on := 3, ground := Go.Ground.phase }, { on := 4, ground := Go.Ground.phase }, { on := 5, ground := Go.Ground.phase }, { on := 6, ground := Go.Ground.phase }, { on := 7, ground := Go.Ground.phase }, { on := 8, ground := Go.Ground.phase }, { on := 9, ground := Go.Ground.phase }, { on := 10, ground := Go.Ground.textOnly Go.Departure.lateStores }], guard := none }) (v := _) rfl (by kernel_rfl) (by kernel_rfl) (by kernel_rfl) (fun _ _ _ h => h) (Or.inl ⟨by rfl, ?hyR160⟩) b0_151.out ?reR160
                case hyR160 => (rintro W' hS0; clear hS0; go_simp; try with_reducible rfl)
                try simp only [Act.put, List.setIfInBounds_toArray, List.set_cons_zero, List.set_cons_succ]
                refine' wpAnyH_take (i := 12) (oi := { dst := some 20, op := Go.Op.assign (Go.Operand.tmp 66), type := 4, pos := "ref.go:478", after := #[{ on := 10, ground := Go.Ground.data }, { on := 11, ground := Go.Ground.chain }, { on := 0, ground := Go.Ground.phase }, { on := 1, ground := Go.Ground.phase }, { on := 2, ground := Go.Ground.phase }, { on := 3, ground := Go.Ground.phase }, { on := 4, ground := Go.Ground.phase }, { on := 5, ground := Go.Ground.phase }, { on := 6, ground := Go.Ground.phase }, { on := 7, ground := Go.Ground.phase }, { on := 8, ground := Go.Ground.phase }, { on := 9, ground := Go.Ground.phase }, { on := 10, ground := Go.Ground.phase }, { on := 11, ground := Go.Ground.phase }], guard := none }) (v := _) rfl (by kernel_rfl) (by kernel_rfl) (by kernel_rfl) (fun _ _ _ h => h) (Or.inl ⟨by rfl, ?hyR161⟩) b0_151.out ?reR161
                case hyR161 => (rintro W' hS0; clear hS0; go_simp; try with_reducible rfl)
                try simp only [Act.put, List.setIfInBounds_toArray, List.set_cons_zero, List.set_cons_succ]
                refine wpAnyH_done (by kernel_rfl) ?_ _
                go_wp2
                go_roundw
                case rel => exact ⟨i, kept, Ak, nk, ck, rfl, rfl, cp_154.out, by omega, hk4, HSTEP.out, b0_151.out, bel_152.out⟩
                case measure => (simp [intOf]; try omega)
              exact AllReadyH.nil
            exact AllReadyH.nil
          exact AllReadyH.nil

set_option maxRecDepth 100000 in
set_option maxHeartbeats 8000000 in
theorem rR_loop_f (p x y : Nat) (A : Option Addr) (n k : Nat) (l : List Bnd) (w : World) (hr : RdB w A n k l) (hn : n ≤ maxLen) (hn4 : n ≤ 400) (hp1 : 1 ≤ p) (hp : p ≤ 60) (hx : x < p) (hy : y < p) (hk : chk p l = 0) (hS : (settle l p zeros).isSome = true) (X0 : Int) (T0 : Bool) (E0 : Hid (tup (greatT (p : Int) l (y : Int) (x : Int)) = .tuple #[.int .i64 X0, .bool T0, .int .i64 0])) (N : Int) (F1 : Hid (fin (dist l p x y) = N)) (I1 : Hid (isF (dist l p x y) = true)) (HK2 : Hid (∀ S, chk p (onlyL l S) = 0 ∧ (settle (onlyL l S) p zeros).isSome = true)) (V : List Int) (HV : Hid (lessLoop (holdsG p x y N) l (allL l).length (allL l) = V)) :
    Calls Try.prog 45 #[.agg #[.int .i64 (p : Int), .slice A n k], .int .i64 (y : Int), .int .i64 (x : Int), .bool false] w (RetL (V, 0) w) := by
  have HR := Lib.hid hr; have HRL := Lib.hid hr.len
  go_enter Try.func45, Try.ntmps45
  have bel_1 := Lib.hid (show Below w.heap.size w w from Below.refl _ w)
  have rd_2 := Lib.hid (hr)
  clear hr
  have bel_3 := Lib.hid (Below.alloc bel_1.out (bel_1.out.size) (.cells #[.int .i64 (p : Int), .slice A n k] 24))
  clear bel_1
  have rd_4 := Lib.hid (RdB.alloc rd_2.out (.cells #[.int .i64 (p : Int), .slice A n k] 24))
  clear rd_2
  have srd_5 := Lib.hid (Blk.new w 24 #[.int .i64 (p : Int), .slice A n k])
  have hc := rGreatest_any (p : Int) (y : Int) (x : Int) A n k l _ rd_4.out hn
  rw [E0.out] at hc
  try dsimp only at hc
  have HC := Lib.hid hc; clear hc
  go_wp2_with fail
  refine HC.out.mono ?_
  rintro e w_6 ⟨rfl, hb⟩
  clear HC
  have bel_7 := Lib.hid (Below.trans bel_3.out (Below.mono hb (bel_3.out.size)))
  clear bel_3
  have rd_8 := Lib.hid (RdB.below rd_4.out hb)
  clear rd_4
  have srd_9 := Lib.hid (Blk.keep srd_5.out hb)
  clear srd_5
  clear hb
  have z_10 : (w_6).cell? ⟨w.heap.size, 0, none⟩ = some (.int .i64 (p : Int)) := Blk.cell srd_9.out 0
  have z_11 : (w_6).cell? ⟨w.heap.size, 1, none⟩ = some (.slice A n k) := Blk.cell srd_9.out 1
  have hc := rgreat_any p x y A n k l _ rd_8.out (by omega) hk hS hx hy
  rw [F1.out] at hc
  rw [I1.out] at hc
  try dsimp only at hc
  have HC := Lib.hid hc; clear hc
  go_wp2_with fail
  refine HC.out.mono ?_
  rintro e w_12 ⟨rfl, hb⟩
  clear HC
  clear z_10 z_11
  have bel_13 := Lib.hid (Below.trans bel_7.out (Below.mono hb (bel_7.out.size)))
  clear bel_7
  have rd_14 := Lib.hid (RdB.below rd_8.out hb)
  clear rd_8
  have srd_15 := Lib.hid (Blk.keep srd_9.out hb)
  clear srd_9
  clear hb
  have z_16 : (w_12).cell? ⟨w.heap.size, 0, none⟩ = some (.int .i64 (p : Int)) := Blk.cell srd_15.out 0
  have z_17 : (w_12).cell? ⟨w.heap.size, 1, none⟩ = some (.slice A n k) := Blk.cell srd_15.out 1
  go_wp2_with fail
  refine (all_any p A n k l _ rd_14.out hn4).mono ?_
  rintro e w8 ⟨Az, nz, cz, rfl, ho, hb⟩
  clear z_16 z_17
  have HO := Lib.hid (owns_base ho (bel_13.out.size)); have HLZ := Lib.hid ((OwnI.rd ho).1.len); clear ho
  have bel_18 := Lib.hid (Below.trans bel_13.out (Below.mono hb (bel_13.out.size)))
  clear bel_13
  have rd_19 := Lib.hid (RdB.below rd_14.out hb)
  clear rd_14
  have srd_20 := Lib.hid (Blk.keep srd_15.out hb)
  clear srd_15
  clear hb
  have hal := allL_length l
  have HAL := Lib.hid (show (allL l).length ≤ 400 from by rw [HRL.out] at hal; omega)
  clear hal
  have hnz : nz ≤ 400 := by have h1 := HLZ.out; have h2 := HAL.out; omega
  go_wp2
  go_loopw [18, 17] (fun iv kv wr => ∃ (j : Nat) (kept : List Int) (Ak : Option Addr) (nk ck : Nat), iv = .int .i64 ((j : Int) - 1) ∧ kv = .slice Ak nk ck ∧ OwnI wr w.heap.size Ak nk ck kept ∧ j ≤ kept.length ∧ kept.length ≤ 400 ∧ lessLoop (holdsG p x y N) l j kept = V ∧ Blk wr w.heap.size 24 #[.int .i64 (p : Int), .slice A n k] ∧ Below w.heap.size w wr) (fun iv _ _ => (intOf iv + 1).toNat)
  case atStart => exact ⟨nz, allL l, Az, nz, cz, rfl, rfl, HO.out, by rw [HLZ.out]; exact Nat.le_refl _, HAL.out, by rw [← HLZ.out]; exact HV.out, srd_20.out, bel_18.out⟩
  case round =>
    obtain ⟨j, kept, Ak, nk, ck, hiv, rfl, hown, hj, hk4, hlo, hbx, hbe⟩ := hrel
    obtain ⟨wo, rfl⟩ : ∃ wo : World, wo = wr := ⟨wr, rfl⟩
    have hnk := (OwnI.rd hown).1.len
    have KO0 := Lib.hid hown; have KB0 := Lib.hid hbx; have KE0 := Lib.hid hbe; have HLO := Lib.hid hlo; clear hown hbx hbe hlo
    have hlt0 := KB0.out.lt
    rcases j with _ | i
    · obtain rfl : u18 = .int .i64 (-1) := hiv
      have hV : kept = V := HLO.out
      have HKO := Lib.hid (show OwnI wo w.heap.size Ak nk ck V from by rw [← hV]; exact KO0.out)
      clear hV hnk KO0
      go_wp2
      go_ret2
      exact ⟨Ak, nk, ck, rfl, HKO.out, KE0.out⟩
    · obtain rfl : u18 = .int .i64 (i : Int) := by rw [hiv]; congr 1; omega
      clear hiv
      have hi0 : (0 : Int) ≤ i := by omega
      have d0 : decide ((0 : Int) ≤ i) = true := decide_eq_true hi0
      have hstep : lessLoop (holdsG p x y N) l i (if holdsG p x y N (onlyL l (kept.eraseIdx i)) = true then kept.eraseIdx i else kept) = V := HLO.out
      have hle : (onlyL l (kept.eraseIdx i)).length ≤ 400 := Nat.le_trans (List.length_filter_le _ _) (by rw [HRL.out]; exact hn4)
      have HLE := Lib.hid hle; clear hle HLO
      obtain ⟨X, hX⟩ : ∃ X, fin (dist (onlyL l (kept.eraseIdx i)) p x y) = X := ⟨_, rfl⟩
      obtain ⟨T, hT⟩ : ∃ T, isF (dist (onlyL l (kept.eraseIdx i)) p x y) = T := ⟨_, rfl⟩
      have hsv := fun A2 n2 c2 W (h1 : RdB W A2 n2 c2 (onlyL l (kept.eraseIdx i))) (h2 : n2 ≤ 402) => rgreat_any p x y A2 n2 c2 (onlyL l (kept.eraseIdx i)) W h1 h2 (HK2.out _).1 (HK2.out _).2 hx hy
      rw [hX, hT] at hsv
      have hhold : holdsG p x y N (onlyL l (kept.eraseIdx i)) = (T && decide (X = N)) := by unfold holdsG; rw [hX, hT]
      rw [hhold] at hstep
      have HSV := Lib.hid hsv; clear hsv hT hX hhold
      have y0 : wo.cell? ⟨w.heap.size, 0, none⟩ = some (.int .i64 (p : Int)) := Blk.cell KB0.out 0
      cases T
      · rw [if_neg (by simp)] at hstep
        have HSTEP := Lib.hid hstep; clear hstep
        go_wp2_with fail
        clear y0
        have K0 := Lib.hid (Blk.drew KB0.out); have KE := Lib.hid (Below.drew KE0.out); have KR := Lib.hid (RdB.drew (RdB.below HR.out KE0.out)); have KO := Lib.hid (World.ownsRow.drew KO0.out)
        clear KB0 KE0 KO0
        refine wp_region_held_drew (S := (fun W' => Blk W' w.heap.size 24 #[.int .i64 (p : Int), .slice A n k])) (by kernel_rfl) K0.out (fun _ => ?_)
        obtain ⟨w162, hw163⟩ : ∃ w', w' = wo.drew := ⟨_, rfl⟩
        rw [← hw163] at K0 KE KR KO
        rw [← hw163]
        clear hw163
        refine' wpAnyH_take (i := 0) (oi := { dst := some 57, op := Go.Op.load 24 (Go.Operand.tmp 4), type := 24, pos := "ref.go:478", after := #[], guard := none }) (v := _) rfl (by kernel_rfl) (by kernel_rfl) (by kernel_rfl) (fun _ _ _ h => h) (Or.inl ⟨by rfl, ?hyR164⟩) K0.out ?reR164
        case hyR164 => (rintro W' hS0; have hc0 : W'.cell? ⟨w.heap.size, 0, none⟩ = some (.int .i64 (p : Int)) := Blk.cell hS0 0; have hc1 : W'.cell? ⟨w.heap.size, 1, none⟩ = some (.slice A n k) := Blk.cell hS0 1; clear hS0; go_simp; try with_reducible rfl)
        try simp only [Act.put, List.setIfInBounds_toArray, List.set_cons_zero, List.set_cons_succ]
        refine' wpAnyH_take (i := 1) (oi := { dst := some 58, op := Go.Op.move (Go.Operand.tmp 17), type := 33, pos := "ref.go:478", after := #[], guard := none }) (v := _) rfl (by kernel_rfl) (by kernel_rfl) (by kernel_rfl) (fun _ _ _ h => h) (Or.inl ⟨by rfl, ?hyR165⟩) K0.out ?reR165
        case hyR165 => (rintro W' hS0; clear hS0; go_simp; try with_reducible rfl)
        try simp only [Act.put, List.setIfInBounds_toArray, List.set_cons_zero, List.set_cons_succ]
        refine' wpAnyH_take (i := 2) (oi := { dst := some 59, op := Go.Op.move (Go.Operand.tmp 18), type := 3, pos := "ref.go:478", after := #[], guard := none }) (v := _) rfl (by kernel_rfl) (by kernel_rfl) (by kernel_rfl) (fun _ _ _ h => h) (Or.inl ⟨by rfl, ?hyR166⟩) K0.out ?reR166
        case hyR166 => (rintro W' hS0; clear hS0; go_simp; try with_reducible rfl)
        try simp only [Act.put, List.setIfInBounds_toArray, List.set_cons_zero, List.set_cons_succ]
        refine' wpAnyH_take (i := 5) (oi := { dst := some 62, op := Go.Op.move (Go.Operand.tmp 13), type := 3, pos := "ref.go:478", after := #[], guard := none }) (v := _) rfl (by kernel_rfl) (by kernel_rfl) (by kernel_rfl) (fun _ _ _ h => h) (Or.inl ⟨by rfl, ?hyR167⟩) K0.out ?reR167
        case hyR167 => (rintro W' hS0; clear hS0; go_simp; try with_reducible rfl)
        try simp only [Act.put, List.setIfInBounds_toArray, List.set_cons_zero, List.set_cons_succ]
        refine' wpAnyH_take (i := 6) (oi := { dst := some 63, op := Go.Op.move (Go.Operand.tmp 14), type := 3, pos := "ref.go:478", after := #[], guard := none }) (v := _) rfl (by kernel_rfl) (by kernel_rfl) (by kernel_rfl) (fun _ _ _ h => h) (Or.inl ⟨by rfl, ?hyR168⟩) K0.out ?reR168
        case hyR168 => (rintro W' hS0; clear hS0; go_simp; try with_reducible rfl)
        try simp only [Act.put, List.setIfInBounds_toArray, List.set_cons_zero, List.set_cons_succ]
        refine wpAnyH_ready (rs := [3]) (by kernel_rfl) (by simp) ?_
        refine AllReadyH.cons (o := { dst := some 60, op := Go.Op.call { callee := Go.Callee.value (Go.Operand.func 92), args := #[Go.Operand.tmp 58, Go.Operand.tmp 59], argTypes := #[33, 3] }, type := 33, pos := "ref.go:478", after := #[{ on := 1, ground := Go.Ground.data }, { on := 2, ground := Go.Ground.data }], guard := none }) rfl (fun K hK => ?_) ?_
        · -- 3: call
          go_simp
          go_at_call 92
          refine (less_any Ak nk ck i kept _ (OwnI.rd KO.out).1 (by omega) (by omega)).mono ?_
          rintro e w169 ⟨B1, d1, rfl, ho1, hb170⟩
          dsimp only
          have b0_171 := Lib.hid (Blk.keep (K0.out) hb170)
          have bel_172 := Lib.hid (Below.trans (KE.out) (Below.mono hb170 ((KE.out).size)))
          have rd_173 := Lib.hid (RdB.below (KR.out) hb170)
          have cp_174 := Lib.hid (owns_below (KO.out) hb170)
          have O1 := Lib.hid (OwnI.rd ho1).1; clear ho1
          refine hK.out _ _ b0_171.out (fun _ => ?_); clear hK K
          try simp only [Act.put, List.setIfInBounds_toArray, List.set_cons_zero, List.set_cons_succ]
          refine wpAnyH_ready (rs := [4]) (by kernel_rfl) (by simp) ?_
          refine AllReadyH.cons (o := { dst := some 61, op := Go.Op.call { callee := Go.Callee.value (Go.Operand.func 91), args := #[Go.Operand.tmp 57, Go.Operand.tmp 60], argTypes := #[24, 33] }, type := 24, pos := "ref.go:478", after := #[{ on := 0, ground := Go.Ground.data }, { on := 3, ground := Go.Ground.data }, { on := 3, ground := Go.Ground.chain }], guard := none }) rfl (fun K hK => ?_) ?_
          · -- 4: call
            go_simp
            go_at_call 91
            refine (only_any p A B1 n k (nk - 1) d1 l (kept.eraseIdx i) _ rd_173.out hn4 O1.out (by unfold maxLen; omega)).mono ?_
            rintro e w175 ⟨A2, n2, c2, rfl, ho2, hb176⟩
            dsimp only
            have b0_177 := Lib.hid (Blk.keep (b0_171.out) hb176)
            have bel_178 := Lib.hid (Below.trans (bel_172.out) (Below.mono hb176 ((bel_172.out).size)))
            have rd_179 := Lib.hid (RdB.below (rd_173.out) hb176)
            have cp_180 := Lib.hid (owns_below (cp_174.out) hb176)
            have r1_181 := Lib.hid (RdI.below (O1.out) hb176)
            have O2 := Lib.hid (OwnB.rd ho2).1; clear ho2
            have hn2 : n2 ≤ 400 := by have h1 := O2.out.len; have h2 := HLE.out; omega
            refine hK.out _ _ b0_177.out (fun _ => ?_); clear hK K
            try simp only [Act.put, List.setIfInBounds_toArray, List.set_cons_zero, List.set_cons_succ]
            refine wpAnyH_ready (rs := [7]) (by kernel_rfl) (by simp) ?_
            refine AllReadyH.cons (o := { dst := some 64, op := Go.Op.call { callee := Go.Callee.value (Go.Operand.func 79), args := #[Go.Operand.tmp 61, Go.Operand.tmp 62, Go.Operand.tmp 63], argTypes := #[24, 3, 3] }, type := 85, pos := "ref.go:478", after := #[{ on := 4, ground := Go.Ground.data }, { on := 5, ground := Go.Ground.data }, { on := 6, ground := Go.Ground.data }, { on := 4, ground := Go.Ground.chain }], guard := none }) rfl (fun K hK => ?_) ?_
            · -- 7: call
              go_simp
              go_at_call 79
              refine (HSV.out A2 n2 c2 _ O2.out (by omega)).mono ?_
              rintro e w182 ⟨rfl, hb183⟩
              dsimp only
              have b0_184 := Lib.hid (Blk.keep (b0_177.out) hb183)
              have bel_185 := Lib.hid (Below.trans (bel_178.out) (Below.mono hb183 ((bel_178.out).size)))
              have rd_186 := Lib.hid (RdB.below (rd_179.out) hb183)
              have cp_187 := Lib.hid (owns_below (cp_180.out) hb183)
              have r1_188 := Lib.hid (RdI.below (r1_181.out) hb183)
              have r2_189 := Lib.hid (RdB.below (O2.out) hb183)
              refine hK.out _ _ b0_184.out (fun _ => ?_); clear hK K
              try simp only [Act.put, List.setIfInBounds_toArray, List.set_cons_zero, List.set_cons_succ]
              refine' wpAnyH_take (i := 8) (oi := { dst := some 56, op := Go.Op.move (Go.Operand.tmp 64), type := 85, pos := "ref.go:478", after := #[{ on := 7, ground := Go.Ground.data }], guard := none }) (v := _) rfl (by kernel_rfl) (by kernel_rfl) (by kernel_rfl) (fun _ _ _ h => h) (Or.inl ⟨by rfl, ?hyR190⟩) b0_184.out ?reR190
              case hyR190 => (rintro W' hS0; clear hS0; go_simp; try with_reducible rfl)
              try simp only [Act.put, List.setIfInBounds_toArray, List.set_cons_zero, List.set_cons_succ]
              refine' wpAnyH_take (i := 9) (oi := { dst := some 65, op := Go.Op.extract (Go.Operand.tmp 56) 0, type := 3, pos := "ref.go:478", after := #[{ on := 8, ground := Go.Ground.data }], guard := none }) (v := _) rfl (by kernel_rfl) (by kernel_rfl) (by kernel_rfl) (fun _ _ _ h => h) (Or.inl ⟨by rfl, ?hyR191⟩) b0_184.out ?reR191
              case hyR191 => (rintro W' hS0; clear hS0; go_simp; try with_reducible rfl)
              try simp only [Act.put, List.setIfInBounds_toArray, List.set_cons_zero, List.set_cons_succ]
              refine' wpAnyH_take (i := 10) (oi := { dst := some 66, op := Go.Op.extract (Go.Operand.tmp 56) 1, type := 4, pos := "ref.go:478", after := #[{ on := 8, ground := Go.Ground.data }, { on := 11, ground := Go.Ground.gcOnly Go.Departure.lateStores }], guard := none }) (v := _) rfl (by kernel_rfl) (by kernel_rfl) (by kernel_rfl) (fun _ _ _ h => h) (Or.inl ⟨by rfl, ?hyR192⟩) b0_184.out ?reR192
              case hyR192 => (rintro W' hS0; clear hS0; go_simp; try with_reducible rfl)
              try simp only [Act.put, List.setIfInBounds_toArray, List.set_cons_zero, List.set_cons_succ]
              refine' wpAnyH_take (i := 11) (oi := { dst := some 19, op := Go.Op.assign (Go.Operand.tmp 65), type := 3, pos := "ref.go:478", after := #[{ on := 9, ground := Go.Ground.data }, { on := 7, ground := Go.Ground.chain }, { on := 0, ground := Go.Ground.phase }, { on := 1, ground := Go.Ground.phase }, { on := 2, ground := Go.Ground.phase }, { on := 3, ground := Go.Ground.phase }, { on := 4, ground := Go.Ground.phase }, { on := 5, ground := Go.Ground.phase }, { on := 6, ground := Go.Ground.phase }, { on := 7, ground := Go.Ground.phase }, { on := 8, ground := Go.Ground.phase }, { on := 9, ground := Go.Ground.phase }, { on := 10, ground := Go.Ground.textOnly Go.Departure.lateStores }], guard := none }) (v := _) rfl (by kernel_rfl) (by kernel_rfl) (by kernel_rfl) (fun _ _ _ h => h) (Or.inl ⟨by rfl, ?hyR193⟩) b0_184.out ?reR193
              case hyR193 => (rintro W' hS0; clear hS0; go_simp; try with_reducible rfl)
              try simp only [Act.put, List.setIfInBounds_toArray, List.set_cons_zero, List.set_cons_succ]
              refine' wpAnyH_take (i := 12) (oi := { dst := some 20, op := Go.Op.assign (Go.Operand.tmp 66), type := 4, pos := "ref.go:478", after := #[{ on := 10, ground := Go.Ground.data }, { on := 11, ground := Go.Ground.chain }, { on := 0, ground := Go.Ground.phase }, { on := 1, ground := Go.Ground.phase }, { on := 2, ground := Go.Ground.phase }, { on := 3, ground := Go.Ground.phase }, { on := 4, ground := Go.Ground.phase }, { on := 5, ground := Go.Ground.phase }, { on := 6, ground := Go.Ground.phase }, { on := 7, ground := Go.Ground.phase }, { on := 8, ground := Go.Ground.phase }, { on := 9, ground := Go.Ground.phase }, { on := 10, ground := Go.Ground.phase }, { on := 11, ground := Go.Ground.phase }], guard := none }) (v := _) rfl (by kernel_rfl) (by kernel_rfl) (by kernel_rfl) (fun _ _ _ h => h) (Or.inl ⟨by rfl, ?hyR194⟩) b0_184.out ?reR194
              case hyR194 => (rintro W' hS0; clear hS0; go_simp; try with_reducible rfl)
              try simp only [Act.put, List.setIfInBounds_toArray, List.set_cons_zero, List.set_cons_succ]
              refine wpAnyH_done (by kernel_rfl) ?_ _
              go_wp2
              go_roundw
              case rel => exact ⟨i, kept, Ak, nk, ck, rfl, rfl, cp_187.out, by omega, hk4, HSTEP.out, b0_184.out, bel_185.out⟩
              case measure => (simp [intOf]; try omega)
            exact AllReadyH.nil
          exact AllReadyH.nil
        exact AllReadyH.nil
      · by_cases hXN : X = N
        · subst hXN
          rw [if_pos (by simp)] at hstep
          have HSTEP := Lib.hid hstep; clear hstep
          go_wp2_with fail
          clear y0
          have K0 := Lib.hid (Blk.drew KB0.out); have KE := Lib.hid (Below.drew KE0.out); have KR := Lib.hid (RdB.drew (RdB.below HR.out KE0.out)); have KO := Lib.hid (World.ownsRow.drew KO0.out)
          clear KB0 KE0 KO0
          refine wp_region_held_drew (S := (fun W' => Blk W' w.heap.size 24 #[.int .i64 (p : Int), .slice A n k])) (by kernel_rfl) K0.out (fun _ => ?_)
          obtain ⟨w195, hw196⟩ : ∃ w', w' = wo.drew := ⟨_, rfl⟩
          rw [← hw196] at K0 KE KR KO
          rw [← hw196]
          clear hw196
          refine' wpAnyH_take (i := 0) (oi := { dst := some 57, op := Go.Op.load 24 (Go.Operand.tmp 4), type := 24, pos := "ref.go:478", after := #[], guard := none }) (v := _) rfl (by kernel_rfl) (by kernel_rfl) (by kernel_rfl) (fun _ _ _ h => h) (Or.inl ⟨by rfl, ?hyR197⟩) K0.out ?reR197
          case hyR197 => (rintro W' hS0; have hc0 : W'.cell? ⟨w.heap.size, 0, none⟩ = some (.int .i64 (p : Int)) := Blk.cell hS0 0; have hc1 : W'.cell? ⟨w.heap.size, 1, none⟩ = some (.slice A n k) := Blk.cell hS0 1; clear hS0; go_simp; try with_reducible rfl)
          try simp only [Act.put, List.setIfInBounds_toArray, List.set_cons_zero, List.set_cons_succ]
          refine' wpAnyH_take (i := 1) (oi := { dst := some 58, op := Go.Op.move (Go.Operand.tmp 17), type := 33, pos := "ref.go:478", after := #[], guard := none }) (v := _) rfl (by kernel_rfl) (by kernel_rfl) (by kernel_rfl) (fun _ _ _ h => h) (Or.inl ⟨by rfl, ?hyR198⟩) K0.out ?reR198
          case hyR198 => (rintro W' hS0; clear hS0; go_simp; try with_reducible rfl)
          try simp only [Act.put, List.setIfInBounds_toArray, List.set_cons_zero, List.set_cons_succ]
          refine' wpAnyH_take (i := 2) (oi := { dst := some 59, op := Go.Op.move (Go.Operand.tmp 18), type := 3, pos := "ref.go:478", after := #[], guard := none }) (v := _) rfl (by kernel_rfl) (by kernel_rfl) (by kernel_rfl) (fun _ _ _ h => h) (Or.inl ⟨by rfl, ?hyR199⟩) K0.out ?reR199
          case hyR199 => (rintro W' hS0; clear hS0; go_simp; try with_reducible rfl)
          try simp only [Act.put, List.setIfInBounds_toArray, List.set_cons_zero, List.set_cons_succ]
          refine' wpAnyH_take (i := 5) (oi := { dst := some 62, op := Go.Op.move (Go.Operand.tmp 13), type := 3, pos := "ref.go:478", after := #[], guard := none }) (v := _) rfl (by kernel_rfl) (by kernel_rfl) (by kernel_rfl) (fun _ _ _ h => h) (Or.inl ⟨by rfl, ?hyR200⟩) K0.out ?reR200
          case hyR200 => (rintro W' hS0; clear hS0; go_simp; try with_reducible rfl)
          try simp only [Act.put, List.setIfInBounds_toArray, List.set_cons_zero, List.set_cons_succ]
          refine' wpAnyH_take (i := 6) (oi := { dst := some 63, op := Go.Op.move (Go.Operand.tmp 14), type := 3, pos := "ref.go:478", after := #[], guard := none }) (v := _) rfl (by kernel_rfl) (by kernel_rfl) (by kernel_rfl) (fun _ _ _ h => h) (Or.inl ⟨by rfl, ?hyR201⟩) K0.out ?reR201
          case hyR201 => (rintro W' hS0; clear hS0; go_simp; try with_reducible rfl)
          try simp only [Act.put, List.setIfInBounds_toArray, List.set_cons_zero, List.set_cons_succ]
          refine wpAnyH_ready (rs := [3]) (by kernel_rfl) (by simp) ?_
          refine AllReadyH.cons (o := { dst := some 60, op := Go.Op.call { callee := Go.Callee.value (Go.Operand.func 92), args := #[Go.Operand.tmp 58, Go.Operand.tmp 59], argTypes := #[33, 3] }, type := 33, pos := "ref.go:478", after := #[{ on := 1, ground := Go.Ground.data }, { on := 2, ground := Go.Ground.data }], guard := none }) rfl (fun K hK => ?_) ?_
          · -- 3: call
            go_simp
            go_at_call 92
            refine (less_any Ak nk ck i kept _ (OwnI.rd KO.out).1 (by omega) (by omega)).mono ?_
            rintro e w202 ⟨B1, d1, rfl, ho1, hb203⟩
            dsimp only
            have b0_204 := Lib.hid (Blk.keep (K0.out) hb203)
            have bel_205 := Lib.hid (Below.trans (KE.out) (Below.mono hb203 ((KE.out).size)))
            have rd_206 := Lib.hid (RdB.below (KR.out) hb203)
            have cp_207 := Lib.hid (owns_below (KO.out) hb203)
            have O1 := Lib.hid (OwnI.rd ho1).1; clear ho1
            refine hK.out _ _ b0_204.out (fun _ => ?_); clear hK K
            try simp only [Act.put, List.setIfInBounds_toArray, List.set_cons_zero, List.set_cons_succ]
            refine wpAnyH_ready (rs := [4]) (by kernel_rfl) (by simp) ?_
            refine AllReadyH.cons (o := { dst := some 61, op := Go.Op.call { callee := Go.Callee.value (Go.Operand.func 91), args := #[Go.Operand.tmp 57, Go.Operand.tmp 60], argTypes := #[24, 33] }, type := 24, pos := "ref.go:478", after := #[{ on := 0, ground := Go.Ground.data }, { on := 3, ground := Go.Ground.data }, { on := 3, ground := Go.Ground.chain }], guard := none }) rfl (fun K hK => ?_) ?_
            · -- 4: call
              go_simp
              go_at_call 91
              refine (only_any p A B1 n k (nk - 1) d1 l (kept.eraseIdx i) _ rd_206.out hn4 O1.out (by unfold maxLen; omega)).mono ?_
              rintro e w208 ⟨A2, n2, c2, rfl, ho2, hb209⟩
              dsimp only
              have b0_210 := Lib.hid (Blk.keep (b0_204.out) hb209)
              have bel_211 := Lib.hid (Below.trans (bel_205.out) (Below.mono hb209 ((bel_205.out).size)))
              have rd_212 := Lib.hid (RdB.below (rd_206.out) hb209)
              have cp_213 := Lib.hid (owns_below (cp_207.out) hb209)
              have r1_214 := Lib.hid (RdI.below (O1.out) hb209)
              have O2 := Lib.hid (OwnB.rd ho2).1; clear ho2
              have hn2 : n2 ≤ 400 := by have h1 := O2.out.len; have h2 := HLE.out; omega
              refine hK.out _ _ b0_210.out (fun _ => ?_); clear hK K
              try simp only [Act.put, List.setIfInBounds_toArray, List.set_cons_zero, List.set_cons_succ]
              refine wpAnyH_ready (rs := [7]) (by kernel_rfl) (by simp) ?_
              refine AllReadyH.cons (o := { dst := some 64, op := Go.Op.call { callee := Go.Callee.value (Go.Operand.func 79), args := #[Go.Operand.tmp 61, Go.Operand.tmp 62, Go.Operand.tmp 63], argTypes := #[24, 3, 3] }, type := 85, pos := "ref.go:478", after := #[{ on := 4, ground := Go.Ground.data }, { on := 5, ground := Go.Ground.data }, { on := 6, ground := Go.Ground.data }, { on := 4, ground := Go.Ground.chain }], guard := none }) rfl (fun K hK => ?_) ?_
              · -- 7: call
                go_simp
                go_at_call 79
                refine (HSV.out A2 n2 c2 _ O2.out (by omega)).mono ?_
                rintro e w215 ⟨rfl, hb216⟩
                dsimp only
                have b0_217 := Lib.hid (Blk.keep (b0_210.out) hb216)
                have bel_218 := Lib.hid (Below.trans (bel_211.out) (Below.mono hb216 ((bel_211.out).size)))
                have rd_219 := Lib.hid (RdB.below (rd_212.out) hb216)
                have cp_220 := Lib.hid (owns_below (cp_213.out) hb216)
                have r1_221 := Lib.hid (RdI.below (r1_214.out) hb216)
                have r2_222 := Lib.hid (RdB.below (O2.out) hb216)
                refine hK.out _ _ b0_217.out (fun _ => ?_); clear hK K
                try simp only [Act.put, List.setIfInBounds_toArray, List.set_cons_zero, List.set_cons_succ]
                refine' wpAnyH_take (i := 8) (oi := { dst := some 56, op := Go.Op.move (Go.Operand.tmp 64), type := 85, pos := "ref.go:478", after := #[{ on := 7, ground := Go.Ground.data }], guard := none }) (v := _) rfl (by kernel_rfl) (by kernel_rfl) (by kernel_rfl) (fun _ _ _ h => h) (Or.inl ⟨by rfl, ?hyR223⟩) b0_217.out ?reR223
                case hyR223 => (rintro W' hS0; clear hS0; go_simp; try with_reducible rfl)
                try simp only [Act.put, List.setIfInBounds_toArray, List.set_cons_zero, List.set_cons_succ]
                refine' wpAnyH_take (i := 9) (oi := { dst := some 65, op := Go.Op.extract (Go.Operand.tmp 56) 0, type := 3, pos := "ref.go:478", after := #[{ on := 8, ground := Go.Ground.data }], guard := none }) (v := _) rfl (by kernel_rfl) (by kernel_rfl) (by kernel_rfl) (fun _ _ _ h => h) (Or.inl ⟨by rfl, ?hyR224⟩) b0_217.out ?reR224
                case hyR224 => (rintro W' hS0; clear hS0; go_simp; try with_reducible rfl)
                try simp only [Act.put, List.setIfInBounds_toArray, List.set_cons_zero, List.set_cons_succ]
                refine' wpAnyH_take (i := 10) (oi := { dst := some 66, op := Go.Op.extract (Go.Operand.tmp 56) 1, type := 4, pos := "ref.go:478", after := #[{ on := 8, ground := Go.Ground.data }, { on := 11, ground := Go.Ground.gcOnly Go.Departure.lateStores }], guard := none }) (v := _) rfl (by kernel_rfl) (by kernel_rfl) (by kernel_rfl) (fun _ _ _ h => h) (Or.inl ⟨by rfl, ?hyR225⟩) b0_217.out ?reR225
                case hyR225 => (rintro W' hS0; clear hS0; go_simp; try with_reducible rfl)
                try simp only [Act.put, List.setIfInBounds_toArray, List.set_cons_zero, List.set_cons_succ]
                refine' wpAnyH_take (i := 11) (oi := { dst := some 19, op := Go.Op.assign (Go.Operand.tmp 65), type := 3, pos := "ref.go:478", after := #[{ on := 9, ground := Go.Ground.data }, { on := 7, ground := Go.Ground.chain }, { on := 0, ground := Go.Ground.phase }, { on := 1, ground := Go.Ground.phase }, { on := 2, ground := Go.Ground.phase }, { on := 3, ground := Go.Ground.phase }, { on := 4, ground := Go.Ground.phase }, { on := 5, ground := Go.Ground.phase }, { on := 6, ground := Go.Ground.phase }, { on := 7, ground := Go.Ground.phase }, { on := 8, ground := Go.Ground.phase }, { on := 9, ground := Go.Ground.phase }, { on := 10, ground := Go.Ground.textOnly Go.Departure.lateStores }], guard := none }) (v := _) rfl (by kernel_rfl) (by kernel_rfl) (by kernel_rfl) (fun _ _ _ h => h) (Or.inl ⟨by rfl, ?hyR226⟩) b0_217.out ?reR226
                case hyR226 => (rintro W' hS0; clear hS0; go_simp; try with_reducible rfl)
                try simp only [Act.put, List.setIfInBounds_toArray, List.set_cons_zero, List.set_cons_succ]
                refine' wpAnyH_take (i := 12) (oi := { dst := some 20, op := Go.Op.assign (Go.Operand.tmp 66), type := 4, pos := "ref.go:478", after := #[{ on := 10, ground := Go.Ground.data }, { on := 11, ground := Go.Ground.chain }, { on := 0, ground := Go.Ground.phase }, { on := 1, ground := Go.Ground.phase }, { on := 2, ground := Go.Ground.phase }, { on := 3, ground := Go.Ground.phase }, { on := 4, ground := Go.Ground.phase }, { on := 5, ground := Go.Ground.phase }, { on := 6, ground := Go.Ground.phase }, { on := 7, ground := Go.Ground.phase }, { on := 8, ground := Go.Ground.phase }, { on := 9, ground := Go.Ground.phase }, { on := 10, ground := Go.Ground.phase }, { on := 11, ground := Go.Ground.phase }], guard := none }) (v := _) rfl (by kernel_rfl) (by kernel_rfl) (by kernel_rfl) (fun _ _ _ h => h) (Or.inl ⟨by rfl, ?hyR227⟩) b0_217.out ?reR227
                case hyR227 => (rintro W' hS0; clear hS0; go_simp; try with_reducible rfl)
                try simp only [Act.put, List.setIfInBounds_toArray, List.set_cons_zero, List.set_cons_succ]
                refine wpAnyH_done (by kernel_rfl) ?_ _
                go_wp2_with fail
                refine (less_any Ak nk ck i kept _ (OwnI.rd cp_220.out).1 (by omega) (by omega)).mono ?_
                rintro e w9 ⟨B9, d9, rfl, ho9, hb9⟩
                have H9 := Lib.hid (owns_base ho9 (bel_218.out.size)); have K9 := Lib.hid (Blk.keep b0_217.out hb9); have E9 := Lib.hid (Below.trans bel_218.out (Below.mono hb9 bel_218.out.size)); clear ho9 hb9
                have hle9 : (kept.eraseIdx i).length = kept.length - 1 := by rw [List.length_eraseIdx]; rw [if_pos (by omega)]
                go_wp2
                go_roundw
                case rel => exact ⟨i, kept.eraseIdx i, B9, nk - 1, d9, rfl, rfl, H9.out, by omega, by omega, HSTEP.out, K9.out, E9.out⟩
                case measure => (simp [intOf]; try omega)
              exact AllReadyH.nil
            exact AllReadyH.nil
          exact AllReadyH.nil
        · rw [if_neg (by simp [hXN])] at hstep
          have HSTEP := Lib.hid hstep; clear hstep
          have e1 : (X == N) = false := beq_eq_false_iff_ne.2 hXN
          have e2 : decide (X = N) = false := decide_eq_false hXN
          go_wp2_with fail
          clear y0
          have K0 := Lib.hid (Blk.drew KB0.out); have KE := Lib.hid (Below.drew KE0.out); have KR := Lib.hid (RdB.drew (RdB.below HR.out KE0.out)); have KO := Lib.hid (World.ownsRow.drew KO0.out)
          clear KB0 KE0 KO0
          refine wp_region_held_drew (S := (fun W' => Blk W' w.heap.size 24 #[.int .i64 (p : Int), .slice A n k])) (by kernel_rfl) K0.out (fun _ => ?_)
          obtain ⟨w228, hw229⟩ : ∃ w', w' = wo.drew := ⟨_, rfl⟩
          rw [← hw229] at K0 KE KR KO
          rw [← hw229]
          clear hw229
          refine' wpAnyH_take (i := 0) (oi := { dst := some 57, op := Go.Op.load 24 (Go.Operand.tmp 4), type := 24, pos := "ref.go:478", after := #[], guard := none }) (v := _) rfl (by kernel_rfl) (by kernel_rfl) (by kernel_rfl) (fun _ _ _ h => h) (Or.inl ⟨by rfl, ?hyR230⟩) K0.out ?reR230
          case hyR230 => (rintro W' hS0; have hc0 : W'.cell? ⟨w.heap.size, 0, none⟩ = some (.int .i64 (p : Int)) := Blk.cell hS0 0; have hc1 : W'.cell? ⟨w.heap.size, 1, none⟩ = some (.slice A n k) := Blk.cell hS0 1; clear hS0; go_simp; try with_reducible rfl)
          try simp only [Act.put, List.setIfInBounds_toArray, List.set_cons_zero, List.set_cons_succ]
          refine' wpAnyH_take (i := 1) (oi := { dst := some 58, op := Go.Op.move (Go.Operand.tmp 17), type := 33, pos := "ref.go:478", after := #[], guard := none }) (v := _) rfl (by kernel_rfl) (by kernel_rfl) (by kernel_rfl) (fun _ _ _ h => h) (Or.inl ⟨by rfl, ?hyR231⟩) K0.out ?reR231
          case hyR231 => (rintro W' hS0; clear hS0; go_simp; try with_reducible rfl)
          try simp only [Act.put, List.setIfInBounds_toArray, List.set_cons_zero, List.set_cons_succ]
          refine' wpAnyH_take (i := 2) (oi := { dst := some 59, op := Go.Op.move (Go.Operand.tmp 18), type := 3, pos := "ref.go:478", after := #[], guard := none }) (v := _) rfl (by kernel_rfl) (by kernel_rfl) (by kernel_rfl) (fun _ _ _ h => h) (Or.inl ⟨by rfl, ?hyR232⟩) K0.out ?reR232
          case hyR232 => (rintro W' hS0; clear hS0; go_simp; try with_reducible rfl)
          try simp only [Act.put, List.setIfInBounds_toArray, List.set_cons_zero, List.set_cons_succ]
          refine' wpAnyH_take (i := 5) (oi := { dst := some 62, op := Go.Op.move (Go.Operand.tmp 13), type := 3, pos := "ref.go:478", after := #[], guard := none }) (v := _) rfl (by kernel_rfl) (by kernel_rfl) (by kernel_rfl) (fun _ _ _ h => h) (Or.inl ⟨by rfl, ?hyR233⟩) K0.out ?reR233
          case hyR233 => (rintro W' hS0; clear hS0; go_simp; try with_reducible rfl)
          try simp only [Act.put, List.setIfInBounds_toArray, List.set_cons_zero, List.set_cons_succ]
          refine' wpAnyH_take (i := 6) (oi := { dst := some 63, op := Go.Op.move (Go.Operand.tmp 14), type := 3, pos := "ref.go:478", after := #[], guard := none }) (v := _) rfl (by kernel_rfl) (by kernel_rfl) (by kernel_rfl) (fun _ _ _ h => h) (Or.inl ⟨by rfl, ?hyR234⟩) K0.out ?reR234
          case hyR234 => (rintro W' hS0; clear hS0; go_simp; try with_reducible rfl)
          try simp only [Act.put, List.setIfInBounds_toArray, List.set_cons_zero, List.set_cons_succ]
          refine wpAnyH_ready (rs := [3]) (by kernel_rfl) (by simp) ?_
          refine AllReadyH.cons (o := { dst := some 60, op := Go.Op.call { callee := Go.Callee.value (Go.Operand.func 92), args := #[Go.Operand.tmp 58, Go.Operand.tmp 59], argTypes := #[33, 3] }, type := 33, pos := "ref.go:478", after := #[{ on := 1, ground := Go.Ground.data }, { on := 2, ground := Go.Ground.data }], guard := none }) rfl (fun K hK => ?_) ?_
          · -- 3: call
            go_simp
            go_at_call 92
            refine (less_any Ak nk ck i kept _ (OwnI.rd KO.out).1 (by omega) (by omega)).mono ?_
            rintro e w235 ⟨B1, d1, rfl, ho1, hb236⟩
            dsimp only
            have b0_237 := Lib.hid (Blk.keep (K0.out) hb236)
            have bel_238 := Lib.hid (Below.trans (KE.out) (Below.mono hb236 ((KE.out).size)))
            have rd_239 := Lib.hid (RdB.below (KR.out) hb236)
            have cp_240 := Lib.hid (owns_below (KO.out) hb236)
            have O1 := Lib.hid (OwnI.rd ho1).1; clear ho1
            refine hK.out _ _ b0_237.out (fun _ => ?_); clear hK K
            try simp only [Act.put, List.setIfInBounds_toArray, List.set_cons_zero, List.set_cons_succ]
            refine wpAnyH_ready (rs := [4]) (by kernel_rfl) (by simp) ?_
            refine AllReadyH.cons (o := { dst := some 61, op := Go.Op.call { callee := Go.Callee.value (Go.Operand.func 91), args := #[Go.Operand.tmp 57, Go.Operand.tmp 60], argTypes := #[24, 33] }, type := 24, pos := "ref.go:478", after := #[{ on := 0, ground := Go.Ground.data }, { on := 3, ground := Go.Ground.data }, { on := 3, ground := Go.Ground.chain }], guard := none }) rfl (fun K hK => ?_) ?_
            · -- 4: call
              go_simp
              go_at_call 91
              refine (only_any p A B1 n k (nk - 1) d1 l (kept.eraseIdx i) _ rd_239.out hn4 O1.out (by unfold maxLen; omega)).mono ?_
              rintro e w241 ⟨A2, n2, c2, rfl, ho2, hb242⟩
              dsimp only
              have b0_243 := Lib.hid (Blk.keep (b0_237.out) hb242)
              have bel_244 := Lib.hid (Below.trans (bel_238.out) (Below.mono hb242 ((bel_238.out).size)))
              have rd_245 := Lib.hid (RdB.below (rd_239.out) hb242)
              have cp_246 := Lib.hid (owns_below (cp_240.out) hb242)
              have r1_247 := Lib.hid (RdI.below (O1.out) hb242)
              have O2 := Lib.hid (OwnB.rd ho2).1; clear ho2
              have hn2 : n2 ≤ 400 := by have h1 := O2.out.len; have h2 := HLE.out; omega
              refine hK.out _ _ b0_243.out (fun _ => ?_); clear hK K
              try simp only [Act.put, List.setIfInBounds_toArray, List.set_cons_zero, List.set_cons_succ]
              refine wpAnyH_ready (rs := [7]) (by kernel_rfl) (by simp) ?_
              refine AllReadyH.cons (o := { dst := some 64, op := Go.Op.call { callee := Go.Callee.value (Go.Operand.func 79), args := #[Go.Operand.tmp 61, Go.Operand.tmp 62, Go.Operand.tmp 63], argTypes := #[24, 3, 3] }, type := 85, pos := "ref.go:478", after := #[{ on := 4, ground := Go.Ground.data }, { on := 5, ground := Go.Ground.data }, { on := 6, ground := Go.Ground.data }, { on := 4, ground := Go.Ground.chain }], guard := none }) rfl (fun K hK => ?_) ?_
              · -- 7: call
                go_simp
                go_at_call 79
                refine (HSV.out A2 n2 c2 _ O2.out (by omega)).mono ?_
                rintro e w248 ⟨rfl, hb249⟩
                dsimp only
                have b0_250 := Lib.hid (Blk.keep (b0_243.out) hb249)
                have bel_251 := Lib.hid (Below.trans (bel_244.out) (Below.mono hb249 ((bel_244.out).size)))
                have rd_252 := Lib.hid (RdB.below (rd_245.out) hb249)
                have cp_253 := Lib.hid (owns_below (cp_246.out) hb249)
                have r1_254 := Lib.hid (RdI.below (r1_247.out) hb249)
                have r2_255 := Lib.hid (RdB.below (O2.out) hb249)
                refine hK.out _ _ b0_250.out (fun _ => ?_); clear hK K
                try simp only [Act.put, List.setIfInBounds_toArray, List.set_cons_zero, List.set_cons_succ]
                refine' wpAnyH_take (i := 8) (oi := { dst := some 56, op := Go.Op.move (Go.Operand.tmp 64), type := 85, pos := "ref.go:478", after := #[{ on := 7, ground := Go.Ground.data }], guard := none }) (v := _) rfl (by kernel_rfl) (by kernel_rfl) (by kernel_rfl) (fun _ _ _ h => h) (Or.inl ⟨by rfl, ?hyR256⟩) b0_250.out ?reR256
                case hyR256 => (rintro W' hS0; clear hS0; go_simp; try with_reducible rfl)
                try simp only [Act.put, List.setIfInBounds_toArray, List.set_cons_zero, List.set_cons_succ]
                refine' wpAnyH_take (i := 9) (oi := { dst := some 65, op := Go.Op.extract (Go.Operand.tmp 56) 0, type := 3, pos := "ref.go:478", after := #[{ on := 8, ground := Go.Ground.data }], guard := none }) (v := _) rfl (by kernel_rfl) (by kernel_rfl) (by kernel_rfl) (fun _ _ _ h => h) (Or.inl ⟨by rfl, ?hyR257⟩) b0_250.out ?reR257
                case hyR257 => (rintro W' hS0; clear hS0; go_simp; try with_reducible rfl)
                try simp only [Act.put, List.setIfInBounds_toArray, List.set_cons_zero, List.set_cons_succ]
                refine' wpAnyH_take (i := 10) (oi := { dst := some 66, op := Go.Op.extract (Go.Operand.tmp 56) 1, type := 4, pos := "ref.go:478", after := #[{ on := 8, ground := Go.Ground.data }, { on := 11, ground := Go.Ground.gcOnly Go.Departure.lateStores }], guard := none }) (v := _) rfl (by kernel_rfl) (by kernel_rfl) (by kernel_rfl) (fun _ _ _ h => h) (Or.inl ⟨by rfl, ?hyR258⟩) b0_250.out ?reR258
                case hyR258 => (rintro W' hS0; clear hS0; go_simp; try with_reducible rfl)
                try simp only [Act.put, List.setIfInBounds_toArray, List.set_cons_zero, List.set_cons_succ]
                refine' wpAnyH_take (i := 11) (oi := { dst := some 19, op := Go.Op.assign (Go.Operand.tmp 65), type := 3, pos := "ref.go:478", after := #[{ on := 9, ground := Go.Ground.data }, { on := 7, ground := Go.Ground.chain }, { on := 0, ground := Go.Ground.phase }, { on := 1, ground := Go.Ground.phase }, { on := 2, ground := Go.Ground.phase }, { on := 3, ground := Go.Ground.phase }, { on := 4, ground := Go.Ground.phase }, { on := 5, ground := Go.Ground.phase }, { on := 6, ground := Go.Ground.phase }, { on := 7, ground := Go.Ground.phase }, { on := 8, ground := Go.Ground.phase }, { on := 9, ground := Go.Ground.phase }, { on := 10, ground := Go.Ground.textOnly Go.Departure.lateStores }], guard := none }) (v := _) rfl (by kernel_rfl) (by kernel_rfl) (by kernel_rfl) (fun _ _ _ h => h) (Or.inl ⟨by rfl, ?hyR259⟩) b0_250.out ?reR259
                case hyR259 => (rintro W' hS0; clear hS0; go_simp; try with_reducible rfl)
                try simp only [Act.put, List.setIfInBounds_toArray, List.set_cons_zero, List.set_cons_succ]
                refine' wpAnyH_take (i := 12) (oi := { dst := some 20, op := Go.Op.assign (Go.Operand.tmp 66), type := 4, pos := "ref.go:478", after := #[{ on := 10, ground := Go.Ground.data }, { on := 11, ground := Go.Ground.chain }, { on := 0, ground := Go.Ground.phase }, { on := 1, ground := Go.Ground.phase }, { on := 2, ground := Go.Ground.phase }, { on := 3, ground := Go.Ground.phase }, { on := 4, ground := Go.Ground.phase }, { on := 5, ground := Go.Ground.phase }, { on := 6, ground := Go.Ground.phase }, { on := 7, ground := Go.Ground.phase }, { on := 8, ground := Go.Ground.phase }, { on := 9, ground := Go.Ground.phase }, { on := 10, ground := Go.Ground.phase }, { on := 11, ground := Go.Ground.phase }], guard := none }) (v := _) rfl (by kernel_rfl) (by kernel_rfl) (by kernel_rfl) (fun _ _ _ h => h) (Or.inl ⟨by rfl, ?hyR260⟩) b0_250.out ?reR260
                case hyR260 => (rintro W' hS0; clear hS0; go_simp; try with_reducible rfl)
                try simp only [Act.put, List.setIfInBounds_toArray, List.set_cons_zero, List.set_cons_succ]
                refine wpAnyH_done (by kernel_rfl) ?_ _
                go_wp2
                go_roundw
                case rel => exact ⟨i, kept, Ak, nk, ck, rfl, rfl, cp_253.out, by omega, hk4, HSTEP.out, b0_250.out, bel_251.out⟩
                case measure => (simp [intOf]; try omega)
              exact AllReadyH.nil
            exact AllReadyH.nil
          exact AllReadyH.nil

theorem rRests_any (P a b : Int) (u : Bool) (A : Option Addr) (n k : Nat) (l : List Bnd) (w : World) (hr : RdB w A n k l) (hn : n ≤ maxLen) : Calls Try.prog 45 #[.agg #[.int .i64 P, .slice A n k], .int .i64 a, .int .i64 b, .bool u] w (RetL (restsR P l a b u) w) := by
  unfold restsR
  by_cases hs : scode P l [a, b] = 0
  · obtain ⟨hk, hpt, hS⟩ := scode_ok hs
    simp only [List.all_cons, List.all_nil, Bool.and_true, Bool.and_eq_true, isPt, decide_eq_true_eq] at hpt
    obtain ⟨hp1, hp2, hlen, -⟩ := chk_ok hk
    have hn4 : n ≤ 400 := by have := hr.len; omega
    have hK2 : ∀ S, chk P (onlyL l S) = 0 ∧ (settle (onlyL l S) P.toNat zeros).isSome = true := fun S => ⟨chk_only hk S, sub_solved (chk_only hk S) hk onlyL_sub hS⟩
    obtain ⟨p, rfl⟩ := Int.eq_ofNat_of_zero_le (show 0 ≤ P by omega)
    obtain ⟨a, rfl⟩ := Int.eq_ofNat_of_zero_le hpt.1.1
    obtain ⟨b, rfl⟩ := Int.eq_ofNat_of_zero_le hpt.2.1
    rw [Int.toNat_natCast] at hS hK2
    rw [if_pos hs, Int.toNat_natCast]
    have hg : ∀ c d : Nat, scode (p : Int) l [(c : Int), (d : Int)] = 0 → tup (greatT (p : Int) l (c : Int) (d : Int)) = .tuple #[.int .i64 (fin (dist l p c d)), .bool (isF (dist l p c d)), .int .i64 0] := fun c d h => by unfold tup greatT; simp only [if_pos h, Int.toNat_natCast]
    cases u
    · simp only [Bool.false_eq_true, if_false, Int.toNat_natCast]
      by_cases hI : isF (dist l p b a) = true
      · rw [if_pos hI]
        exact rR_loop_f p b a A n k l w hr hn hn4 (by omega) (by omega) (by omega) (by omega) hk hS _ _ (Lib.hid (hg a b hs)) _ (Lib.hid rfl) (Lib.hid hI) (Lib.hid hK2) _ (Lib.hid rfl)
      · rw [if_neg hI]
        exact rR_none_f p b a A n k l w hr hn hn4 (by omega) (by omega) (by omega) (by omega) hk hS _ _ (Lib.hid (hg a b hs)) _ (Lib.hid rfl) (Lib.hid (by simpa using hI))
    · simp only [if_true, Int.toNat_natCast]
      by_cases hI : isF (dist l p a b) = true
      · rw [if_pos hI]
        exact rR_loop_t p a b A n k l w hr hn hn4 (by omega) (by omega) (by omega) (by omega) hk hS _ _ (Lib.hid (hg a b hs)) _ (Lib.hid rfl) (Lib.hid hI) (Lib.hid hK2) _ (Lib.hid rfl)
      · rw [if_neg hI]
        exact rR_none_t p a b A n k l w hr hn hn4 (by omega) (by omega) (by omega) (by omega) hk hS _ _ (Lib.hid (hg a b hs)) _ (Lib.hid rfl) (Lib.hid (by simpa using hI))
  · rw [if_neg hs]
    exact rR_err P a b u A n k l w hr hn (scode P l [a, b]) (by simpa using hs) (Lib.hid (show tup (greatT P l a b) = .tuple #[.int .i64 0, .bool false, .int .i64 (scode P l [a, b])] from by unfold tup greatT; simp only [if_neg hs]))
end Go.Proofs.Ythlnialipjihdaa
