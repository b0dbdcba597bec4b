/- The reference's solve, Solve, solved. -/
import Derived.Test.YthlnialipjihdaaRMath
set_option linter.unusedSimpArgs false
set_option linter.unusedVariables false
namespace Go.Proofs.Ythlnialipjihdaa
open Go.RowKit

theorem wp_make_ints {w : World} {o : Oper} {a : Act} {K : Act → World → Prop} {Q : Exit → Act → World → Prop}
    (l c : Operand) (hop : o.op = Op.makeSlice 33 l c) (L C : Int) (n : Nat) (hl : a.eval l = .int .i64 L) (hc : a.eval c = .int .i64 C) (hL : L = (n : Int)) (hC : C = (n : Int)) (hn : n ≤ 100000)
    (hK : K (a.put o.dst (.slice (some ⟨w.heap.size, 0, none⟩) n n)) (w.alloc (.cells (arr (List.replicate n 0)) 3))) : o.wp Try.prog a w K Q := by
  subst hL hC
  obtain ⟨i, hi, hz, hs, hb⟩ := info_parts (show (Try.prog.info? 3).map (fun i => (i.zero, i.size, i.bytes)) = some (some (.int .i64 0), 1, 8) by kernel_rfl)
  have hrun := run_make_row (P := Try.prog) 33 3 i _ Try.underlying33 hi hz hs rfl .i64 .i64 n (by rw [hb]; omega) (by omega) w
  rw [made_arr] at hrun
  unfold Oper.wp
  simp [execOp, hop, hl, hc, hrun, Result.andThen]
  exact hK

theorem bd_repl {p : Nat} {x : Int} (h1 : -1000000000000 ≤ x) (h2 : x ≤ 1000000000000) : Bd 0 (List.replicate p x) := fun v hv => by
  rw [List.length_replicate] at hv
  rw [at_repl hv]; omega

theorem sums_solve (p : Nat) (A : Option Addr) (n c g : Nat) (l : List Bnd) (w : World) (hr : RdB w A n c l) (hn400 : n ≤ 402) (hp1 : 1 ≤ p) (hp : p ≤ 60) (he : OkP p l) (hq : RdI w (some ⟨g, 0, none⟩) p p (List.replicate p 0)) :
    Calls Try.prog 107 #[.agg #[.int .i64 (p : Int), .slice A n c], .slice (some ⟨g, 0, none⟩) p p, .int .i64 1000000000] w (RetB (solL l p) (settle l p zeros).isSome w) := by
  have h := sums_any p 1000000000 A (some ⟨g, 0, none⟩) n c p p l (List.replicate p 0) w hr hn400 he hp1 hp hq (by simp) (bd_repl (by omega) (by omega)) (by omega) (by omega)
  rw [rsolve_eq hp1 hp he] at h
  unfold solL
  cases hz : settle l p zeros <;> rw [hz] at h <;> exact h

set_option maxRecDepth 100000 in
set_option maxHeartbeats 4000000 in
theorem rsolve_any (p : Nat) (A : Option Addr) (n c : Nat) (l : List Bnd) (w : World) (hr : RdB w A n c l) (hn400 : n ≤ 402) (hp1 : 1 ≤ p) (hp : p ≤ 60) (he : OkP p l) :
    Calls Try.prog 72 #[.agg #[.int .i64 (p : Int), .slice A n c]] w (RetB (solL l p) (settle l p zeros).isSome w) := by
  have HE := Lib.hid he; clear he
  have hB : Below w.heap.size w (w.alloc (.cells #[.int .i64 (p : Int), .slice A n c] 24)) := (Below.refl _ w).alloc (Nat.le_refl _) _
  have B0 := Lib.hid (Blk.drew (Blk.new w 24 #[.int .i64 (p : Int), .slice A n c]))
  have RD := Lib.hid (RdB.drew (hr.below hB))
  have BE := Lib.hid (Below.drew hB)
  clear hr
  go_enter Try.func72, Try.ntmps72
  go_wp2_with fail
  generalize w.alloc (.cells #[.int .i64 (p : Int), .slice A n c] 24) = W0 at *
  refine wp_region_held_drew (S := (fun W' => Blk W' w.heap.size 24 #[.int .i64 (p : Int), .slice A n c])) (by kernel_rfl) B0.out (fun _ => ?_)
  obtain ⟨w925, hw926⟩ : ∃ w', w' = W0.drew := ⟨_, rfl⟩
  rw [← hw926] at B0 BE RD
  rw [← hw926]
  clear hw926
  refine' wpAnyH_take (i := 0) (oi := { dst := some 4, op := Go.Op.load 24 (Go.Operand.tmp 1), type := 24, pos := "ref.go:229", after := #[], guard := none }) (v := _) rfl (by kernel_rfl) (by kernel_rfl) (by kernel_rfl) (fun _ _ _ h => h) (Or.inl ⟨by rfl, ?hyR927⟩) B0.out ?reR927
  case hyR927 => (rintro W' hS0; have hc0 : W'.cell? ⟨w.heap.size, 0, none⟩ = some (.int .i64 (p : Int)) := Blk.cell hS0 0; have hc1 : W'.cell? ⟨w.heap.size, 1, none⟩ = some (.slice A n c) := Blk.cell hS0 1; clear hS0; go_simp; try with_reducible rfl)
  try simp only [Act.put, List.setIfInBounds_toArray, List.set_cons_zero, List.set_cons_succ]
  refine' wpAnyH_take (i := 1) (oi := { dst := some 5, op := Go.Op.fieldAddr 24 (Go.Operand.tmp 1) 0, type := 0, pos := "ref.go:229", after := #[], guard := none }) (v := _) rfl (by kernel_rfl) (by kernel_rfl) (by kernel_rfl) (fun _ _ _ h => h) (Or.inl ⟨by rfl, ?hyR928⟩) B0.out ?reR928
  case hyR928 => (rintro W' hS0; clear hS0; go_simp; try with_reducible rfl)
  try simp only [Act.put, List.setIfInBounds_toArray, List.set_cons_zero, List.set_cons_succ]
  refine' wpAnyH_take (i := 2) (oi := { dst := some 6, op := Go.Op.load 3 (Go.Operand.tmp 5), type := 3, pos := "ref.go:229", after := #[{ on := 1, ground := Go.Ground.data }], guard := none }) (v := _) rfl (by kernel_rfl) (by kernel_rfl) (by kernel_rfl) (fun _ _ _ h => h) (Or.inl ⟨by rfl, ?hyR929⟩) B0.out ?reR929
  case hyR929 => (rintro W' hS0; have hc0 : W'.cell? ⟨w.heap.size, 0, none⟩ = some (.int .i64 (p : Int)) := Blk.cell hS0 0; clear hS0; go_simp; try with_reducible rfl)
  try simp only [Act.put, List.setIfInBounds_toArray, List.set_cons_zero, List.set_cons_succ]
  refine wpAnyH_ready (rs := [3]) (by kernel_rfl) (by simp) ?_
  refine AllReadyH.cons (o := { dst := some 7, op := Go.Op.makeSlice 33 (Go.Operand.tmp 6) (Go.Operand.tmp 6), type := 33, pos := "ref.go:229", after := #[{ on := 2, ground := Go.Ground.data }, { on := 2, ground := Go.Ground.data }], guard := none }) rfl (fun K hK => ?_) ?_
  · -- 3: makeSlice
    refine wp_make_ints _ _ rfl _ _ p rfl rfl rfl rfl (by omega) ?_
    have b0_934 := Lib.hid (Blk.alloc (B0.out) (.cells (arr (List.replicate p 0)) 3))
    have bel_935 := Lib.hid (Below.alloc (BE.out) ((BE.out).size) (.cells (arr (List.replicate p 0)) 3))
    have rd_936 := Lib.hid (RdB.alloc (RD.out) (.cells (arr (List.replicate p 0)) 3))
    have ne937 := Lib.hid (Nat.ne_of_lt (Blk.lt B0.out))
    have lb938 := Lib.hid (BE.out.size)
    have mk_939 := Lib.hid (Blk.new (w925) 3 (arr (List.replicate p 0)))
    obtain ⟨g930, hg931⟩ : ∃ g, g = (w925).heap.size := ⟨_, rfl⟩
    obtain ⟨w932, hw933⟩ : ∃ w', w' = (w925).alloc (.cells (arr (List.replicate p 0)) 3) := ⟨_, rfl⟩
    rw [← hw933] at b0_934 bel_935 rd_936 mk_939
    rw [← hg931] at ne937 lb938 mk_939
    rw [← hg931, ← hw933]
    clear hg931 hw933
    refine hK.out _ _ b0_934.out (fun _ => ?_); clear hK K
    try simp only [Act.put, List.setIfInBounds_toArray, List.set_cons_zero, List.set_cons_succ]
    refine wpAnyH_ready (rs := [4]) (by kernel_rfl) (by simp) ?_
    refine AllReadyH.cons (o := { dst := some 8, op := Go.Op.call { callee := Go.Callee.value (Go.Operand.func 107), args := #[Go.Operand.tmp 4, Go.Operand.tmp 7, Go.Operand.const (Go.Value.int Go.IntKind.i64 1000000000)], argTypes := #[24, 33, 3] }, type := 83, pos := "ref.go:229", after := #[{ on := 0, ground := Go.Ground.data }, { on := 3, ground := Go.Ground.data }], guard := none }) rfl (fun K hK => ?_) ?_
    · -- 4: call
      have hq_ := (OwnI.rd (own_of_blk (base := 0) (n := p) mk_939.out (Nat.zero_le _) (by simp) (by unfold maxLen; omega))).1
      go_simp
      go_at_call 107
      refine (sums_solve p A n c g930 l _ rd_936.out hn400 hp1 hp HE.out hq_).mono ?_
      rintro e w940 ⟨A2, n2, c2, rfl, ho, hb941⟩
      dsimp only
      have HO := Lib.hid (owns_base ho (bel_935.out.size)); clear ho hq_
      have b0_942 := Lib.hid (Blk.keep (b0_934.out) hb941)
      have bel_943 := Lib.hid (Below.trans (bel_935.out) (Below.mono hb941 ((bel_935.out).size)))
      have rd_944 := Lib.hid (RdB.below (rd_936.out) hb941)
      have mk_945 := Lib.hid (Blk.keep (mk_939.out) hb941)
      refine hK.out _ _ b0_942.out (fun _ => ?_); clear hK K
      try simp only [Act.put, List.setIfInBounds_toArray, List.set_cons_zero, List.set_cons_succ]
      refine' wpAnyH_take (i := 5) (oi := { dst := some 9, op := Go.Op.extract (Go.Operand.tmp 8) 0, type := 33, pos := "ref.go:229", after := #[{ on := 4, ground := Go.Ground.data }], guard := none }) (v := _) rfl (by kernel_rfl) (by kernel_rfl) (by kernel_rfl) (fun _ _ _ h => h) (Or.inl ⟨by rfl, ?hyR946⟩) b0_942.out ?reR946
      case hyR946 => (rintro W' hS0; clear hS0; go_simp; try with_reducible rfl)
      try simp only [Act.put, List.setIfInBounds_toArray, List.set_cons_zero, List.set_cons_succ]
      refine' wpAnyH_take (i := 6) (oi := { dst := some 10, op := Go.Op.extract (Go.Operand.tmp 8) 1, type := 4, pos := "ref.go:229", after := #[{ on := 4, ground := Go.Ground.data }], guard := none }) (v := _) rfl (by kernel_rfl) (by kernel_rfl) (by kernel_rfl) (fun _ _ _ h => h) (Or.inl ⟨by rfl, ?hyR947⟩) b0_942.out ?reR947
      case hyR947 => (rintro W' hS0; clear hS0; go_simp; try with_reducible rfl)
      try simp only [Act.put, List.setIfInBounds_toArray, List.set_cons_zero, List.set_cons_succ]
      refine' wpAnyH_take (i := 7) (oi := { dst := some 2, op := Go.Op.assign (Go.Operand.tmp 9), type := 33, pos := "ref.go:229", after := #[{ on := 5, ground := Go.Ground.data }, { on := 4, ground := Go.Ground.chain }, { on := 0, ground := Go.Ground.phase }, { on := 1, ground := Go.Ground.phase }, { on := 2, ground := Go.Ground.phase }, { on := 3, ground := Go.Ground.phase }, { on := 4, ground := Go.Ground.phase }, { on := 5, ground := Go.Ground.phase }, { on := 6, ground := Go.Ground.phase }], guard := none }) (v := _) rfl (by kernel_rfl) (by kernel_rfl) (by kernel_rfl) (fun _ _ _ h => h) (Or.inl ⟨by rfl, ?hyR948⟩) b0_942.out ?reR948
      case hyR948 => (rintro W' hS0; clear hS0; go_simp; try with_reducible rfl)
      try simp only [Act.put, List.setIfInBounds_toArray, List.set_cons_zero, List.set_cons_succ]
      refine' wpAnyH_take (i := 8) (oi := { dst := some 3, op := Go.Op.assign (Go.Operand.tmp 10), type := 4, pos := "ref.go:229", after := #[{ on := 6, ground := Go.Ground.data }, { on := 7, ground := Go.Ground.chain }, { on := 0, ground := Go.Ground.phase }, { on := 1, ground := Go.Ground.phase }, { on := 2, ground := Go.Ground.phase }, { on := 3, ground := Go.Ground.phase }, { on := 4, ground := Go.Ground.phase }, { on := 5, ground := Go.Ground.phase }, { on := 6, ground := Go.Ground.phase }, { on := 7, ground := Go.Ground.phase }], guard := none }) (v := _) rfl (by kernel_rfl) (by kernel_rfl) (by kernel_rfl) (fun _ _ _ h => h) (Or.inl ⟨by rfl, ?hyR949⟩) b0_942.out ?reR949
      case hyR949 => (rintro W' hS0; clear hS0; go_simp; try with_reducible rfl)
      try simp only [Act.put, List.setIfInBounds_toArray, List.set_cons_zero, List.set_cons_succ]
      refine wpAnyH_done (by kernel_rfl) ?_ _
      go_wp2
      go_ret2
      exact ⟨A2, n2, c2, rfl, HO.out, bel_943.out⟩
    exact AllReadyH.nil
  exact AllReadyH.nil

set_option maxRecDepth 100000 in
set_option maxHeartbeats 4000000 in
theorem rSolve_no (P : Int) (A : Option Addr) (n k : Nat) (l : List Bnd) (w : World) (hr : RdB w A n k l) (hn : n ≤ maxLen) (q : Int) (hq : (q != 0) = true) (E0 : Hid (chk P l = q)) :
    Calls Try.prog 26 #[.agg #[.int .i64 P, .slice A n k]] w (RetI ([], false, q) w) := by
  go_enter Try.func26, Try.ntmps26
  have bel_1 := Lib.hid (show Below w.heap.size w w from Below.refl _ w)
  have rd_2 := Lib.hid (hr)
  clear hr
  have bel_3 := Lib.hid (Below.alloc bel_1.out (bel_1.out.size) (.cells #[.int .i64 P, .slice A n k] 24))
  clear bel_1
  have rd_4 := Lib.hid (RdB.alloc rd_2.out (.cells #[.int .i64 P, .slice A n k] 24))
  clear rd_2
  have srd_5 := Lib.hid (Blk.new w 24 #[.int .i64 P, .slice A n k])
  have hc := rCheckSystem_any P A n k l _ rd_4.out hn
  rw [E0.out] at hc
  try dsimp only at hc
  have HC := Lib.hid hc; clear hc
  go_wp2_with fail
  refine HC.out.mono ?_
  rintro e w_6 ⟨rfl, hb⟩
  clear HC
  have bel_7 := Lib.hid (Below.trans bel_3.out (Below.mono hb (bel_3.out.size)))
  clear bel_3
  have rd_8 := Lib.hid (RdB.below rd_4.out hb)
  clear rd_4
  have srd_9 := Lib.hid (Blk.keep srd_5.out hb)
  clear srd_5
  clear hb
  have z_10 : (w_6).cell? ⟨w.heap.size, 0, none⟩ = some (.int .i64 P) := Blk.cell srd_9.out 0
  have z_11 : (w_6).cell? ⟨w.heap.size, 1, none⟩ = some (.slice A n k) := Blk.cell srd_9.out 1
  go_wp2
  go_ret3
  exact ⟨none, 0, 0, rfl, OwnI.nil_ _ _, bel_7.out⟩

set_option maxRecDepth 100000 in
set_option maxHeartbeats 4000000 in
theorem rSolve_yes (p : Nat) (A : Option Addr) (n k : Nat) (l : List Bnd) (w : World) (hr : RdB w A n k l) (hn : n ≤ maxLen) (hn4 : n ≤ 402) (hp1 : 1 ≤ p) (hp : p ≤ 60) (HE : Hid (OkP p l)) (E0 : Hid (chk p l = 0)) :
    Calls Try.prog 26 #[.agg #[.int .i64 (p : Int), .slice A n k]] w (RetI (solL l p, (settle l p zeros).isSome, 0) w) := by
  go_enter Try.func26, Try.ntmps26
  have bel_1 := Lib.hid (show Below w.heap.size w w from Below.refl _ w)
  have rd_2 := Lib.hid (hr)
  clear hr
  have bel_3 := Lib.hid (Below.alloc bel_1.out (bel_1.out.size) (.cells #[.int .i64 (p : Int), .slice A n k] 24))
  clear bel_1
  have rd_4 := Lib.hid (RdB.alloc rd_2.out (.cells #[.int .i64 (p : Int), .slice A n k] 24))
  clear rd_2
  have srd_5 := Lib.hid (Blk.new w 24 #[.int .i64 (p : Int), .slice A n k])
  have hc := rCheckSystem_any p A n k l _ rd_4.out hn
  rw [E0.out] at hc
  try dsimp only at hc
  have HC := Lib.hid hc; clear hc
  go_wp2_with fail
  refine HC.out.mono ?_
  rintro e w_6 ⟨rfl, hb⟩
  clear HC
  have bel_7 := Lib.hid (Below.trans bel_3.out (Below.mono hb (bel_3.out.size)))
  clear bel_3
  have rd_8 := Lib.hid (RdB.below rd_4.out hb)
  clear rd_4
  have srd_9 := Lib.hid (Blk.keep srd_5.out hb)
  clear srd_5
  clear hb
  have z_10 : (w_6).cell? ⟨w.heap.size, 0, none⟩ = some (.int .i64 (p : Int)) := Blk.cell srd_9.out 0
  have z_11 : (w_6).cell? ⟨w.heap.size, 1, none⟩ = some (.slice A n k) := Blk.cell srd_9.out 1
  go_wp2_with fail
  have hc := rsolve_any p A n k l _ rd_8.out hn4 hp1 hp HE.out
  unfold RetB at hc
  have HC := Lib.hid hc; clear hc
  refine HC.out.mono ?_
  rintro e w9 ⟨A2, n2, c2, rfl, ho, hb⟩
  clear HC
  have HO := Lib.hid (owns_base ho (bel_7.out.size))
  clear z_10 z_11
  have bel_12 := Lib.hid (Below.trans bel_7.out (Below.mono hb (bel_7.out.size)))
  clear bel_7
  have rd_13 := Lib.hid (RdB.below rd_8.out hb)
  clear rd_8
  have srd_14 := Lib.hid (Blk.keep srd_9.out hb)
  clear srd_9
  clear ho hb
  go_wp2
  go_ret3
  exact ⟨A2, n2, c2, rfl, HO.out, bel_12.out⟩

theorem solveV_eq {p : Nat} {l : List Bnd} (hk : chk p l = 0) : solveV p l = (solL l p, (settle l p zeros).isSome, 0) := by
  have hg : gcode p l [] = 0 := by unfold gcode; simp [hk]
  unfold solveV solL
  rw [if_pos hg, Int.toNat_natCast]
  cases settle l p zeros <;> rfl
theorem rSolve_any (P : Int) (A : Option Addr) (n k : Nat) (l : List Bnd) (w : World) (hr : RdB w A n k l) (hn : n ≤ maxLen) : Calls Try.prog 26 #[.agg #[.int .i64 P, .slice A n k]] w (RetI (solveV P l) w) := by
  by_cases hk : chk P l = 0
  · obtain ⟨hp1, hp2, hlen, -⟩ := chk_ok hk
    have he := okP_of hk
    obtain ⟨p, rfl⟩ := Int.eq_ofNat_of_zero_le (show 0 ≤ P by omega)
    rw [Int.toNat_natCast] at he
    rw [solveV_eq hk]
    exact rSolve_yes p A n k l w hr hn (by have := hr.len; omega) (by omega) (by omega) (Lib.hid he) (Lib.hid hk)
  · have hg : ¬ gcode P l [] = 0 := by unfold gcode; rw [if_neg hk]; exact hk
    have hv : solveV P l = ([], false, chk P l) := by unfold solveV; rw [if_neg hg]; unfold gcode; rw [if_neg hk]
    rw [hv]
    exact rSolve_no P A n k l w hr hn (chk P l) (by simpa using hk) (Lib.hid rfl)

set_option maxRecDepth 100000 in
set_option maxHeartbeats 4000000 in
theorem rSolved_yes (p : Nat) (A : Option Addr) (n k : Nat) (l : List Bnd) (w : World) (hr : RdB w A n k l) (hn : n ≤ maxLen) (hn4 : n ≤ 402) (hp1 : 1 ≤ p) (hp : p ≤ 60) (HE : Hid (OkP p l)) (hS : (settle l p zeros).isSome = true) :
    Calls Try.prog 78 #[.agg #[.int .i64 (p : Int), .slice A n k]] w fun e w' => e = .returned (.int .i64 0) ∧ Below w.heap.size w w' := by
  go_enter Try.func78, Try.ntmps78
  have bel_1 := Lib.hid (show Below w.heap.size w w from Below.refl _ w)
  have rd_2 := Lib.hid (hr)
  clear hr
  have bel_3 := Lib.hid (Below.alloc bel_1.out (bel_1.out.size) (.cells #[.int .i64 (p : Int), .slice A n k] 24))
  clear bel_1
  have rd_4 := Lib.hid (RdB.alloc rd_2.out (.cells #[.int .i64 (p : Int), .slice A n k] 24))
  clear rd_2
  have srd_5 := Lib.hid (Blk.new w 24 #[.int .i64 (p : Int), .slice A n k])
  go_wp2_with fail
  have hc := rsolve_any p A n k l _ rd_4.out hn4 hp1 hp HE.out
  unfold RetB at hc
  rw [hS] at hc
  have HC := Lib.hid hc; clear hc
  refine HC.out.mono ?_
  rintro e w9 ⟨A2, n2, c2, rfl, ho, hb⟩
  clear HC
  have bel_6 := Lib.hid (Below.trans bel_3.out (Below.mono hb (bel_3.out.size)))
  clear bel_3
  have rd_7 := Lib.hid (RdB.below rd_4.out hb)
  clear rd_4
  have srd_8 := Lib.hid (Blk.keep srd_5.out hb)
  clear srd_5
  clear ho hb
  go_wp2
  go_ret
  exact ⟨rfl, bel_6.out⟩

set_option maxRecDepth 100000 in
set_option maxHeartbeats 4000000 in
theorem rSolved_no (p : Nat) (A : Option Addr) (n k : Nat) (l : List Bnd) (w : World) (hr : RdB w A n k l) (hn : n ≤ maxLen) (hn4 : n ≤ 402) (hp1 : 1 ≤ p) (hp : p ≤ 60) (HE : Hid (OkP p l)) (hS : (settle l p zeros).isSome = false) :
    Calls Try.prog 78 #[.agg #[.int .i64 (p : Int), .slice A n k]] w fun e w' => e = .returned (.int .i64 10) ∧ Below w.heap.size w w' := by
  go_enter Try.func78, Try.ntmps78
  have bel_1 := Lib.hid (show Below w.heap.size w w from Below.refl _ w)
  have rd_2 := Lib.hid (hr)
  clear hr
  have bel_3 := Lib.hid (Below.alloc bel_1.out (bel_1.out.size) (.cells #[.int .i64 (p : Int), .slice A n k] 24))
  clear bel_1
  have rd_4 := Lib.hid (RdB.alloc rd_2.out (.cells #[.int .i64 (p : Int), .slice A n k] 24))
  clear rd_2
  have srd_5 := Lib.hid (Blk.new w 24 #[.int .i64 (p : Int), .slice A n k])
  go_wp2_with fail
  have hc := rsolve_any p A n k l _ rd_4.out hn4 hp1 hp HE.out
  unfold RetB at hc
  rw [hS] at hc
  have HC := Lib.hid hc; clear hc
  refine HC.out.mono ?_
  rintro e w9 ⟨A2, n2, c2, rfl, ho, hb⟩
  clear HC
  have bel_6 := Lib.hid (Below.trans bel_3.out (Below.mono hb (bel_3.out.size)))
  clear bel_3
  have rd_7 := Lib.hid (RdB.below rd_4.out hb)
  clear rd_4
  have srd_8 := Lib.hid (Blk.keep srd_5.out hb)
  clear srd_5
  clear ho hb
  go_wp2
  go_ret
  exact ⟨rfl, bel_6.out⟩
end Go.Proofs.Ythlnialipjihdaa
