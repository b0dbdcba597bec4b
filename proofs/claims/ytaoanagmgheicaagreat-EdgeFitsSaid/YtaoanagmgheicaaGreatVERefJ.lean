import Derived.Test.YtaoanagmgheicaaGreatQEMeet
import Derived.Test.YtaoanagmgheicaaGreatQRWalk
import Derived.Test.YtaoanagmgheicaaGreatVClosed
set_option maxHeartbeats 4000000
set_option linter.unusedSimpArgs false
set_option linter.unusedVariables false
namespace Go.Proofs.YtaoanagmgheicaaGreat
open Go.RowKit
set_option maxRecDepth 100000 in
theorem rcorner_any (c : Int) (A B : Option Addr) (n k m j : Nat) (p1 p2 p3 p4 : Int) (q v : Int) (w : World) (g0 : 3 ≤ c ∧ c ≤ 16) (g1 : 0 ≤ p1 ∧ p1 ≤ 16) (g2 : 0 ≤ p2 ∧ p2 ≤ 16) (g3 : 0 ≤ p3 ∧ p3 ≤ 16) (g4 : 0 ≤ p4 ∧ p4 ≤ 16) (g5 : 0 ≤ q ∧ q ≤ 16) (hv : ren (c + 1) p1 p3 p4 q = v) :
 Calls Tryz.prog 113 #[.agg #[.int .i64 c, .slice A n k, .slice B m j], .agg #[.int .i64 p1, .int .i64 p2, .int .i64 p3, .int .i64 p4], .int .i64 q] w fun e w' => e = .returned (.int .i64 v) ∧ Below w.heap.size w w' := by
 by_cases h1 : p3 ≤ q
 · by_cases h2 : q ≤ p4
   · skip
     go_enter Tryz.func113, Tryz.ntmps113
     obtain ⟨ba_1, bp_2, bel_3⟩ := ent2 w #[.int .i64 c, .slice A n k, .slice B m j] 24 #[.int .i64 p1, .int .i64 p2, .int .i64 p3, .int .i64 p4] 28
     obtain ⟨z_4, z_5, z_6⟩ := at3 ba_1
     obtain ⟨z_7, z_8, z_9, z_10⟩ := at4 bp_2
     go_wp2
     go_ret
     exact ⟨ret_int (by rw [← hv]; unfold ren; split <;> (try split) <;> omega), bel_3.out⟩
   · have h3 : ¬ q < p3 := by omega
     go_enter Tryz.func113, Tryz.ntmps113
     obtain ⟨ba_1, bp_2, bel_3⟩ := ent2 w #[.int .i64 c, .slice A n k, .slice B m j] 24 #[.int .i64 p1, .int .i64 p2, .int .i64 p3, .int .i64 p4] 28
     obtain ⟨z_4, z_5, z_6⟩ := at3 ba_1
     obtain ⟨z_7, z_8, z_9, z_10⟩ := at4 bp_2
     go_wp2
     go_ret
     exact ⟨ret_int (by rw [← hv]; unfold ren; split <;> (try split) <;> omega), bel_3.out⟩
 · have h3 : q < p3 := by omega
   go_enter Tryz.func113, Tryz.ntmps113
   obtain ⟨ba_1, bp_2, bel_3⟩ := ent2 w #[.int .i64 c, .slice A n k, .slice B m j] 24 #[.int .i64 p1, .int .i64 p2, .int .i64 p3, .int .i64 p4] 28
   obtain ⟨z_4, z_5, z_6⟩ := at3 ba_1
   obtain ⟨z_7, z_8, z_9, z_10⟩ := at4 bp_2
   go_wp2
   go_ret
   exact ⟨ret_int (by rw [← hv]; unfold ren; split <;> (try split) <;> omega), bel_3.out⟩
set_option maxRecDepth 100000 in
theorem rside_any (c : Int) (A B : Option Addr) (n k m j : Nat) (p1 p2 p3 p4 : Int) (q v : Int) (w : World) (g0 : 3 ≤ c ∧ c ≤ 16) (g1 : 0 ≤ p1 ∧ p1 ≤ 16) (g2 : 0 ≤ p2 ∧ p2 ≤ 16) (g3 : 0 ≤ p3 ∧ p3 ≤ 16) (g4 : 0 ≤ p4 ∧ p4 ≤ 16) (g5 : 0 ≤ q ∧ q ≤ 16) (hv : ren c p1 p3 (p4 - 1) q = v) :
 Calls Tryz.prog 112 #[.agg #[.int .i64 c, .slice A n k, .slice B m j], .agg #[.int .i64 p1, .int .i64 p2, .int .i64 p3, .int .i64 p4], .int .i64 q] w fun e w' => e = .returned (.int .i64 v) ∧ Below w.heap.size w w' := by
 by_cases h1 : p3 ≤ q
 · by_cases h2 : q < p4
   · skip
     go_enter Tryz.func112, Tryz.ntmps112
     obtain ⟨ba_1, bp_2, bel_3⟩ := ent2 w #[.int .i64 c, .slice A n k, .slice B m j] 24 #[.int .i64 p1, .int .i64 p2, .int .i64 p3, .int .i64 p4] 28
     obtain ⟨z_4, z_5, z_6⟩ := at3 ba_1
     obtain ⟨z_7, z_8, z_9, z_10⟩ := at4 bp_2
     go_wp2
     go_ret
     exact ⟨ret_int (by rw [← hv]; unfold ren; split <;> (try split) <;> omega), bel_3.out⟩
   · have h3 : ¬ q < p3 := by omega
     go_enter Tryz.func112, Tryz.ntmps112
     obtain ⟨ba_1, bp_2, bel_3⟩ := ent2 w #[.int .i64 c, .slice A n k, .slice B m j] 24 #[.int .i64 p1, .int .i64 p2, .int .i64 p3, .int .i64 p4] 28
     obtain ⟨z_4, z_5, z_6⟩ := at3 ba_1
     obtain ⟨z_7, z_8, z_9, z_10⟩ := at4 bp_2
     go_wp2
     go_ret
     exact ⟨ret_int (by rw [← hv]; unfold ren; split <;> (try split) <;> omega), bel_3.out⟩
 · have h3 : q < p3 := by omega
   go_enter Tryz.func112, Tryz.ntmps112
   obtain ⟨ba_1, bp_2, bel_3⟩ := ent2 w #[.int .i64 c, .slice A n k, .slice B m j] 24 #[.int .i64 p1, .int .i64 p2, .int .i64 p3, .int .i64 p4] 28
   obtain ⟨z_4, z_5, z_6⟩ := at3 ba_1
   obtain ⟨z_7, z_8, z_9, z_10⟩ := at4 bp_2
   go_wp2
   go_ret
   exact ⟨ret_int (by rw [← hv]; unfold ren; split <;> (try split) <;> omega), bel_3.out⟩
theorem own_ne {w : World} {base size n g : Nat} {e t : TypeId} {v : Value} {xs : List Value} {cs : Array Value} (h : w.ownsRow base e size v n xs) (hb : Blk w g t cs) (ht : e ≠ t) : v.ownBlock = some g → False := by
 intro hv
 rcases h.2 with ⟨rfl, -⟩ | ⟨g', cap, cur, rfl, -, hg, -⟩
 · simp [Value.ownBlock] at hv
 · simp [Value.ownBlock] at hv
   subst hv
   rw [show w.heap[g']? = _ from hb] at hg
   simp only [Option.some.injEq] at hg
   injection hg with h1 h2
   exact ht h2.symm
theorem wp_append_lit {w : World} {o : Oper} {a : Act} {K : Act → World → Prop} {Q : Exit → Act → World → Prop} (s x : Operand)
 (ho : o.op = .call { callee := .builtin .append, args := #[s, x], argTypes := #[22, 22] }) (base : Nat) (V : Value) (hown : w.ownsRow base 30 4 V 0 []) (hs : a.eval s = V)
 (A : Option Addr) (n c : Nat) (l : List Bnd) (hr : RdB w A n c l) (hn : n ≤ 400) (hx : a.eval x = .slice A n c) (hbase : base ≤ w.heap.size)
 (h : ∀ A' c' w', w'.ownsRow base 30 4 (.slice A' n c') n (bcells l) → w.grownBy w' V.ownBlock → K (a.put o.dst (.slice A' n c')) w') : o.wp Tryz.prog a w K Q := by
 obtain ⟨i0, hi0, hz0, hz1, hz2⟩ := info_parts infoB
 cases A with
 | none =>
  obtain ⟨rfl, rfl⟩ := hr.nil rfl
  have hl0 : l = [] := List.length_eq_zero_iff.1 hr.len
  subst hl0
  obtain ⟨A5, c5, rfl, -⟩ := own_form hown
  have hrun := run_append_owned_none (P := Tryz.prog) (w := w) base 22 o.type 30 i0 4 Tryz.underlying22 hi0 _ 0 [] hown
  unfold Oper.wp execOp
  simp only [ho, resolve, invoke, builtin, Sem.run_bind, Sem.run_pure, Result.andThen_ok, List.map_toArray, List.map_cons, List.map_nil, hs, hx, hrun]
  exact h A5 c5 w hown (World.grownBy.refl _ _)
 | some ad =>
  obtain ⟨v', w', hr2, h2, h3, -⟩ := run_append_own (P := Tryz.prog) (w := w) base 22 o.type 30 i0 _ 4 32 Tryz.underlying22 hi0 hz0 hz1 hz2 rfl (by omega) V 0 [] hown ad n c (bcells l) (by rw [bcells_length, hr.len]) (hr.cells.hc ad rfl) (bcells_one l) (by unfold maxLen; omega) (by omega) hbase
  rw [Nat.zero_add, List.nil_append] at h2
  obtain ⟨A5, c5, rfl, -⟩ := own_form h2
  unfold Oper.wp execOp
  simp only [ho, resolve, invoke, builtin, Sem.run_bind, Sem.run_pure, Result.andThen_ok, List.map_toArray, List.map_cons, List.map_nil, hs, hx, hr2]
  exact h A5 c5 w' h2 h3
set_option maxRecDepth 100000 in
theorem rjoint_t (c : Int) (A B : Option Addr) (n k m j : Nat) (ws ts : List Bnd) (d : Int) (C D : Option Addr) (n2 k2 m2 j2 : Nat) (ws2 ts2 : List Bnd) (p1 p2 p3 p4 : Int) (w : World) (h1 : RdB w A n k ws) (h2 : RdB w B m j ts) (hn : n ≤ maxLen) (hm : m ≤ maxLen) (h3 : RdB w C n2 k2 ws2) (h4 : RdB w D m2 j2 ts2) (hn2 : n2 ≤ maxLen) (hm2 : m2 ≤ maxLen) (g0 : 3 ≤ c ∧ c ≤ 16) (g1 : 3 ≤ d ∧ d ≤ 16) (g2 : 0 ≤ p1 ∧ p1 < p2 ∧ p2 ≤ c) (g3 : 0 ≤ p3 ∧ p3 < p4 ∧ p4 ≤ d) (hl1 : m ≤ 400) (hl2 : m2 ≤ 400) (hok : ∀ x ∈ ts2, 0 ≤ x.f ∧ x.f ≤ 16 ∧ 0 ≤ x.t ∧ x.t ≤ 16) :
 Calls Tryz.prog 75 #[.agg #[.int .i64 c, .slice A n k, .slice B m j], .agg #[.int .i64 d, .slice C n2 k2, .slice D m2 j2], .agg #[.int .i64 p1, .int .i64 p2, .int .i64 p3, .int .i64 p4], .bool true] w fun e w' => ∃ Ar nr kr, e = .returned (.agg #[.int .i64 (c + d - (p2 - p1)), .slice Ar nr kr]) ∧ RdB w' Ar nr kr (turnL ⟨c, ws, ts⟩ ⟨d, ws2, ts2⟩ ⟨p1, p2, p3, p4⟩) ∧ Below w.heap.size w w' := by
 obtain ⟨i0, hi0, hz0, hz1, hz2⟩ := info_parts infoB
 have HI := Lib.hid hi0; have HZ0 := Lib.hid hz0; have HZ1 := Lib.hid hz1; have HZ2 := Lib.hid hz2; clear hi0 hz0 hz1 hz2
 have HWS : Hid (IntKind.i64.wrap (c + d) = c + d ∧ IntKind.i64.wrap (p2 - p1) = p2 - p1 ∧ IntKind.i64.wrap (c + d - (p2 - p1)) = c + d - (p2 - p1) ∧ True) := Lib.hid ⟨IntWalk.i64_in _ (by omega), IntWalk.i64_in _ (by omega), IntWalk.i64_in _ (by omega), trivial⟩
 have RB0 := Lib.hid (h4); have RA0 := Lib.hid (h2); clear h1 h2 h3 h4
 go_enter Tryz.func75, Tryz.ntmps75
 have bel_1 := Lib.hid (show Below w.heap.size w w from Below.refl _ w)
 obtain ⟨o_, ho_⟩ : ∃ o, o = ((.cells #[.int .i64 c, .slice A n k, .slice B m j] 24) : Obj) := ⟨_, rfl⟩
 replace bel_1 := bA bel_1 o_
 subst ho_
 have ba_2 := Lib.hid (Blk.new w 24 #[.int .i64 c, .slice A n k, .slice B m j])
 obtain ⟨o_, ho_⟩ : ∃ o, o = ((.cells #[.int .i64 d, .slice C n2 k2, .slice D m2 j2] 24) : Obj) := ⟨_, rfl⟩
 replace bel_1 := bA bel_1 o_
 replace ba_2 := kA ba_2 o_
 subst ho_
 have nb_ := Blk.new (w.alloc (.cells #[.int .i64 c, .slice A n k, .slice B m j] 24)) 24 #[.int .i64 d, .slice C n2 k2, .slice D m2 j2]
 simp only [World.size_alloc] at nb_
 have bb_3 := Lib.hid nb_; clear nb_
 obtain ⟨o_, ho_⟩ : ∃ o, o = ((.cells #[.int .i64 p1, .int .i64 p2, .int .i64 p3, .int .i64 p4] 28) : Obj) := ⟨_, rfl⟩
 replace bel_1 := bA bel_1 o_
 replace ba_2 := kA ba_2 o_
 replace bb_3 := kA bb_3 o_
 subst ho_
 have nb_ := Blk.new ((w.alloc (.cells #[.int .i64 c, .slice A n k, .slice B m j] 24)).alloc (.cells #[.int .i64 d, .slice C n2 k2, .slice D m2 j2] 24)) 28 #[.int .i64 p1, .int .i64 p2, .int .i64 p3, .int .i64 p4]
 simp only [World.size_alloc] at nb_
 have bp_4 := Lib.hid nb_; clear nb_
 obtain ⟨o_, ho_⟩ : ∃ o, o = ((.cells #[.int .i64 0, .slice none 0 0] 46) : Obj) := ⟨_, rfl⟩
 replace bel_1 := bA bel_1 o_
 replace ba_2 := kA ba_2 o_
 replace bb_3 := kA bb_3 o_
 replace bp_4 := kA bp_4 o_
 subst ho_
 have nb_ := Blk.new (((w.alloc (.cells #[.int .i64 c, .slice A n k, .slice B m j] 24)).alloc (.cells #[.int .i64 d, .slice C n2 k2, .slice D m2 j2] 24)).alloc (.cells #[.int .i64 p1, .int .i64 p2, .int .i64 p3, .int .i64 p4] 28)) 46 #[.int .i64 0, .slice none 0 0]
 simp only [World.size_alloc] at nb_
 have bz_5 := Lib.hid nb_; clear nb_
 obtain ⟨z_6, z_7, z_8⟩ := at3 ba_2
 obtain ⟨z_9, z_10, z_11⟩ := at3 bb_3
 obtain ⟨z_12, z_13, z_14, z_15⟩ := at4 bp_4
 obtain ⟨z_16, z_17⟩ := at2 bz_5
 go_upto_region 3 with fail
 clear z_6 z_7 z_8 z_9 z_10 z_11 z_12 z_13 z_14 z_15 z_16 z_17
 obtain ⟨w1, hW⟩ : ∃ w', w' = ((((w.alloc (.cells #[.int .i64 c, .slice A n k, .slice B m j] 24)).alloc (.cells #[.int .i64 d, .slice C n2 k2, .slice D m2 j2] 24)).alloc (.cells #[.int .i64 p1, .int .i64 p2, .int .i64 p3, .int .i64 p4] 28)).alloc (.cells #[.int .i64 0, .slice none 0 0] 46)) := ⟨_, rfl⟩
 rw [← hW] at bel_1 ba_2 bb_3 bp_4 bz_5
 rw [← hW]
 clear hW
 go_cut [10] from 24 to 35 (fun sb wx => ∃ (gs : Nat) (Ai : Option Addr) (ci : Nat), sb = .pointer (some ⟨gs, 0, none⟩) ∧ wx.ownsRow (w.heap.size + 1 + 1 + 1 + 1) 30 4 (.slice Ai (m) ci) (m) (bcells (ts)) ∧ Blk wx gs 46 #[.int .i64 (c + d - (p2 - p1)), .slice Ai (m) ci] ∧ (w.heap.size + 1 + 1 + 1 + 1) ≤ gs ∧ Blk wx (w.heap.size) 24 #[.int .i64 c, .slice A n k, .slice B m j] ∧ Blk wx (w.heap.size + 1) 24 #[.int .i64 d, .slice C n2 k2, .slice D m2 j2] ∧ Blk wx (w.heap.size + 1 + 1) 28 #[.int .i64 p1, .int .i64 p2, .int .i64 p3, .int .i64 p4] ∧ Blk wx (w.heap.size + 1 + 1 + 1) 46 #[.int .i64 0, .slice none 0 0] ∧ Below w.heap.size w wx)
 case first =>
  have hgz_ := Nat.succ_le_of_lt (Blk.lt bz_5.out)
  replace bel_1 := bD bel_1
  replace ba_2 := kD ba_2
  replace bb_3 := kD bb_3
  replace bp_4 := kD bp_4
  replace bz_5 := kD bz_5
  refine wp_region_held_drew (S := (fun W' => Blk W' (w.heap.size) 24 #[.int .i64 c, .slice A n k, .slice B m j] ∧ Blk W' (w.heap.size + 1) 24 #[.int .i64 d, .slice C n2 k2, .slice D m2 j2])) (by kernel_rfl) ⟨ba_2.out, bb_3.out⟩ (fun _ => ?_)
  obtain ⟨w1696, hw1697⟩ : ∃ w', w' = (w1.drew) := ⟨_, rfl⟩
  rw [← hw1697] at bel_1 ba_2 bb_3 bp_4 bz_5
  rw [← hw1697]
  clear hw1697
  refine' twH 0 ⟨ba_2.out, bb_3.out⟩ ?_
  refine' tkH 1 ⟨ba_2.out, bb_3.out⟩ ?hyR1699 ?_
  case hyR1699 => (rintro W' ⟨hS0, hS1⟩; have hc0 := Blk.nth hS0 0; clear hS0 hS1; go_simp; try with_reducible rfl)
  refine' twH 2 ⟨ba_2.out, bb_3.out⟩ ?_
  refine' tkH 3 ⟨ba_2.out, bb_3.out⟩ ?hyR1701 ?_
  case hyR1701 => (rintro W' ⟨hS0, hS1⟩; have hc0 := Blk.nth hS1 0; clear hS0 hS1; go_simp; try with_reducible rfl)
  try simp only [Act.put, qsA, qsZ, qsS]
  refine' twH 4 ⟨ba_2.out, bb_3.out⟩ ?_
  refine' twH 5 ⟨ba_2.out, bb_3.out⟩ ?_
  refine' twH 6 ⟨ba_2.out, bb_3.out⟩ ?_
  refine' twH 8 ⟨ba_2.out, bb_3.out⟩ ?_
  try simp only [Act.put, qsA, qsZ, qsS]
  refine' tkH 9 ⟨ba_2.out, bb_3.out⟩ ?hyR1706 ?_
  case hyR1706 => (rintro W' ⟨hS0, hS1⟩; have hc0 := Blk.nth hS0 2; clear hS0 hS1; go_simp; try with_reducible rfl)
  try simp only [Act.put, qsA, qsZ, qsS]
  refine wpAnyH_ready (rs := [7, 12]) (by kernel_rfl) (by simp) ?_
  refine rdH rfl (fun K hK => ?_) ?_
  · -- 7: buildSlice
   go_simp
   have how_ := World.ownsRow_lit (w1696) (e := 30) (size := 4) #[] 0 (Nat.le_refl _) (by unfold maxLen; omega) rfl
   have how_ := owns_base how_ (show (w.heap.size + 1 + 1 + 1 + 1) ≤ _ from Nat.succ_le_of_lt (Blk.lt (bz_5.out)))
   have lb1711 := Lib.hid (bel_1.out.size)
   have ne1712 := Lib.hid (Nat.ne_of_lt (Blk.lt ba_2.out))
   have ne1713 := Lib.hid (Nat.ne_of_lt (Blk.lt bb_3.out))
   have ne1714 := Lib.hid (Nat.ne_of_lt (Blk.lt bp_4.out))
   have ne1715 := Lib.hid (Nat.ne_of_lt (Blk.lt bz_5.out))
   obtain ⟨o_, ho_⟩ : ∃ o, o = (.cells #[] 30 : Obj) := ⟨_, rfl⟩
   replace bel_1 := bA bel_1 o_
   replace ba_2 := kA ba_2 o_
   replace bb_3 := kA bb_3 o_
   replace bp_4 := kA bp_4 o_
   replace bz_5 := kA bz_5 o_
   subst ho_
   have gl_1716 := Lib.hid (Blk.new (w1696) 30 #[])
   obtain ⟨g1707, hg1708⟩ : ∃ g, g = (w1696).heap.size := ⟨_, rfl⟩
   obtain ⟨w1709, hw1710⟩ : ∃ w', w' = (w1696).alloc (.cells #[] 30) := ⟨_, rfl⟩
   rw [← hw1710] at bel_1 ba_2 bb_3 bp_4 bz_5 gl_1716 how_
   rw [← hg1708] at lb1711 ne1712 ne1713 ne1714 ne1715 gl_1716 how_
   rw [← hg1708, ← hw1710]
   clear hg1708 hw1710
   have OWL := Lib.hid how_; clear how_
   refine hK.out _ _ ⟨ba_2.out, bb_3.out⟩ (fun _ => ?_); clear hK K
   try simp only [Act.put, qsA, qsZ, qsS]
   refine wpAnyH_ready (rs := [10, 12]) (by kernel_rfl) (by simp) ?_
   refine rdH rfl (fun K hK => ?_) ?_
   · -- 10: call
    refine wp_append_lit (.tmp 31) (.tmp 33) rfl (w.heap.size + 1 + 1 + 1 + 1) _ (OWL.out) rfl B m j ts (RdB.below RA0.out (bel_1.out)) hl1 rfl (Nat.succ_le_of_lt (Blk.lt (bz_5.out))) ?_
    intro Ai ci w1717 hown5_ hg5_
    have k1718 := Lib.hid (blk_grown (ba_2.out) hg5_ (fun e => by have h_ := (World.ownsRow.lt (OWL.out) _ e).1; omega))
    have k1719 := Lib.hid (blk_grown (bb_3.out) hg5_ (fun e => by have h_ := (World.ownsRow.lt (OWL.out) _ e).1; omega))
    have k1720 := Lib.hid (blk_grown (bp_4.out) hg5_ (fun e => by have h_ := (World.ownsRow.lt (OWL.out) _ e).1; omega))
    have k1721 := Lib.hid (blk_grown (bz_5.out) hg5_ (fun e => by have h_ := (World.ownsRow.lt (OWL.out) _ e).1; omega))
    have k1722 := Lib.hid (Below.grown (bel_1.out) hg5_ (Below.size (bel_1.out)) (fun q e => by have h_ := (World.ownsRow.lt (OWL.out) q e).1; omega))
    have OWA := Lib.hid hown5_
    clear hown5_ hg5_
    refine hK.out _ _ ⟨k1718.out, k1719.out⟩ (fun _ => ?_); clear hK K
    try simp only [Act.put, qsA, qsZ, qsS]
    refine' twH 11 ⟨k1718.out, k1719.out⟩ ?_
    try simp only [Act.put, qsA, qsZ, qsS]
    refine oneH 12 rfl fun K hK => ?_
    go_simp
    have hbz_ := Lib.hid (Nat.lt_of_lt_of_le (Blk.lt (k1721.out)) (Nat.le_refl _))
    have lb1728 := Lib.hid (k1722.out.size)
    have ne1729 := Lib.hid (Nat.ne_of_lt (Blk.lt k1718.out))
    have ne1730 := Lib.hid (Nat.ne_of_lt (Blk.lt k1719.out))
    have ne1731 := Lib.hid (Nat.ne_of_lt (Blk.lt k1720.out))
    have ne1732 := Lib.hid (Nat.ne_of_lt (Blk.lt k1721.out))
    obtain ⟨o_, ho_⟩ : ∃ o, o = (.cells #[.int .i64 0, .slice none 0 0] 46 : Obj) := ⟨_, rfl⟩
    replace k1722 := bA k1722 o_
    replace k1718 := kA k1718 o_
    replace k1719 := kA k1719 o_
    replace k1720 := kA k1720 o_
    replace k1721 := kA k1721 o_
    replace OWA := Lib.hid (World.ownsRow.alloc (OWA.out) (o_))
    subst ho_
    have bs_1733 := Lib.hid (Blk.new (w1717) 46 #[.int .i64 0, .slice none 0 0])
    obtain ⟨g1724, hg1725⟩ : ∃ g, g = (w1717).heap.size := ⟨_, rfl⟩
    obtain ⟨w1726, hw1727⟩ : ∃ w', w' = (w1717).alloc (.cells #[.int .i64 0, .slice none 0 0] 46) := ⟨_, rfl⟩
    rw [← hw1727] at k1722 k1718 k1719 k1720 k1721 OWA bs_1733
    rw [← hg1725] at lb1728 ne1729 ne1730 ne1731 ne1732 bs_1733 hbz_
    rw [← hg1725, ← hw1727]
    clear hg1725 hw1727
    have lt1734 := hbz_; clear hbz_
    refine hK.out _ _ ⟨k1718.out, k1719.out⟩ (fun _ => ?_); clear hK K
    try simp only [Act.put, qsA, qsZ, qsS]
    refine oneH 13 rfl fun K hK => ?_
    have HGE := Lib.hid (show (w.heap.size + 1 + 1 + 1 + 1) ≤ g1724 from by have h1_ := lt1734.out; omega)
    have hge_ := HGE.out
    obtain ⟨hw1, hw2, hw3, hw4⟩ := HWS.out
    have v1735 : (w1726).cell? ⟨g1724, 0, none⟩ = some (.int .i64 0) := Blk.cell (bs_1733.out) 0
    have f1736 : (w1726).frozen? ⟨g1724, 0, none⟩ = false := Blk.frozen (bs_1733.out) 0
    have v1737 : (w1726).cell? ⟨g1724, 1, none⟩ = some (.slice none 0 0) := Blk.cell (bs_1733.out) 1
    have f1738 : (w1726).frozen? ⟨g1724, 1, none⟩ = false := Blk.frozen (bs_1733.out) 1
    have hlt_ := Blk.lt (bs_1733.out)
    go_simp
    try simp only [hw1, hw2, hw3, hw4]
    clear hw1 hw2 hw3 hw4
    have k1739 := Lib.hid (Blk.set_ (Blk.set_ (bs_1733.out) 0 (.int .i64 (c + d - (p2 - p1)))) 1 (.slice Ai m ci))
    have k1740 := Lib.hid (Blk.far (Blk.far (k1718.out) (p := ⟨g1724, 0, none⟩) (by dsimp only; omega) (.int .i64 (c + d - (p2 - p1)))) (p := ⟨g1724, 1, none⟩) (by dsimp only; omega) (.slice Ai m ci))
    have k1741 := Lib.hid (Blk.far (Blk.far (k1719.out) (p := ⟨g1724, 0, none⟩) (by dsimp only; omega) (.int .i64 (c + d - (p2 - p1)))) (p := ⟨g1724, 1, none⟩) (by dsimp only; omega) (.slice Ai m ci))
    have k1742 := Lib.hid (Blk.far (Blk.far (k1720.out) (p := ⟨g1724, 0, none⟩) (by dsimp only; omega) (.int .i64 (c + d - (p2 - p1)))) (p := ⟨g1724, 1, none⟩) (by dsimp only; omega) (.slice Ai m ci))
    have k1743 := Lib.hid (Blk.far (Blk.far (k1721.out) (p := ⟨g1724, 0, none⟩) (by dsimp only; omega) (.int .i64 (c + d - (p2 - p1)))) (p := ⟨g1724, 1, none⟩) (by dsimp only; omega) (.slice Ai m ci))
    have k1744 := Lib.hid (Below.setCell (Below.setCell (k1722.out) (p := ⟨g1724, 0, none⟩) (by dsimp only; omega) (.int .i64 (c + d - (p2 - p1)))) (p := ⟨g1724, 1, none⟩) (by dsimp only; omega) (.slice Ai m ci))
    have k1745 := Lib.hid (own_far (own_far (OWA.out) (a := ⟨g1724, 0, none⟩) (own_ne (OWA.out) (bs_1733.out) (by decide)) (.int .i64 (c + d - (p2 - p1)))) (a := ⟨g1724, 1, none⟩) (own_ne (own_far (OWA.out) (a := ⟨g1724, 0, none⟩) (own_ne (OWA.out) (bs_1733.out) (by decide)) (.int .i64 (c + d - (p2 - p1)))) (Blk.set_ (bs_1733.out) 0 (.int .i64 (c + d - (p2 - p1)))) (by decide)) (.slice Ai m ci))
    obtain ⟨w1746, hw1747⟩ : ∃ w', w' = (((w1726).setCell ⟨g1724, 0, none⟩ (.int .i64 (c + d - (p2 - p1)))).setCell ⟨g1724, 1, none⟩ (.slice Ai m ci)) := ⟨_, rfl⟩
    rw [← hw1747] at k1739 k1740 k1741 k1742 k1743 k1744 k1745
    rw [← hw1747]
    clear hw1747 v1735 f1736 v1737 f1738 hlt_
    clear hge_
    refine hK.out _ _ ⟨k1740.out, k1741.out⟩ (fun _ => ?_); clear hK K
    try simp only [Act.put, qsA, qsZ, qsS]
    refine wpAnyH_done (by kernel_rfl) ?_ _
    go_wp2
    go_meet
    exact ⟨_, Ai, ci, rfl, k1745.out, k1739.out, HGE.out, k1740.out, k1741.out, k1742.out, k1743.out, k1744.out⟩
   refine rdH rfl (fun K hK => ?_) ?_
   · -- 12: alloc
    go_simp
    have hbz_ := Lib.hid (Nat.lt_of_lt_of_le (Blk.lt (bz_5.out)) (Nat.le_refl _))
    have lb1752 := Lib.hid (bel_1.out.size)
    have ne1753 := Lib.hid (Nat.ne_of_lt (Blk.lt ba_2.out))
    have ne1754 := Lib.hid (Nat.ne_of_lt (Blk.lt bb_3.out))
    have ne1755 := Lib.hid (Nat.ne_of_lt (Blk.lt bp_4.out))
    have ne1756 := Lib.hid (Nat.ne_of_lt (Blk.lt bz_5.out))
    obtain ⟨o_, ho_⟩ : ∃ o, o = (.cells #[.int .i64 0, .slice none 0 0] 46 : Obj) := ⟨_, rfl⟩
    replace bel_1 := bA bel_1 o_
    replace ba_2 := kA ba_2 o_
    replace bb_3 := kA bb_3 o_
    replace bp_4 := kA bp_4 o_
    replace bz_5 := kA bz_5 o_
    replace OWL := Lib.hid (World.ownsRow.alloc (OWL.out) (o_))
    subst ho_
    have bs_1757 := Lib.hid (Blk.new (w1709) 46 #[.int .i64 0, .slice none 0 0])
    obtain ⟨g1748, hg1749⟩ : ∃ g, g = (w1709).heap.size := ⟨_, rfl⟩
    obtain ⟨w1750, hw1751⟩ : ∃ w', w' = (w1709).alloc (.cells #[.int .i64 0, .slice none 0 0] 46) := ⟨_, rfl⟩
    rw [← hw1751] at bel_1 ba_2 bb_3 bp_4 bz_5 OWL bs_1757
    rw [← hg1749] at lb1752 ne1753 ne1754 ne1755 ne1756 bs_1757 hbz_
    rw [← hg1749, ← hw1751]
    clear hg1749 hw1751
    have lt1758 := hbz_; clear hbz_
    refine hK.out _ _ ⟨ba_2.out, bb_3.out⟩ (fun _ => ?_); clear hK K
    try simp only [Act.put, qsA, qsZ, qsS]
    refine oneH 10 rfl fun K hK => ?_
    refine wp_append_lit (.tmp 31) (.tmp 33) rfl (w.heap.size + 1 + 1 + 1 + 1) _ (OWL.out) rfl B m j ts (RdB.below RA0.out (bel_1.out)) hl1 rfl (Nat.succ_le_of_lt (Blk.lt (bz_5.out))) ?_
    intro Ai ci w1759 hown5_ hg5_
    have k1760 := Lib.hid (blk_grown (ba_2.out) hg5_ (fun e => by have h_ := (World.ownsRow.lt (OWL.out) _ e).1; omega))
    have k1761 := Lib.hid (blk_grown (bb_3.out) hg5_ (fun e => by have h_ := (World.ownsRow.lt (OWL.out) _ e).1; omega))
    have k1762 := Lib.hid (blk_grown (bp_4.out) hg5_ (fun e => by have h_ := (World.ownsRow.lt (OWL.out) _ e).1; omega))
    have k1763 := Lib.hid (blk_grown (bz_5.out) hg5_ (fun e => by have h_ := (World.ownsRow.lt (OWL.out) _ e).1; omega))
    have k1764 := Lib.hid (blk_grown (bs_1757.out) hg5_ (own_ne (OWL.out) (bs_1757.out) (by decide)))
    have k1765 := Lib.hid (Below.grown (bel_1.out) hg5_ (Below.size (bel_1.out)) (fun q e => by have h_ := (World.ownsRow.lt (OWL.out) q e).1; omega))
    have OWA := Lib.hid hown5_
    clear hown5_ hg5_
    refine hK.out _ _ ⟨k1760.out, k1761.out⟩ (fun _ => ?_); clear hK K
    try simp only [Act.put, qsA, qsZ, qsS]
    refine' twH 11 ⟨k1760.out, k1761.out⟩ ?_
    try simp only [Act.put, qsA, qsZ, qsS]
    refine oneH 13 rfl fun K hK => ?_
    have HGE := Lib.hid (show (w.heap.size + 1 + 1 + 1 + 1) ≤ g1748 from by have h1_ := lt1758.out; omega)
    have hge_ := HGE.out
    obtain ⟨hw1, hw2, hw3, hw4⟩ := HWS.out
    have v1767 : (w1759).cell? ⟨g1748, 0, none⟩ = some (.int .i64 0) := Blk.cell (k1764.out) 0
    have f1768 : (w1759).frozen? ⟨g1748, 0, none⟩ = false := Blk.frozen (k1764.out) 0
    have v1769 : (w1759).cell? ⟨g1748, 1, none⟩ = some (.slice none 0 0) := Blk.cell (k1764.out) 1
    have f1770 : (w1759).frozen? ⟨g1748, 1, none⟩ = false := Blk.frozen (k1764.out) 1
    have hlt_ := Blk.lt (k1764.out)
    go_simp
    try simp only [hw1, hw2, hw3, hw4]
    clear hw1 hw2 hw3 hw4
    have k1771 := Lib.hid (Blk.set_ (Blk.set_ (k1764.out) 0 (.int .i64 (c + d - (p2 - p1)))) 1 (.slice Ai m ci))
    have k1772 := Lib.hid (Blk.far (Blk.far (k1760.out) (p := ⟨g1748, 0, none⟩) (by dsimp only; omega) (.int .i64 (c + d - (p2 - p1)))) (p := ⟨g1748, 1, none⟩) (by dsimp only; omega) (.slice Ai m ci))
    have k1773 := Lib.hid (Blk.far (Blk.far (k1761.out) (p := ⟨g1748, 0, none⟩) (by dsimp only; omega) (.int .i64 (c + d - (p2 - p1)))) (p := ⟨g1748, 1, none⟩) (by dsimp only; omega) (.slice Ai m ci))
    have k1774 := Lib.hid (Blk.far (Blk.far (k1762.out) (p := ⟨g1748, 0, none⟩) (by dsimp only; omega) (.int .i64 (c + d - (p2 - p1)))) (p := ⟨g1748, 1, none⟩) (by dsimp only; omega) (.slice Ai m ci))
    have k1775 := Lib.hid (Blk.far (Blk.far (k1763.out) (p := ⟨g1748, 0, none⟩) (by dsimp only; omega) (.int .i64 (c + d - (p2 - p1)))) (p := ⟨g1748, 1, none⟩) (by dsimp only; omega) (.slice Ai m ci))
    have k1776 := Lib.hid (Below.setCell (Below.setCell (k1765.out) (p := ⟨g1748, 0, none⟩) (by dsimp only; omega) (.int .i64 (c + d - (p2 - p1)))) (p := ⟨g1748, 1, none⟩) (by dsimp only; omega) (.slice Ai m ci))
    have k1777 := Lib.hid (own_far (own_far (OWA.out) (a := ⟨g1748, 0, none⟩) (own_ne (OWA.out) (k1764.out) (by decide)) (.int .i64 (c + d - (p2 - p1)))) (a := ⟨g1748, 1, none⟩) (own_ne (own_far (OWA.out) (a := ⟨g1748, 0, none⟩) (own_ne (OWA.out) (k1764.out) (by decide)) (.int .i64 (c + d - (p2 - p1)))) (Blk.set_ (k1764.out) 0 (.int .i64 (c + d - (p2 - p1)))) (by decide)) (.slice Ai m ci))
    obtain ⟨w1778, hw1779⟩ : ∃ w', w' = (((w1759).setCell ⟨g1748, 0, none⟩ (.int .i64 (c + d - (p2 - p1)))).setCell ⟨g1748, 1, none⟩ (.slice Ai m ci)) := ⟨_, rfl⟩
    rw [← hw1779] at k1771 k1772 k1773 k1774 k1775 k1776 k1777
    rw [← hw1779]
    clear hw1779 v1767 f1768 v1769 f1770 hlt_
    clear hge_
    refine hK.out _ _ ⟨k1772.out, k1773.out⟩ (fun _ => ?_); clear hK K
    try simp only [Act.put, qsA, qsZ, qsS]
    refine wpAnyH_done (by kernel_rfl) ?_ _
    go_wp2
    go_meet
    exact ⟨_, Ai, ci, rfl, k1777.out, k1771.out, HGE.out, k1772.out, k1773.out, k1774.out, k1775.out, k1776.out⟩
   exact AllReadyH.nil
  refine rdH rfl (fun K hK => ?_) ?_
  · -- 12: alloc
   go_simp
   have hbz_ := Lib.hid (Nat.lt_of_lt_of_le (Blk.lt (bz_5.out)) (Nat.le_refl _))
   have lb1784 := Lib.hid (bel_1.out.size)
   have ne1785 := Lib.hid (Nat.ne_of_lt (Blk.lt ba_2.out))
   have ne1786 := Lib.hid (Nat.ne_of_lt (Blk.lt bb_3.out))
   have ne1787 := Lib.hid (Nat.ne_of_lt (Blk.lt bp_4.out))
   have ne1788 := Lib.hid (Nat.ne_of_lt (Blk.lt bz_5.out))
   obtain ⟨o_, ho_⟩ : ∃ o, o = (.cells #[.int .i64 0, .slice none 0 0] 46 : Obj) := ⟨_, rfl⟩
   replace bel_1 := bA bel_1 o_
   replace ba_2 := kA ba_2 o_
   replace bb_3 := kA bb_3 o_
   replace bp_4 := kA bp_4 o_
   replace bz_5 := kA bz_5 o_
   subst ho_
   have bs_1789 := Lib.hid (Blk.new (w1696) 46 #[.int .i64 0, .slice none 0 0])
   obtain ⟨g1780, hg1781⟩ : ∃ g, g = (w1696).heap.size := ⟨_, rfl⟩
   obtain ⟨w1782, hw1783⟩ : ∃ w', w' = (w1696).alloc (.cells #[.int .i64 0, .slice none 0 0] 46) := ⟨_, rfl⟩
   rw [← hw1783] at bel_1 ba_2 bb_3 bp_4 bz_5 bs_1789
   rw [← hg1781] at lb1784 ne1785 ne1786 ne1787 ne1788 bs_1789 hbz_
   rw [← hg1781, ← hw1783]
   clear hg1781 hw1783
   have lt1790 := hbz_; clear hbz_
   refine hK.out _ _ ⟨ba_2.out, bb_3.out⟩ (fun _ => ?_); clear hK K
   try simp only [Act.put, qsA, qsZ, qsS]
   refine oneH 7 rfl fun K hK => ?_
   go_simp
   have how_ := World.ownsRow_lit (w1782) (e := 30) (size := 4) #[] 0 (Nat.le_refl _) (by unfold maxLen; omega) rfl
   have how_ := owns_base how_ (show (w.heap.size + 1 + 1 + 1 + 1) ≤ _ from Nat.succ_le_of_lt (Blk.lt (bz_5.out)))
   have lb1795 := Lib.hid (bel_1.out.size)
   have ne1796 := Lib.hid (Nat.ne_of_lt (Blk.lt ba_2.out))
   have ne1797 := Lib.hid (Nat.ne_of_lt (Blk.lt bb_3.out))
   have ne1798 := Lib.hid (Nat.ne_of_lt (Blk.lt bp_4.out))
   have ne1799 := Lib.hid (Nat.ne_of_lt (Blk.lt bz_5.out))
   have ne1800 := Lib.hid (Nat.ne_of_lt (Blk.lt bs_1789.out))
   obtain ⟨o_, ho_⟩ : ∃ o, o = (.cells #[] 30 : Obj) := ⟨_, rfl⟩
   replace bel_1 := bA bel_1 o_
   replace ba_2 := kA ba_2 o_
   replace bb_3 := kA bb_3 o_
   replace bp_4 := kA bp_4 o_
   replace bz_5 := kA bz_5 o_
   replace bs_1789 := kA bs_1789 o_
   subst ho_
   have gl_1801 := Lib.hid (Blk.new (w1782) 30 #[])
   obtain ⟨g1791, hg1792⟩ : ∃ g, g = (w1782).heap.size := ⟨_, rfl⟩
   obtain ⟨w1793, hw1794⟩ : ∃ w', w' = (w1782).alloc (.cells #[] 30) := ⟨_, rfl⟩
   rw [← hw1794] at bel_1 ba_2 bb_3 bp_4 bz_5 bs_1789 gl_1801 how_
   rw [← hg1792] at lb1795 ne1796 ne1797 ne1798 ne1799 ne1800 gl_1801 how_
   rw [← hg1792, ← hw1794]
   clear hg1792 hw1794
   have OWL := Lib.hid how_; clear how_
   refine hK.out _ _ ⟨ba_2.out, bb_3.out⟩ (fun _ => ?_); clear hK K
   try simp only [Act.put, qsA, qsZ, qsS]
   refine oneH 10 rfl fun K hK => ?_
   refine wp_append_lit (.tmp 31) (.tmp 33) rfl (w.heap.size + 1 + 1 + 1 + 1) _ (OWL.out) rfl B m j ts (RdB.below RA0.out (bel_1.out)) hl1 rfl (Nat.succ_le_of_lt (Blk.lt (bz_5.out))) ?_
   intro Ai ci w1802 hown5_ hg5_
   have k1803 := Lib.hid (blk_grown (ba_2.out) hg5_ (fun e => by have h_ := (World.ownsRow.lt (OWL.out) _ e).1; omega))
   have k1804 := Lib.hid (blk_grown (bb_3.out) hg5_ (fun e => by have h_ := (World.ownsRow.lt (OWL.out) _ e).1; omega))
   have k1805 := Lib.hid (blk_grown (bp_4.out) hg5_ (fun e => by have h_ := (World.ownsRow.lt (OWL.out) _ e).1; omega))
   have k1806 := Lib.hid (blk_grown (bz_5.out) hg5_ (fun e => by have h_ := (World.ownsRow.lt (OWL.out) _ e).1; omega))
   have k1807 := Lib.hid (blk_grown (bs_1789.out) hg5_ (own_ne (OWL.out) (bs_1789.out) (by decide)))
   have k1808 := Lib.hid (Below.grown (bel_1.out) hg5_ (Below.size (bel_1.out)) (fun q e => by have h_ := (World.ownsRow.lt (OWL.out) q e).1; omega))
   have OWA := Lib.hid hown5_
   clear hown5_ hg5_
   refine hK.out _ _ ⟨k1803.out, k1804.out⟩ (fun _ => ?_); clear hK K
   try simp only [Act.put, qsA, qsZ, qsS]
   refine' twH 11 ⟨k1803.out, k1804.out⟩ ?_
   try simp only [Act.put, qsA, qsZ, qsS]
   refine oneH 13 rfl fun K hK => ?_
   have HGE := Lib.hid (show (w.heap.size + 1 + 1 + 1 + 1) ≤ g1780 from by have h1_ := lt1790.out; omega)
   have hge_ := HGE.out
   obtain ⟨hw1, hw2, hw3, hw4⟩ := HWS.out
   have v1810 : (w1802).cell? ⟨g1780, 0, none⟩ = some (.int .i64 0) := Blk.cell (k1807.out) 0
   have f1811 : (w1802).frozen? ⟨g1780, 0, none⟩ = false := Blk.frozen (k1807.out) 0
   have v1812 : (w1802).cell? ⟨g1780, 1, none⟩ = some (.slice none 0 0) := Blk.cell (k1807.out) 1
   have f1813 : (w1802).frozen? ⟨g1780, 1, none⟩ = false := Blk.frozen (k1807.out) 1
   have hlt_ := Blk.lt (k1807.out)
   go_simp
   try simp only [hw1, hw2, hw3, hw4]
   clear hw1 hw2 hw3 hw4
   have k1814 := Lib.hid (Blk.set_ (Blk.set_ (k1807.out) 0 (.int .i64 (c + d - (p2 - p1)))) 1 (.slice Ai m ci))
   have k1815 := Lib.hid (Blk.far (Blk.far (k1803.out) (p := ⟨g1780, 0, none⟩) (by dsimp only; omega) (.int .i64 (c + d - (p2 - p1)))) (p := ⟨g1780, 1, none⟩) (by dsimp only; omega) (.slice Ai m ci))
   have k1816 := Lib.hid (Blk.far (Blk.far (k1804.out) (p := ⟨g1780, 0, none⟩) (by dsimp only; omega) (.int .i64 (c + d - (p2 - p1)))) (p := ⟨g1780, 1, none⟩) (by dsimp only; omega) (.slice Ai m ci))
   have k1817 := Lib.hid (Blk.far (Blk.far (k1805.out) (p := ⟨g1780, 0, none⟩) (by dsimp only; omega) (.int .i64 (c + d - (p2 - p1)))) (p := ⟨g1780, 1, none⟩) (by dsimp only; omega) (.slice Ai m ci))
   have k1818 := Lib.hid (Blk.far (Blk.far (k1806.out) (p := ⟨g1780, 0, none⟩) (by dsimp only; omega) (.int .i64 (c + d - (p2 - p1)))) (p := ⟨g1780, 1, none⟩) (by dsimp only; omega) (.slice Ai m ci))
   have k1819 := Lib.hid (Below.setCell (Below.setCell (k1808.out) (p := ⟨g1780, 0, none⟩) (by dsimp only; omega) (.int .i64 (c + d - (p2 - p1)))) (p := ⟨g1780, 1, none⟩) (by dsimp only; omega) (.slice Ai m ci))
   have k1820 := Lib.hid (own_far (own_far (OWA.out) (a := ⟨g1780, 0, none⟩) (own_ne (OWA.out) (k1807.out) (by decide)) (.int .i64 (c + d - (p2 - p1)))) (a := ⟨g1780, 1, none⟩) (own_ne (own_far (OWA.out) (a := ⟨g1780, 0, none⟩) (own_ne (OWA.out) (k1807.out) (by decide)) (.int .i64 (c + d - (p2 - p1)))) (Blk.set_ (k1807.out) 0 (.int .i64 (c + d - (p2 - p1)))) (by decide)) (.slice Ai m ci))
   obtain ⟨w1821, hw1822⟩ : ∃ w', w' = (((w1802).setCell ⟨g1780, 0, none⟩ (.int .i64 (c + d - (p2 - p1)))).setCell ⟨g1780, 1, none⟩ (.slice Ai m ci)) := ⟨_, rfl⟩
   rw [← hw1822] at k1814 k1815 k1816 k1817 k1818 k1819 k1820
   rw [← hw1822]
   clear hw1822 v1810 f1811 v1812 f1813 hlt_
   clear hge_
   refine hK.out _ _ ⟨k1815.out, k1816.out⟩ (fun _ => ?_); clear hK K
   try simp only [Act.put, qsA, qsZ, qsS]
   refine wpAnyH_done (by kernel_rfl) ?_ _
   go_wp2
   go_meet
   exact ⟨_, Ai, ci, rfl, k1820.out, k1814.out, HGE.out, k1815.out, k1816.out, k1817.out, k1818.out, k1819.out⟩
  exact AllReadyH.nil
 case rest =>
  obtain ⟨gs, Ai, ci, rfl, kow, kbs, hgs, kba, kbb, kbp, kbz, kbel⟩ := hcut
  clear bel_1 ba_2 bb_3 bp_4 bz_5
  have ow_5001 := Lib.hid (kow)
  have bs_5002 := Lib.hid (kbs)
  have ba_5003 := Lib.hid (kba)
  have bb_5004 := Lib.hid (kbb)
  have bp_5005 := Lib.hid (kbp)
  have bz_5006 := Lib.hid (kbz)
  have bel_5007 := Lib.hid (kbel)
  clear kow kbs kba kbb kbp kbz kbel
  obtain ⟨z_5008, z_5009, z_5010⟩ := at3 ba_5003
  obtain ⟨z_5011, z_5012, z_5013⟩ := at3 bb_5004
  obtain ⟨z_5014, z_5015, z_5016, z_5017⟩ := at4 bp_5005
  obtain ⟨z_5018, z_5019⟩ := at2 bz_5006
  obtain ⟨z_5020, z_5021⟩ := at2 bs_5002
  go_wp2
  clear z_5008 z_5009 z_5010 z_5011 z_5012 z_5013 z_5014 z_5015 z_5016 z_5017 z_5018 z_5019 z_5020 z_5021
  go_loopw [11] (fun i wr => ∃ (q : Nat) (Ax : Option Addr) (cx : Nat), q ≤ m2 ∧ i = .int .i64 q ∧ wr.ownsRow (w.heap.size + 1 + 1 + 1 + 1) 30 4 (.slice Ax (m + q) cx) (m + q) (bcells (ts ++ (ts2.take q).map (turnB ⟨c, ws, ts⟩ ⟨p1, p2, p3, p4⟩))) ∧ Blk wr gs 46 #[.int .i64 (c + d - (p2 - p1)), .slice Ax (m + q) cx] ∧ (w.heap.size + 1 + 1 + 1 + 1) ≤ gs ∧ Blk wr (w.heap.size) 24 #[.int .i64 c, .slice A n k, .slice B m j] ∧ Blk wr (w.heap.size + 1) 24 #[.int .i64 d, .slice C n2 k2, .slice D m2 j2] ∧ Blk wr (w.heap.size + 1 + 1) 28 #[.int .i64 p1, .int .i64 p2, .int .i64 p3, .int .i64 p4] ∧ Blk wr (w.heap.size + 1 + 1 + 1) 46 #[.int .i64 0, .slice none 0 0] ∧ Below w.heap.size w wr) (fun i _ => m2 - (intOf i).toNat)
  case atStart => exact ⟨0, Ai, ci, Nat.zero_le _, rfl, by simpa using ow_5001.out, bs_5002.out, hgs, ba_5003.out, bb_5004.out, bp_5005.out, bz_5006.out, bel_5007.out⟩
  case round =>
   clear ow_5001 bs_5002 ba_5003 bb_5004 bp_5005 bz_5006 bel_5007
   obtain ⟨q, Ax, cx, hq, rfl, kow, kbs, -, kba, kbb, kbp, kbz, kbel⟩ := hrel
   obtain ⟨wo, rfl⟩ : ∃ wo, wo = wr := ⟨wr, rfl⟩
   have ow_7001 := Lib.hid (kow)
   have bs_7002 := Lib.hid (kbs)
   have ba_7003 := Lib.hid (kba)
   have bb_7004 := Lib.hid (kbb)
   have bp_7005 := Lib.hid (kbp)
   have bz_7006 := Lib.hid (kbz)
   have bel_7007 := Lib.hid (kbel)
   clear kow kbs kba kbb kbp kbz kbel
   obtain ⟨z_7008, z_7009, z_7010⟩ := at3 ba_7003
   obtain ⟨z_7011, z_7012, z_7013⟩ := at3 bb_7004
   obtain ⟨z_7014, z_7015, z_7016, z_7017⟩ := at4 bp_7005
   obtain ⟨z_7018, z_7019⟩ := at2 bz_7006
   obtain ⟨z_7020, z_7021⟩ := at2 bs_7002
   by_cases hlt : q < m2
   · have hlt' : (q : Int) < m2 := by omega
     have hlen := RB0.out.len
     obtain ⟨⟨f, t, mm, ib⟩, hx⟩ : ∃ b, ts2[q]? = some b := ⟨ts2[q]'(by omega), List.getElem?_eq_getElem _⟩
     obtain ⟨o1, o2, o3, o4⟩ := hok _ (List.mem_of_getElem? hx)
     dsimp only at o1 o2 o3 o4
     obtain ⟨bb_, ob, hBB⟩ := rdB_some RB0.out hx
     subst hBB
     obtain ⟨e0, e1, e2, e3, el⟩ := rdB_at (RdB.below RB0.out bel_7007.out) hx
     obtain ⟨v1, hv1⟩ : ∃ v, ren c p1 p3 (p4 - 1) f = v := ⟨_, rfl⟩
     obtain ⟨v2, hv2⟩ : ∃ v, ren c p1 p3 (p4 - 1) t = v := ⟨_, rfl⟩
     have htk : (ts2.take (q + 1)).map (turnB ⟨c, ws, ts⟩ ⟨p1, p2, p3, p4⟩) = (ts2.take q).map (turnB ⟨c, ws, ts⟩ ⟨p1, p2, p3, p4⟩) ++ [⟨v1, v2, mm, ib⟩] := by rw [List.take_add_one, hx, List.map_append, ← hv1, ← hv2]; rfl
     have HTK := Lib.hid htk; clear htk hx hlen
     have HV1 := Lib.hid (fun w => rside_any c A B n k m j p1 p2 p3 p4 f v1 w g0 (by omega) (by omega) (by omega) (by omega) (by omega) hv1)
     have HV2 := Lib.hid (fun w => rside_any c A B n k m j p1 p2 p3 p4 t v2 w g0 (by omega) (by omega) (by omega) (by omega) (by omega) hv2)
     clear hv1 hv2 o1 o2 o3 o4
     have hnx_ := fun y h => (World.ownsRow.lt ow_7001.out y h).2
     have HNX := Lib.hid hnx_; clear hnx_
     have hgo_ := Blk.lt bs_7002.out
     go_upto_region 8 with fail
     clear e0 e1 e2 e3 el
     clear z_7008 z_7009 z_7010 z_7011 z_7012 z_7013 z_7014 z_7015 z_7016 z_7017 z_7018 z_7019 z_7020 z_7021
     obtain ⟨o_, ho_⟩ : ∃ o, o = ((.cells #[.int .i64 f, .int .i64 t, .int .i64 mm, .int .i64 ib] 30) : Obj) := ⟨_, rfl⟩
     replace ow_7001 := Lib.hid (World.ownsRow.alloc (ow_7001.out) (o_))
     replace bs_7002 := kA bs_7002 o_
     replace ba_7003 := kA ba_7003 o_
     replace bb_7004 := kA bb_7004 o_
     replace bp_7005 := kA bp_7005 o_
     replace bz_7006 := kA bz_7006 o_
     replace bel_7007 := bA bel_7007 o_
     subst ho_
     have xb_8022 := Lib.hid (Blk.new wo 30 #[.int .i64 f, .int .i64 t, .int .i64 mm, .int .i64 ib])
     obtain ⟨xg, hxg⟩ : ∃ xg, wo.heap.size = xg := ⟨_, rfl⟩
     obtain ⟨w2, hW2⟩ : ∃ w', w' = (wo.alloc (.cells #[.int .i64 f, .int .i64 t, .int .i64 mm, .int .i64 ib] 30)) := ⟨_, rfl⟩
     rw [← hW2] at ow_7001 bs_7002 ba_7003 bb_7004 bp_7005 bz_7006 bel_7007 xb_8022
     rw [← hW2]
     rw [hxg] at xb_8022 HNX hgo_ ⊢
     clear hW2 hxg
     have HGO := Lib.hid hgo_; clear hgo_
     replace ow_7001 := Lib.hid (World.ownsRow.drew (ow_7001.out))
     replace bs_7002 := kD bs_7002
     replace ba_7003 := kD ba_7003
     replace bb_7004 := kD bb_7004
     replace bp_7005 := kD bp_7005
     replace bz_7006 := kD bz_7006
     replace bel_7007 := bD bel_7007
     replace xb_8022 := kD xb_8022
     refine wp_region_held_drew (S := (fun W' => Blk W' (w.heap.size) 24 #[.int .i64 c, .slice A n k, .slice B m j] ∧ Blk W' (w.heap.size + 1 + 1) 28 #[.int .i64 p1, .int .i64 p2, .int .i64 p3, .int .i64 p4] ∧ Blk W' (xg) 30 #[.int .i64 f, .int .i64 t, .int .i64 mm, .int .i64 ib])) (by kernel_rfl) ⟨ba_7003.out, bp_7005.out, xb_8022.out⟩ (fun _ => ?_)
     obtain ⟨w1823, hw1824⟩ : ∃ w', w' = (w2.drew) := ⟨_, rfl⟩
     rw [← hw1824] at ow_7001 bs_7002 ba_7003 bb_7004 bp_7005 bz_7006 bel_7007 xb_8022
     rw [← hw1824]
     clear hw1824
     refine' twH 0 ⟨ba_7003.out, bp_7005.out, xb_8022.out⟩ ?_
     refine' tkH 2 ⟨ba_7003.out, bp_7005.out, xb_8022.out⟩ ?hyR1826 ?_
     case hyR1826 => (rintro W' ⟨hS0, hS1, hS2⟩; have hc0 := Blk.nth hS0 0; have hc1 := Blk.nth hS0 1; have hc2 := Blk.nth hS0 2; clear hS0 hS1 hS2; go_simp; try with_reducible rfl)
     refine' tkH 3 ⟨ba_7003.out, bp_7005.out, xb_8022.out⟩ ?hyR1827 ?_
     case hyR1827 => (rintro W' ⟨hS0, hS1, hS2⟩; have hc0 := Blk.nth hS1 0; have hc1 := Blk.nth hS1 1; have hc2 := Blk.nth hS1 2; have hc3 := Blk.nth hS1 3; clear hS0 hS1 hS2; go_simp; try with_reducible rfl)
     refine' twH 4 ⟨ba_7003.out, bp_7005.out, xb_8022.out⟩ ?_
     try simp only [Act.put, qsA, qsZ, qsS]
     refine' tkH 5 ⟨ba_7003.out, bp_7005.out, xb_8022.out⟩ ?hyR1829 ?_
     case hyR1829 => (rintro W' ⟨hS0, hS1, hS2⟩; have hc0 := Blk.nth hS2 0; clear hS0 hS1 hS2; go_simp; try with_reducible rfl)
     refine' tkH 7 ⟨ba_7003.out, bp_7005.out, xb_8022.out⟩ ?hyR1830 ?_
     case hyR1830 => (rintro W' ⟨hS0, hS1, hS2⟩; have hc0 := Blk.nth hS0 0; have hc1 := Blk.nth hS0 1; have hc2 := Blk.nth hS0 2; clear hS0 hS1 hS2; go_simp; try with_reducible rfl)
     refine' tkH 8 ⟨ba_7003.out, bp_7005.out, xb_8022.out⟩ ?hyR1831 ?_
     case hyR1831 => (rintro W' ⟨hS0, hS1, hS2⟩; have hc0 := Blk.nth hS1 0; have hc1 := Blk.nth hS1 1; have hc2 := Blk.nth hS1 2; have hc3 := Blk.nth hS1 3; clear hS0 hS1 hS2; go_simp; try with_reducible rfl)
     refine' twH 9 ⟨ba_7003.out, bp_7005.out, xb_8022.out⟩ ?_
     try simp only [Act.put, qsA, qsZ, qsS]
     refine' tkH 10 ⟨ba_7003.out, bp_7005.out, xb_8022.out⟩ ?hyR1833 ?_
     case hyR1833 => (rintro W' ⟨hS0, hS1, hS2⟩; have hc0 := Blk.nth hS2 1; clear hS0 hS1 hS2; go_simp; try with_reducible rfl)
     refine' twH 12 ⟨ba_7003.out, bp_7005.out, xb_8022.out⟩ ?_
     refine' tkH 13 ⟨ba_7003.out, bp_7005.out, xb_8022.out⟩ ?hyR1835 ?_
     case hyR1835 => (rintro W' ⟨hS0, hS1, hS2⟩; have hc0 := Blk.nth hS2 2; clear hS0 hS1 hS2; go_simp; try with_reducible rfl)
     refine' twH 14 ⟨ba_7003.out, bp_7005.out, xb_8022.out⟩ ?_
     try simp only [Act.put, qsA, qsZ, qsS]
     refine' tkH 15 ⟨ba_7003.out, bp_7005.out, xb_8022.out⟩ ?hyR1837 ?_
     case hyR1837 => (rintro W' ⟨hS0, hS1, hS2⟩; have hc0 := Blk.nth hS2 3; clear hS0 hS1 hS2; go_simp; try with_reducible rfl)
     try simp only [Act.put, qsA, qsZ, qsS]
     refine wpAnyH_ready (rs := [1, 6]) (by kernel_rfl) (by simp) ?_
     refine rdH rfl (fun K hK => ?_) ?_
     · -- 1: load
      have cs_ : (w1823).cell? ⟨gs, 1, none⟩ = some (.slice Ax (m + q) cx) := Blk.cell (bs_7002.out) 1
      go_simp
      clear cs_
      refine hK.out _ _ ⟨ba_7003.out, bp_7005.out, xb_8022.out⟩ (fun _ => ?_); clear hK K
      try simp only [Act.put, qsA, qsZ, qsS]
      refine oneH 6 rfl fun K hK => ?_
      go_simp
      go_at_call 112
      refine (HV1.out _).mono ?_
      rintro e w1838 ⟨rfl, hb1839⟩
      dsimp only
      replace hb1839 := Lib.hid hb1839
      replace ba_7003 := kH ba_7003 hb1839
      replace bp_7005 := kH bp_7005 hb1839
      replace xb_8022 := kH xb_8022 hb1839
      refine hK.out _ _ ⟨ba_7003.out, bp_7005.out, xb_8022.out⟩ (fun _ => ?_); clear hK K
      try simp only [Act.put, qsA, qsZ, qsS]
      refine oneH 11 rfl fun K hK => ?_
      go_simp
      go_at_call 112
      refine (HV2.out _).mono ?_
      rintro e w1840 ⟨rfl, hb1841⟩
      dsimp only
      replace hb1841 := Lib.hid hb1841
      replace ba_7003 := kH ba_7003 hb1841
      replace bp_7005 := kH bp_7005 hb1841
      replace xb_8022 := kH xb_8022 hb1841
      refine hK.out _ _ ⟨ba_7003.out, bp_7005.out, xb_8022.out⟩ (fun _ => ?_); clear hK K
      try simp only [Act.put, qsA, qsZ, qsS]
      refine' twH 16 ⟨ba_7003.out, bp_7005.out, xb_8022.out⟩ ?_
      try simp only [Act.put, qsA, qsZ, qsS]
      refine oneH 17 rfl fun K hK => ?_
      replace ow_7001 := Lib.hid (owns_below (owns_below (ow_7001.out) hb1839.out) hb1841.out)
      replace bs_7002 := kH (kH bs_7002 hb1839) hb1841
      replace bb_7004 := kH (kH bb_7004 hb1839) hb1841
      replace bz_7006 := kH (kH bz_7006 hb1839) hb1841
      replace bel_7007 := bH (bH bel_7007 hb1839) hb1841
      go_simp
      have ne1847 := Lib.hid (Nat.ne_of_lt (Blk.lt bs_7002.out))
      have ne1848 := Lib.hid (Nat.ne_of_lt (Blk.lt ba_7003.out))
      have ne1849 := Lib.hid (Nat.ne_of_lt (Blk.lt bb_7004.out))
      have ne1850 := Lib.hid (Nat.ne_of_lt (Blk.lt bp_7005.out))
      have ne1851 := Lib.hid (Nat.ne_of_lt (Blk.lt bz_7006.out))
      have lb1852 := Lib.hid (bel_7007.out.size)
      have ne1853 := Lib.hid (Nat.ne_of_lt (Blk.lt xb_8022.out))
      obtain ⟨o_, ho_⟩ : ∃ o, o = (.cells #[.int .i64 v1, .int .i64 v2, .int .i64 mm, .int .i64 ib] 30 : Obj) := ⟨_, rfl⟩
      replace ow_7001 := Lib.hid (World.ownsRow.alloc (ow_7001.out) (o_))
      replace bs_7002 := kA bs_7002 o_
      replace ba_7003 := kA ba_7003 o_
      replace bb_7004 := kA bb_7004 o_
      replace bp_7005 := kA bp_7005 o_
      replace bz_7006 := kA bz_7006 o_
      replace bel_7007 := bA bel_7007 o_
      replace xb_8022 := kA xb_8022 o_
      subst ho_
      have nb_1854 := Lib.hid (Blk.new (w1840) 30 #[.int .i64 v1, .int .i64 v2, .int .i64 mm, .int .i64 ib])
      obtain ⟨g1843, hg1844⟩ : ∃ g, g = (w1840).heap.size := ⟨_, rfl⟩
      obtain ⟨w1845, hw1846⟩ : ∃ w', w' = (w1840).alloc (.cells #[.int .i64 v1, .int .i64 v2, .int .i64 mm, .int .i64 ib] 30) := ⟨_, rfl⟩
      rw [← hw1846] at ow_7001 bs_7002 ba_7003 bb_7004 bp_7005 bz_7006 bel_7007 xb_8022 nb_1854
      rw [← hg1844] at ne1847 ne1848 ne1849 ne1850 ne1851 lb1852 ne1853 nb_1854
      rw [← hg1844, ← hw1846]
      clear hg1844 hw1846
      refine hK.out _ _ ⟨ba_7003.out, bp_7005.out, xb_8022.out⟩ (fun _ => ?_); clear hK K
      try simp only [Act.put, qsA, qsZ, qsS]
      refine oneH 18 rfl fun K hK => ?_
      have hcell_ := cells_add (cs := bcells [⟨v1, v2, mm, ib⟩]) (show Blk _ _ _ (bcells [⟨v1, v2, mm, ib⟩]).toArray from nb_1854.out)
      have hbz_ := Nat.succ_le_of_lt (Blk.lt (bz_7006.out))
      refine wp_append_own _ (.tmp 49) (.tmp 65) 22 rfl (w.heap.size + 1 + 1 + 1 + 1) 30 i0 _ 4 32 Tryz.underlying22 HI.out HZ0.out HZ1.out HZ2.out rfl (by omega) _ _ _ rfl (ow_7001.out) ⟨g1843, 0, none⟩ 1 1 (bcells [⟨v1, v2, mm, ib⟩]) rfl rfl hcell_ (bcells_one _) (by unfold maxLen; omega) (by omega) hbz_ ?_
      intro v5 w1855 hown5_ hg5_ _
      obtain ⟨A5, c5, rfl, -⟩ := own_form hown5_
      have k1856 := Lib.hid (blk_grown (ba_7003.out) hg5_ (fun e => by have h_ := (World.ownsRow.lt (ow_7001.out) _ e).1; omega))
      have k1857 := Lib.hid (blk_grown (bb_7004.out) hg5_ (fun e => by have h_ := (World.ownsRow.lt (ow_7001.out) _ e).1; omega))
      have k1858 := Lib.hid (blk_grown (bp_7005.out) hg5_ (fun e => by have h_ := (World.ownsRow.lt (ow_7001.out) _ e).1; omega))
      have k1859 := Lib.hid (blk_grown (bz_7006.out) hg5_ (fun e => by have h_ := (World.ownsRow.lt (ow_7001.out) _ e).1; omega))
      have k1860 := Lib.hid (blk_grown (bs_7002.out) hg5_ (own_ne (ow_7001.out) (bs_7002.out) (by decide)))
      have k1861 := Lib.hid (Below.grown (bel_7007.out) hg5_ (Below.size (bel_7007.out)) (fun q e => by have h_ := (World.ownsRow.lt (ow_7001.out) q e).1; omega))
      have k1862 := Lib.hid (blk_grown (xb_8022.out) hg5_ (fun e => absurd (HNX.out _ e) (Nat.lt_irrefl _)))
      have OW5 := Lib.hid (show World.ownsRow w1855 (w.heap.size + 1 + 1 + 1 + 1) 30 4 (.slice A5 (m + q + 1) c5) (m + q + 1) (bcells (ts ++ (ts2.take (q + 1)).map (turnB ⟨c, ws, ts⟩ ⟨p1, p2, p3, p4⟩))) from by rw [HTK.out, ← List.append_assoc, bcells_append]; exact hown5_)
      clear hown5_ hg5_ hcell_ hbz_
      refine hK.out _ _ ⟨k1856.out, k1858.out, k1862.out⟩ (fun _ => ?_); clear hK K
      try simp only [Act.put, qsA, qsZ, qsS]
      refine' twH 19 ⟨k1856.out, k1858.out, k1862.out⟩ ?_
      try simp only [Act.put, qsA, qsZ, qsS]
      refine oneH 20 rfl fun K hK => ?_
      have hgo_ := HGO.out
      have v1864 : (w1855).cell? ⟨gs, 1, none⟩ = some (.slice Ax (m + q) cx) := Blk.cell (k1860.out) 1
      have f1865 : (w1855).frozen? ⟨gs, 1, none⟩ = false := Blk.frozen (k1860.out) 1
      have hlt_ := Blk.lt (k1860.out)
      go_simp
      have k1866 := Lib.hid (Blk.set_ (k1860.out) 1 (.slice A5 (m + q + 1) c5))
      have k1867 := Lib.hid (Blk.far (k1856.out) (p := ⟨gs, 1, none⟩) (by dsimp only; omega) (.slice A5 (m + q + 1) c5))
      have k1868 := Lib.hid (Blk.far (k1857.out) (p := ⟨gs, 1, none⟩) (by dsimp only; omega) (.slice A5 (m + q + 1) c5))
      have k1869 := Lib.hid (Blk.far (k1858.out) (p := ⟨gs, 1, none⟩) (by dsimp only; omega) (.slice A5 (m + q + 1) c5))
      have k1870 := Lib.hid (Blk.far (k1859.out) (p := ⟨gs, 1, none⟩) (by dsimp only; omega) (.slice A5 (m + q + 1) c5))
      have k1871 := Lib.hid (Blk.far (k1862.out) (p := ⟨gs, 1, none⟩) (by dsimp only; omega) (.slice A5 (m + q + 1) c5))
      have k1872 := Lib.hid (Below.setCell (k1861.out) (p := ⟨gs, 1, none⟩) (by dsimp only; omega) (.slice A5 (m + q + 1) c5))
      have k1873 := Lib.hid (own_far (OW5.out) (a := ⟨gs, 1, none⟩) (own_ne (OW5.out) (k1860.out) (by decide)) (.slice A5 (m + q + 1) c5))
      obtain ⟨w1874, hw1875⟩ : ∃ w', w' = ((w1855).setCell ⟨gs, 1, none⟩ (.slice A5 (m + q + 1) c5)) := ⟨_, rfl⟩
      rw [← hw1875] at k1866 k1867 k1868 k1869 k1870 k1871 k1872 k1873
      rw [← hw1875]
      clear hw1875 v1864 f1865 hlt_
      clear hgo_
      refine hK.out _ _ ⟨k1867.out, k1869.out, k1871.out⟩ (fun _ => ?_); clear hK K
      try simp only [Act.put, qsA, qsZ, qsS]
      refine wpAnyH_done (by kernel_rfl) ?_ _
      go_wp2
      go_roundw
      case rel => exact ⟨q + 1, A5, c5, by omega, by go_num, k1873.out, k1866.out, hgs, k1867.out, k1868.out, k1869.out, k1870.out, k1872.out⟩
      case measure => simp [intOf]; omega
     refine rdH rfl (fun K hK => ?_) ?_
     · -- 6: call
      go_simp
      go_at_call 112
      refine (HV1.out _).mono ?_
      rintro e w1876 ⟨rfl, hb1877⟩
      dsimp only
      replace hb1877 := Lib.hid hb1877
      replace ba_7003 := kH ba_7003 hb1877
      replace bp_7005 := kH bp_7005 hb1877
      replace xb_8022 := kH xb_8022 hb1877
      refine hK.out _ _ ⟨ba_7003.out, bp_7005.out, xb_8022.out⟩ (fun _ => ?_); clear hK K
      try simp only [Act.put, qsA, qsZ, qsS]
      refine wpAnyH_ready (rs := [1, 11]) (by kernel_rfl) (by simp) ?_
      refine rdH rfl (fun K hK => ?_) ?_
      · -- 1: load
       replace bs_7002 := kH bs_7002 hb1877
       have cs_ : (w1876).cell? ⟨gs, 1, none⟩ = some (.slice Ax (m + q) cx) := Blk.cell (bs_7002.out) 1
       go_simp
       clear cs_
       refine hK.out _ _ ⟨ba_7003.out, bp_7005.out, xb_8022.out⟩ (fun _ => ?_); clear hK K
       try simp only [Act.put, qsA, qsZ, qsS]
       refine oneH 11 rfl fun K hK => ?_
       go_simp
       go_at_call 112
       refine (HV2.out _).mono ?_
       rintro e w1878 ⟨rfl, hb1879⟩
       dsimp only
       replace hb1879 := Lib.hid hb1879
       replace ba_7003 := kH ba_7003 hb1879
       replace bp_7005 := kH bp_7005 hb1879
       replace xb_8022 := kH xb_8022 hb1879
       refine hK.out _ _ ⟨ba_7003.out, bp_7005.out, xb_8022.out⟩ (fun _ => ?_); clear hK K
       try simp only [Act.put, qsA, qsZ, qsS]
       refine' twH 16 ⟨ba_7003.out, bp_7005.out, xb_8022.out⟩ ?_
       try simp only [Act.put, qsA, qsZ, qsS]
       refine oneH 17 rfl fun K hK => ?_
       replace ow_7001 := Lib.hid (owns_below (owns_below (ow_7001.out) hb1877.out) hb1879.out)
       replace bs_7002 := kH bs_7002 hb1879
       replace bb_7004 := kH (kH bb_7004 hb1877) hb1879
       replace bz_7006 := kH (kH bz_7006 hb1877) hb1879
       replace bel_7007 := bH (bH bel_7007 hb1877) hb1879
       go_simp
       have ne1885 := Lib.hid (Nat.ne_of_lt (Blk.lt bs_7002.out))
       have ne1886 := Lib.hid (Nat.ne_of_lt (Blk.lt ba_7003.out))
       have ne1887 := Lib.hid (Nat.ne_of_lt (Blk.lt bb_7004.out))
       have ne1888 := Lib.hid (Nat.ne_of_lt (Blk.lt bp_7005.out))
       have ne1889 := Lib.hid (Nat.ne_of_lt (Blk.lt bz_7006.out))
       have lb1890 := Lib.hid (bel_7007.out.size)
       have ne1891 := Lib.hid (Nat.ne_of_lt (Blk.lt xb_8022.out))
       obtain ⟨o_, ho_⟩ : ∃ o, o = (.cells #[.int .i64 v1, .int .i64 v2, .int .i64 mm, .int .i64 ib] 30 : Obj) := ⟨_, rfl⟩
       replace ow_7001 := Lib.hid (World.ownsRow.alloc (ow_7001.out) (o_))
       replace bs_7002 := kA bs_7002 o_
       replace ba_7003 := kA ba_7003 o_
       replace bb_7004 := kA bb_7004 o_
       replace bp_7005 := kA bp_7005 o_
       replace bz_7006 := kA bz_7006 o_
       replace bel_7007 := bA bel_7007 o_
       replace xb_8022 := kA xb_8022 o_
       subst ho_
       have nb_1892 := Lib.hid (Blk.new (w1878) 30 #[.int .i64 v1, .int .i64 v2, .int .i64 mm, .int .i64 ib])
       obtain ⟨g1881, hg1882⟩ : ∃ g, g = (w1878).heap.size := ⟨_, rfl⟩
       obtain ⟨w1883, hw1884⟩ : ∃ w', w' = (w1878).alloc (.cells #[.int .i64 v1, .int .i64 v2, .int .i64 mm, .int .i64 ib] 30) := ⟨_, rfl⟩
       rw [← hw1884] at ow_7001 bs_7002 ba_7003 bb_7004 bp_7005 bz_7006 bel_7007 xb_8022 nb_1892
       rw [← hg1882] at ne1885 ne1886 ne1887 ne1888 ne1889 lb1890 ne1891 nb_1892
       rw [← hg1882, ← hw1884]
       clear hg1882 hw1884
       refine hK.out _ _ ⟨ba_7003.out, bp_7005.out, xb_8022.out⟩ (fun _ => ?_); clear hK K
       try simp only [Act.put, qsA, qsZ, qsS]
       refine oneH 18 rfl fun K hK => ?_
       have hcell_ := cells_add (cs := bcells [⟨v1, v2, mm, ib⟩]) (show Blk _ _ _ (bcells [⟨v1, v2, mm, ib⟩]).toArray from nb_1892.out)
       have hbz_ := Nat.succ_le_of_lt (Blk.lt (bz_7006.out))
       refine wp_append_own _ (.tmp 49) (.tmp 65) 22 rfl (w.heap.size + 1 + 1 + 1 + 1) 30 i0 _ 4 32 Tryz.underlying22 HI.out HZ0.out HZ1.out HZ2.out rfl (by omega) _ _ _ rfl (ow_7001.out) ⟨g1881, 0, none⟩ 1 1 (bcells [⟨v1, v2, mm, ib⟩]) rfl rfl hcell_ (bcells_one _) (by unfold maxLen; omega) (by omega) hbz_ ?_
       intro v5 w1893 hown5_ hg5_ _
       obtain ⟨A5, c5, rfl, -⟩ := own_form hown5_
       have k1894 := Lib.hid (blk_grown (ba_7003.out) hg5_ (fun e => by have h_ := (World.ownsRow.lt (ow_7001.out) _ e).1; omega))
       have k1895 := Lib.hid (blk_grown (bb_7004.out) hg5_ (fun e => by have h_ := (World.ownsRow.lt (ow_7001.out) _ e).1; omega))
       have k1896 := Lib.hid (blk_grown (bp_7005.out) hg5_ (fun e => by have h_ := (World.ownsRow.lt (ow_7001.out) _ e).1; omega))
       have k1897 := Lib.hid (blk_grown (bz_7006.out) hg5_ (fun e => by have h_ := (World.ownsRow.lt (ow_7001.out) _ e).1; omega))
       have k1898 := Lib.hid (blk_grown (bs_7002.out) hg5_ (own_ne (ow_7001.out) (bs_7002.out) (by decide)))
       have k1899 := Lib.hid (Below.grown (bel_7007.out) hg5_ (Below.size (bel_7007.out)) (fun q e => by have h_ := (World.ownsRow.lt (ow_7001.out) q e).1; omega))
       have k1900 := Lib.hid (blk_grown (xb_8022.out) hg5_ (fun e => absurd (HNX.out _ e) (Nat.lt_irrefl _)))
       have OW5 := Lib.hid (show World.ownsRow w1893 (w.heap.size + 1 + 1 + 1 + 1) 30 4 (.slice A5 (m + q + 1) c5) (m + q + 1) (bcells (ts ++ (ts2.take (q + 1)).map (turnB ⟨c, ws, ts⟩ ⟨p1, p2, p3, p4⟩))) from by rw [HTK.out, ← List.append_assoc, bcells_append]; exact hown5_)
       clear hown5_ hg5_ hcell_ hbz_
       refine hK.out _ _ ⟨k1894.out, k1896.out, k1900.out⟩ (fun _ => ?_); clear hK K
       try simp only [Act.put, qsA, qsZ, qsS]
       refine' twH 19 ⟨k1894.out, k1896.out, k1900.out⟩ ?_
       try simp only [Act.put, qsA, qsZ, qsS]
       refine oneH 20 rfl fun K hK => ?_
       have hgo_ := HGO.out
       have v1902 : (w1893).cell? ⟨gs, 1, none⟩ = some (.slice Ax (m + q) cx) := Blk.cell (k1898.out) 1
       have f1903 : (w1893).frozen? ⟨gs, 1, none⟩ = false := Blk.frozen (k1898.out) 1
       have hlt_ := Blk.lt (k1898.out)
       go_simp
       have k1904 := Lib.hid (Blk.set_ (k1898.out) 1 (.slice A5 (m + q + 1) c5))
       have k1905 := Lib.hid (Blk.far (k1894.out) (p := ⟨gs, 1, none⟩) (by dsimp only; omega) (.slice A5 (m + q + 1) c5))
       have k1906 := Lib.hid (Blk.far (k1895.out) (p := ⟨gs, 1, none⟩) (by dsimp only; omega) (.slice A5 (m + q + 1) c5))
       have k1907 := Lib.hid (Blk.far (k1896.out) (p := ⟨gs, 1, none⟩) (by dsimp only; omega) (.slice A5 (m + q + 1) c5))
       have k1908 := Lib.hid (Blk.far (k1897.out) (p := ⟨gs, 1, none⟩) (by dsimp only; omega) (.slice A5 (m + q + 1) c5))
       have k1909 := Lib.hid (Blk.far (k1900.out) (p := ⟨gs, 1, none⟩) (by dsimp only; omega) (.slice A5 (m + q + 1) c5))
       have k1910 := Lib.hid (Below.setCell (k1899.out) (p := ⟨gs, 1, none⟩) (by dsimp only; omega) (.slice A5 (m + q + 1) c5))
       have k1911 := Lib.hid (own_far (OW5.out) (a := ⟨gs, 1, none⟩) (own_ne (OW5.out) (k1898.out) (by decide)) (.slice A5 (m + q + 1) c5))
       obtain ⟨w1912, hw1913⟩ : ∃ w', w' = ((w1893).setCell ⟨gs, 1, none⟩ (.slice A5 (m + q + 1) c5)) := ⟨_, rfl⟩
       rw [← hw1913] at k1904 k1905 k1906 k1907 k1908 k1909 k1910 k1911
       rw [← hw1913]
       clear hw1913 v1902 f1903 hlt_
       clear hgo_
       refine hK.out _ _ ⟨k1905.out, k1907.out, k1909.out⟩ (fun _ => ?_); clear hK K
       try simp only [Act.put, qsA, qsZ, qsS]
       refine wpAnyH_done (by kernel_rfl) ?_ _
       go_wp2
       go_roundw
       case rel => exact ⟨q + 1, A5, c5, by omega, by go_num, k1911.out, k1904.out, hgs, k1905.out, k1906.out, k1907.out, k1908.out, k1910.out⟩
       case measure => simp [intOf]; omega
      refine rdH rfl (fun K hK => ?_) ?_
      · -- 11: call
       go_simp
       go_at_call 112
       refine (HV2.out _).mono ?_
       rintro e w1914 ⟨rfl, hb1915⟩
       dsimp only
       replace hb1915 := Lib.hid hb1915
       replace ba_7003 := kH ba_7003 hb1915
       replace bp_7005 := kH bp_7005 hb1915
       replace xb_8022 := kH xb_8022 hb1915
       refine hK.out _ _ ⟨ba_7003.out, bp_7005.out, xb_8022.out⟩ (fun _ => ?_); clear hK K
       try simp only [Act.put, qsA, qsZ, qsS]
       refine' twH 16 ⟨ba_7003.out, bp_7005.out, xb_8022.out⟩ ?_
       try simp only [Act.put, qsA, qsZ, qsS]
       refine wpAnyH_ready (rs := [1, 17]) (by kernel_rfl) (by simp) ?_
       refine rdH rfl (fun K hK => ?_) ?_
       · -- 1: load
        replace bs_7002 := kH (kH bs_7002 hb1877) hb1915
        have cs_ : (w1914).cell? ⟨gs, 1, none⟩ = some (.slice Ax (m + q) cx) := Blk.cell (bs_7002.out) 1
        go_simp
        clear cs_
        refine hK.out _ _ ⟨ba_7003.out, bp_7005.out, xb_8022.out⟩ (fun _ => ?_); clear hK K
        try simp only [Act.put, qsA, qsZ, qsS]
        refine oneH 17 rfl fun K hK => ?_
        replace ow_7001 := Lib.hid (owns_below (owns_below (ow_7001.out) hb1877.out) hb1915.out)
        replace bb_7004 := kH (kH bb_7004 hb1877) hb1915
        replace bz_7006 := kH (kH bz_7006 hb1877) hb1915
        replace bel_7007 := bH (bH bel_7007 hb1877) hb1915
        go_simp
        have ne1921 := Lib.hid (Nat.ne_of_lt (Blk.lt bs_7002.out))
        have ne1922 := Lib.hid (Nat.ne_of_lt (Blk.lt ba_7003.out))
        have ne1923 := Lib.hid (Nat.ne_of_lt (Blk.lt bb_7004.out))
        have ne1924 := Lib.hid (Nat.ne_of_lt (Blk.lt bp_7005.out))
        have ne1925 := Lib.hid (Nat.ne_of_lt (Blk.lt bz_7006.out))
        have lb1926 := Lib.hid (bel_7007.out.size)
        have ne1927 := Lib.hid (Nat.ne_of_lt (Blk.lt xb_8022.out))
        obtain ⟨o_, ho_⟩ : ∃ o, o = (.cells #[.int .i64 v1, .int .i64 v2, .int .i64 mm, .int .i64 ib] 30 : Obj) := ⟨_, rfl⟩
        replace ow_7001 := Lib.hid (World.ownsRow.alloc (ow_7001.out) (o_))
        replace bs_7002 := kA bs_7002 o_
        replace ba_7003 := kA ba_7003 o_
        replace bb_7004 := kA bb_7004 o_
        replace bp_7005 := kA bp_7005 o_
        replace bz_7006 := kA bz_7006 o_
        replace bel_7007 := bA bel_7007 o_
        replace xb_8022 := kA xb_8022 o_
        subst ho_
        have nb_1928 := Lib.hid (Blk.new (w1914) 30 #[.int .i64 v1, .int .i64 v2, .int .i64 mm, .int .i64 ib])
        obtain ⟨g1917, hg1918⟩ : ∃ g, g = (w1914).heap.size := ⟨_, rfl⟩
        obtain ⟨w1919, hw1920⟩ : ∃ w', w' = (w1914).alloc (.cells #[.int .i64 v1, .int .i64 v2, .int .i64 mm, .int .i64 ib] 30) := ⟨_, rfl⟩
        rw [← hw1920] at ow_7001 bs_7002 ba_7003 bb_7004 bp_7005 bz_7006 bel_7007 xb_8022 nb_1928
        rw [← hg1918] at ne1921 ne1922 ne1923 ne1924 ne1925 lb1926 ne1927 nb_1928
        rw [← hg1918, ← hw1920]
        clear hg1918 hw1920
        refine hK.out _ _ ⟨ba_7003.out, bp_7005.out, xb_8022.out⟩ (fun _ => ?_); clear hK K
        try simp only [Act.put, qsA, qsZ, qsS]
        refine oneH 18 rfl fun K hK => ?_
        have hcell_ := cells_add (cs := bcells [⟨v1, v2, mm, ib⟩]) (show Blk _ _ _ (bcells [⟨v1, v2, mm, ib⟩]).toArray from nb_1928.out)
        have hbz_ := Nat.succ_le_of_lt (Blk.lt (bz_7006.out))
        refine wp_append_own _ (.tmp 49) (.tmp 65) 22 rfl (w.heap.size + 1 + 1 + 1 + 1) 30 i0 _ 4 32 Tryz.underlying22 HI.out HZ0.out HZ1.out HZ2.out rfl (by omega) _ _ _ rfl (ow_7001.out) ⟨g1917, 0, none⟩ 1 1 (bcells [⟨v1, v2, mm, ib⟩]) rfl rfl hcell_ (bcells_one _) (by unfold maxLen; omega) (by omega) hbz_ ?_
        intro v5 w1929 hown5_ hg5_ _
        obtain ⟨A5, c5, rfl, -⟩ := own_form hown5_
        have k1930 := Lib.hid (blk_grown (ba_7003.out) hg5_ (fun e => by have h_ := (World.ownsRow.lt (ow_7001.out) _ e).1; omega))
        have k1931 := Lib.hid (blk_grown (bb_7004.out) hg5_ (fun e => by have h_ := (World.ownsRow.lt (ow_7001.out) _ e).1; omega))
        have k1932 := Lib.hid (blk_grown (bp_7005.out) hg5_ (fun e => by have h_ := (World.ownsRow.lt (ow_7001.out) _ e).1; omega))
        have k1933 := Lib.hid (blk_grown (bz_7006.out) hg5_ (fun e => by have h_ := (World.ownsRow.lt (ow_7001.out) _ e).1; omega))
        have k1934 := Lib.hid (blk_grown (bs_7002.out) hg5_ (own_ne (ow_7001.out) (bs_7002.out) (by decide)))
        have k1935 := Lib.hid (Below.grown (bel_7007.out) hg5_ (Below.size (bel_7007.out)) (fun q e => by have h_ := (World.ownsRow.lt (ow_7001.out) q e).1; omega))
        have k1936 := Lib.hid (blk_grown (xb_8022.out) hg5_ (fun e => absurd (HNX.out _ e) (Nat.lt_irrefl _)))
        have OW5 := Lib.hid (show World.ownsRow w1929 (w.heap.size + 1 + 1 + 1 + 1) 30 4 (.slice A5 (m + q + 1) c5) (m + q + 1) (bcells (ts ++ (ts2.take (q + 1)).map (turnB ⟨c, ws, ts⟩ ⟨p1, p2, p3, p4⟩))) from by rw [HTK.out, ← List.append_assoc, bcells_append]; exact hown5_)
        clear hown5_ hg5_ hcell_ hbz_
        refine hK.out _ _ ⟨k1930.out, k1932.out, k1936.out⟩ (fun _ => ?_); clear hK K
        try simp only [Act.put, qsA, qsZ, qsS]
        refine' twH 19 ⟨k1930.out, k1932.out, k1936.out⟩ ?_
        try simp only [Act.put, qsA, qsZ, qsS]
        refine oneH 20 rfl fun K hK => ?_
        have hgo_ := HGO.out
        have v1938 : (w1929).cell? ⟨gs, 1, none⟩ = some (.slice Ax (m + q) cx) := Blk.cell (k1934.out) 1
        have f1939 : (w1929).frozen? ⟨gs, 1, none⟩ = false := Blk.frozen (k1934.out) 1
        have hlt_ := Blk.lt (k1934.out)
        go_simp
        have k1940 := Lib.hid (Blk.set_ (k1934.out) 1 (.slice A5 (m + q + 1) c5))
        have k1941 := Lib.hid (Blk.far (k1930.out) (p := ⟨gs, 1, none⟩) (by dsimp only; omega) (.slice A5 (m + q + 1) c5))
        have k1942 := Lib.hid (Blk.far (k1931.out) (p := ⟨gs, 1, none⟩) (by dsimp only; omega) (.slice A5 (m + q + 1) c5))
        have k1943 := Lib.hid (Blk.far (k1932.out) (p := ⟨gs, 1, none⟩) (by dsimp only; omega) (.slice A5 (m + q + 1) c5))
        have k1944 := Lib.hid (Blk.far (k1933.out) (p := ⟨gs, 1, none⟩) (by dsimp only; omega) (.slice A5 (m + q + 1) c5))
        have k1945 := Lib.hid (Blk.far (k1936.out) (p := ⟨gs, 1, none⟩) (by dsimp only; omega) (.slice A5 (m + q + 1) c5))
        have k1946 := Lib.hid (Below.setCell (k1935.out) (p := ⟨gs, 1, none⟩) (by dsimp only; omega) (.slice A5 (m + q + 1) c5))
        have k1947 := Lib.hid (own_far (OW5.out) (a := ⟨gs, 1, none⟩) (own_ne (OW5.out) (k1934.out) (by decide)) (.slice A5 (m + q + 1) c5))
        obtain ⟨w1948, hw1949⟩ : ∃ w', w' = ((w1929).setCell ⟨gs, 1, none⟩ (.slice A5 (m + q + 1) c5)) := ⟨_, rfl⟩
        rw [← hw1949] at k1940 k1941 k1942 k1943 k1944 k1945 k1946 k1947
        rw [← hw1949]
        clear hw1949 v1938 f1939 hlt_
        clear hgo_
        refine hK.out _ _ ⟨k1941.out, k1943.out, k1945.out⟩ (fun _ => ?_); clear hK K
        try simp only [Act.put, qsA, qsZ, qsS]
        refine wpAnyH_done (by kernel_rfl) ?_ _
        go_wp2
        go_roundw
        case rel => exact ⟨q + 1, A5, c5, by omega, by go_num, k1947.out, k1940.out, hgs, k1941.out, k1942.out, k1943.out, k1944.out, k1946.out⟩
        case measure => simp [intOf]; omega
       refine rdH rfl (fun K hK => ?_) ?_
       · -- 17: buildSlice
        replace ow_7001 := Lib.hid (owns_below (owns_below (ow_7001.out) hb1877.out) hb1915.out)
        replace bs_7002 := kH (kH bs_7002 hb1877) hb1915
        replace bb_7004 := kH (kH bb_7004 hb1877) hb1915
        replace bz_7006 := kH (kH bz_7006 hb1877) hb1915
        replace bel_7007 := bH (bH bel_7007 hb1877) hb1915
        go_simp
        have ne1954 := Lib.hid (Nat.ne_of_lt (Blk.lt bs_7002.out))
        have ne1955 := Lib.hid (Nat.ne_of_lt (Blk.lt ba_7003.out))
        have ne1956 := Lib.hid (Nat.ne_of_lt (Blk.lt bb_7004.out))
        have ne1957 := Lib.hid (Nat.ne_of_lt (Blk.lt bp_7005.out))
        have ne1958 := Lib.hid (Nat.ne_of_lt (Blk.lt bz_7006.out))
        have lb1959 := Lib.hid (bel_7007.out.size)
        have ne1960 := Lib.hid (Nat.ne_of_lt (Blk.lt xb_8022.out))
        obtain ⟨o_, ho_⟩ : ∃ o, o = (.cells #[.int .i64 v1, .int .i64 v2, .int .i64 mm, .int .i64 ib] 30 : Obj) := ⟨_, rfl⟩
        replace ow_7001 := Lib.hid (World.ownsRow.alloc (ow_7001.out) (o_))
        replace bs_7002 := kA bs_7002 o_
        replace ba_7003 := kA ba_7003 o_
        replace bb_7004 := kA bb_7004 o_
        replace bp_7005 := kA bp_7005 o_
        replace bz_7006 := kA bz_7006 o_
        replace bel_7007 := bA bel_7007 o_
        replace xb_8022 := kA xb_8022 o_
        subst ho_
        have nb_1961 := Lib.hid (Blk.new (w1914) 30 #[.int .i64 v1, .int .i64 v2, .int .i64 mm, .int .i64 ib])
        obtain ⟨g1950, hg1951⟩ : ∃ g, g = (w1914).heap.size := ⟨_, rfl⟩
        obtain ⟨w1952, hw1953⟩ : ∃ w', w' = (w1914).alloc (.cells #[.int .i64 v1, .int .i64 v2, .int .i64 mm, .int .i64 ib] 30) := ⟨_, rfl⟩
        rw [← hw1953] at ow_7001 bs_7002 ba_7003 bb_7004 bp_7005 bz_7006 bel_7007 xb_8022 nb_1961
        rw [← hg1951] at ne1954 ne1955 ne1956 ne1957 ne1958 lb1959 ne1960 nb_1961
        rw [← hg1951, ← hw1953]
        clear hg1951 hw1953
        refine hK.out _ _ ⟨ba_7003.out, bp_7005.out, xb_8022.out⟩ (fun _ => ?_); clear hK K
        try simp only [Act.put, qsA, qsZ, qsS]
        refine oneH 1 rfl fun K hK => ?_
        have cs_ : (w1952).cell? ⟨gs, 1, none⟩ = some (.slice Ax (m + q) cx) := Blk.cell (bs_7002.out) 1
        go_simp
        clear cs_
        refine hK.out _ _ ⟨ba_7003.out, bp_7005.out, xb_8022.out⟩ (fun _ => ?_); clear hK K
        try simp only [Act.put, qsA, qsZ, qsS]
        refine oneH 18 rfl fun K hK => ?_
        have hcell_ := cells_add (cs := bcells [⟨v1, v2, mm, ib⟩]) (show Blk _ _ _ (bcells [⟨v1, v2, mm, ib⟩]).toArray from nb_1961.out)
        have hbz_ := Nat.succ_le_of_lt (Blk.lt (bz_7006.out))
        refine wp_append_own _ (.tmp 49) (.tmp 65) 22 rfl (w.heap.size + 1 + 1 + 1 + 1) 30 i0 _ 4 32 Tryz.underlying22 HI.out HZ0.out HZ1.out HZ2.out rfl (by omega) _ _ _ rfl (ow_7001.out) ⟨g1950, 0, none⟩ 1 1 (bcells [⟨v1, v2, mm, ib⟩]) rfl rfl hcell_ (bcells_one _) (by unfold maxLen; omega) (by omega) hbz_ ?_
        intro v5 w1962 hown5_ hg5_ _
        obtain ⟨A5, c5, rfl, -⟩ := own_form hown5_
        have k1963 := Lib.hid (blk_grown (ba_7003.out) hg5_ (fun e => by have h_ := (World.ownsRow.lt (ow_7001.out) _ e).1; omega))
        have k1964 := Lib.hid (blk_grown (bb_7004.out) hg5_ (fun e => by have h_ := (World.ownsRow.lt (ow_7001.out) _ e).1; omega))
        have k1965 := Lib.hid (blk_grown (bp_7005.out) hg5_ (fun e => by have h_ := (World.ownsRow.lt (ow_7001.out) _ e).1; omega))
        have k1966 := Lib.hid (blk_grown (bz_7006.out) hg5_ (fun e => by have h_ := (World.ownsRow.lt (ow_7001.out) _ e).1; omega))
        have k1967 := Lib.hid (blk_grown (bs_7002.out) hg5_ (own_ne (ow_7001.out) (bs_7002.out) (by decide)))
        have k1968 := Lib.hid (Below.grown (bel_7007.out) hg5_ (Below.size (bel_7007.out)) (fun q e => by have h_ := (World.ownsRow.lt (ow_7001.out) q e).1; omega))
        have k1969 := Lib.hid (blk_grown (xb_8022.out) hg5_ (fun e => absurd (HNX.out _ e) (Nat.lt_irrefl _)))
        have OW5 := Lib.hid (show World.ownsRow w1962 (w.heap.size + 1 + 1 + 1 + 1) 30 4 (.slice A5 (m + q + 1) c5) (m + q + 1) (bcells (ts ++ (ts2.take (q + 1)).map (turnB ⟨c, ws, ts⟩ ⟨p1, p2, p3, p4⟩))) from by rw [HTK.out, ← List.append_assoc, bcells_append]; exact hown5_)
        clear hown5_ hg5_ hcell_ hbz_
        refine hK.out _ _ ⟨k1963.out, k1965.out, k1969.out⟩ (fun _ => ?_); clear hK K
        try simp only [Act.put, qsA, qsZ, qsS]
        refine' twH 19 ⟨k1963.out, k1965.out, k1969.out⟩ ?_
        try simp only [Act.put, qsA, qsZ, qsS]
        refine oneH 20 rfl fun K hK => ?_
        have hgo_ := HGO.out
        have v1971 : (w1962).cell? ⟨gs, 1, none⟩ = some (.slice Ax (m + q) cx) := Blk.cell (k1967.out) 1
        have f1972 : (w1962).frozen? ⟨gs, 1, none⟩ = false := Blk.frozen (k1967.out) 1
        have hlt_ := Blk.lt (k1967.out)
        go_simp
        have k1973 := Lib.hid (Blk.set_ (k1967.out) 1 (.slice A5 (m + q + 1) c5))
        have k1974 := Lib.hid (Blk.far (k1963.out) (p := ⟨gs, 1, none⟩) (by dsimp only; omega) (.slice A5 (m + q + 1) c5))
        have k1975 := Lib.hid (Blk.far (k1964.out) (p := ⟨gs, 1, none⟩) (by dsimp only; omega) (.slice A5 (m + q + 1) c5))
        have k1976 := Lib.hid (Blk.far (k1965.out) (p := ⟨gs, 1, none⟩) (by dsimp only; omega) (.slice A5 (m + q + 1) c5))
        have k1977 := Lib.hid (Blk.far (k1966.out) (p := ⟨gs, 1, none⟩) (by dsimp only; omega) (.slice A5 (m + q + 1) c5))
        have k1978 := Lib.hid (Blk.far (k1969.out) (p := ⟨gs, 1, none⟩) (by dsimp only; omega) (.slice A5 (m + q + 1) c5))
        have k1979 := Lib.hid (Below.setCell (k1968.out) (p := ⟨gs, 1, none⟩) (by dsimp only; omega) (.slice A5 (m + q + 1) c5))
        have k1980 := Lib.hid (own_far (OW5.out) (a := ⟨gs, 1, none⟩) (own_ne (OW5.out) (k1967.out) (by decide)) (.slice A5 (m + q + 1) c5))
        obtain ⟨w1981, hw1982⟩ : ∃ w', w' = ((w1962).setCell ⟨gs, 1, none⟩ (.slice A5 (m + q + 1) c5)) := ⟨_, rfl⟩
        rw [← hw1982] at k1973 k1974 k1975 k1976 k1977 k1978 k1979 k1980
        rw [← hw1982]
        clear hw1982 v1971 f1972 hlt_
        clear hgo_
        refine hK.out _ _ ⟨k1974.out, k1976.out, k1978.out⟩ (fun _ => ?_); clear hK K
        try simp only [Act.put, qsA, qsZ, qsS]
        refine wpAnyH_done (by kernel_rfl) ?_ _
        go_wp2
        go_roundw
        case rel => exact ⟨q + 1, A5, c5, by omega, by go_num, k1980.out, k1973.out, hgs, k1974.out, k1975.out, k1976.out, k1977.out, k1979.out⟩
        case measure => simp [intOf]; omega
       exact AllReadyH.nil
      exact AllReadyH.nil
     exact AllReadyH.nil
   · obtain rfl : m2 = q := by omega
     have hlen := RB0.out.len
     have hrd := (OwnB.rd (show OwnB wo (w.heap.size + 1 + 1 + 1 + 1) Ax (m + m2) cx (ts ++ (ts2.take m2).map (turnB ⟨c, ws, ts⟩ ⟨p1, p2, p3, p4⟩)) from ow_7001.out)).1
     rw [List.take_of_length_le (by omega)] at hrd
     have fz_8022 : (wo).frozen? ⟨w.heap.size + 1 + 1 + 1, 0, none⟩ = false := Blk.frozen bz_7006.out 0
     have fz_8023 : (wo).frozen? ⟨w.heap.size + 1 + 1 + 1, 1, none⟩ = false := Blk.frozen bz_7006.out 1
     have hlb_ := Blk.lt bz_7006.out; have bz_ := bz_7006.out; have bel_ := bel_7007.out
     have HK := Lib.hid (And.intro bz_ (And.intro bel_ hrd)); clear bz_ bel_ hrd hlen
     go_wp2
     obtain ⟨bz_, bel_, rl_⟩ := HK.out
     refine bodyPost_ret (v := .agg #[.int .i64 (c + d - (p2 - p1)), .slice Ax (m + m2) cx]) (by simp [results, Tryz.results75, go_sem, z_7008, z_7009, z_7010, z_7011, z_7012, z_7013, z_7014, z_7015, z_7016, z_7017, z_7018, z_7019, z_7020, z_7021, fz_8022, fz_8023]) rfl ?_
     exact ⟨Ax, m + m2, cx, rfl, rdB_set2 rl_ ⟨w.heap.size + 1 + 1 + 1, 0, none⟩ ⟨w.heap.size + 1 + 1 + 1, 1, none⟩ (.int .i64 (c + d - (p2 - p1))) (.slice Ax (m + m2) cx) bz_ rfl, (by have hsz_ := Below.size bel_; repeat' (first | with_reducible exact bel_ | with_reducible exact Below.refl _ _ | with_reducible refine Below.alloc ?_ ?_ _ | with_reducible refine Below.setCell ?_ ?_ _ | with_reducible refine Below.drew ?_ | with_reducible refine below_setRow ?_ ?_ _ | omega | (simp; done) | (simp; omega)))⟩
set_option maxRecDepth 100000 in
theorem rjoint_w (c : Int) (A B : Option Addr) (n k m j : Nat) (ws ts : List Bnd) (d : Int) (C D : Option Addr) (n2 k2 m2 j2 : Nat) (ws2 ts2 : List Bnd) (p1 p2 p3 p4 : Int) (w : World) (h1 : RdB w A n k ws) (h2 : RdB w B m j ts) (hn : n ≤ maxLen) (hm : m ≤ maxLen) (h3 : RdB w C n2 k2 ws2) (h4 : RdB w D m2 j2 ts2) (hn2 : n2 ≤ maxLen) (hm2 : m2 ≤ maxLen) (g0 : 3 ≤ c ∧ c ≤ 16) (g1 : 3 ≤ d ∧ d ≤ 16) (g2 : 0 ≤ p1 ∧ p1 < p2 ∧ p2 ≤ c) (g3 : 0 ≤ p3 ∧ p3 < p4 ∧ p4 ≤ d) (hl1 : n ≤ 400) (hl2 : n2 ≤ 400) (hok : ∀ x ∈ ws2, 0 ≤ x.f ∧ x.f ≤ 16 ∧ 0 ≤ x.t ∧ x.t ≤ 16) :
 Calls Tryz.prog 75 #[.agg #[.int .i64 c, .slice A n k, .slice B m j], .agg #[.int .i64 d, .slice C n2 k2, .slice D m2 j2], .agg #[.int .i64 p1, .int .i64 p2, .int .i64 p3, .int .i64 p4], .bool false] w fun e w' => ∃ Ar nr kr, e = .returned (.agg #[.int .i64 (c + d + 1 - (p2 - p1)), .slice Ar nr kr]) ∧ RdB w' Ar nr kr (wayL ⟨c, ws, ts⟩ ⟨d, ws2, ts2⟩ ⟨p1, p2, p3, p4⟩) ∧ Below w.heap.size w w' := by
 obtain ⟨i0, hi0, hz0, hz1, hz2⟩ := info_parts infoB
 have HI := Lib.hid hi0; have HZ0 := Lib.hid hz0; have HZ1 := Lib.hid hz1; have HZ2 := Lib.hid hz2; clear hi0 hz0 hz1 hz2
 have HWS : Hid (IntKind.i64.wrap (c + d) = c + d ∧ IntKind.i64.wrap (c + d + 2) = c + d + 2 ∧ IntKind.i64.wrap (p2 - p1 + 1) = p2 - p1 + 1 ∧ IntKind.i64.wrap (c + d + 2 - (p2 - p1 + 1)) = c + d + 1 - (p2 - p1)) := Lib.hid ⟨IntWalk.i64_in _ (by omega), IntWalk.i64_in _ (by omega), IntWalk.i64_in _ (by omega), by rw [IntWalk.i64_in _ (by omega)]; omega⟩
 have RB0 := Lib.hid (h3); have RA0 := Lib.hid (h1); clear h1 h2 h3 h4
 go_enter Tryz.func75, Tryz.ntmps75
 have bel_1 := Lib.hid (show Below w.heap.size w w from Below.refl _ w)
 obtain ⟨o_, ho_⟩ : ∃ o, o = ((.cells #[.int .i64 c, .slice A n k, .slice B m j] 24) : Obj) := ⟨_, rfl⟩
 replace bel_1 := bA bel_1 o_
 subst ho_
 have ba_2 := Lib.hid (Blk.new w 24 #[.int .i64 c, .slice A n k, .slice B m j])
 obtain ⟨o_, ho_⟩ : ∃ o, o = ((.cells #[.int .i64 d, .slice C n2 k2, .slice D m2 j2] 24) : Obj) := ⟨_, rfl⟩
 replace bel_1 := bA bel_1 o_
 replace ba_2 := kA ba_2 o_
 subst ho_
 have nb_ := Blk.new (w.alloc (.cells #[.int .i64 c, .slice A n k, .slice B m j] 24)) 24 #[.int .i64 d, .slice C n2 k2, .slice D m2 j2]
 simp only [World.size_alloc] at nb_
 have bb_3 := Lib.hid nb_; clear nb_
 obtain ⟨o_, ho_⟩ : ∃ o, o = ((.cells #[.int .i64 p1, .int .i64 p2, .int .i64 p3, .int .i64 p4] 28) : Obj) := ⟨_, rfl⟩
 replace bel_1 := bA bel_1 o_
 replace ba_2 := kA ba_2 o_
 replace bb_3 := kA bb_3 o_
 subst ho_
 have nb_ := Blk.new ((w.alloc (.cells #[.int .i64 c, .slice A n k, .slice B m j] 24)).alloc (.cells #[.int .i64 d, .slice C n2 k2, .slice D m2 j2] 24)) 28 #[.int .i64 p1, .int .i64 p2, .int .i64 p3, .int .i64 p4]
 simp only [World.size_alloc] at nb_
 have bp_4 := Lib.hid nb_; clear nb_
 obtain ⟨o_, ho_⟩ : ∃ o, o = ((.cells #[.int .i64 0, .slice none 0 0] 46) : Obj) := ⟨_, rfl⟩
 replace bel_1 := bA bel_1 o_
 replace ba_2 := kA ba_2 o_
 replace bb_3 := kA bb_3 o_
 replace bp_4 := kA bp_4 o_
 subst ho_
 have nb_ := Blk.new (((w.alloc (.cells #[.int .i64 c, .slice A n k, .slice B m j] 24)).alloc (.cells #[.int .i64 d, .slice C n2 k2, .slice D m2 j2] 24)).alloc (.cells #[.int .i64 p1, .int .i64 p2, .int .i64 p3, .int .i64 p4] 28)) 46 #[.int .i64 0, .slice none 0 0]
 simp only [World.size_alloc] at nb_
 have bz_5 := Lib.hid nb_; clear nb_
 obtain ⟨z_6, z_7, z_8⟩ := at3 ba_2
 obtain ⟨z_9, z_10, z_11⟩ := at3 bb_3
 obtain ⟨z_12, z_13, z_14, z_15⟩ := at4 bp_4
 obtain ⟨z_16, z_17⟩ := at2 bz_5
 go_upto_region 10 with fail
 clear z_6 z_7 z_8 z_9 z_10 z_11 z_12 z_13 z_14 z_15 z_16 z_17
 obtain ⟨w1, hW⟩ : ∃ w', w' = ((((w.alloc (.cells #[.int .i64 c, .slice A n k, .slice B m j] 24)).alloc (.cells #[.int .i64 d, .slice C n2 k2, .slice D m2 j2] 24)).alloc (.cells #[.int .i64 p1, .int .i64 p2, .int .i64 p3, .int .i64 p4] 28)).alloc (.cells #[.int .i64 0, .slice none 0 0] 46)) := ⟨_, rfl⟩
 rw [← hW] at bel_1 ba_2 bb_3 bp_4 bz_5
 rw [← hW]
 clear hW
 go_cut [13] from 69 to 82 (fun sb wx => ∃ (gs : Nat) (Ai : Option Addr) (ci : Nat), sb = .pointer (some ⟨gs, 0, none⟩) ∧ wx.ownsRow (w.heap.size + 1 + 1 + 1 + 1) 30 4 (.slice Ai (n) ci) (n) (bcells (ws)) ∧ Blk wx gs 46 #[.int .i64 (c + d + 1 - (p2 - p1)), .slice Ai (n) ci] ∧ (w.heap.size + 1 + 1 + 1 + 1) ≤ gs ∧ Blk wx (w.heap.size) 24 #[.int .i64 c, .slice A n k, .slice B m j] ∧ Blk wx (w.heap.size + 1) 24 #[.int .i64 d, .slice C n2 k2, .slice D m2 j2] ∧ Blk wx (w.heap.size + 1 + 1) 28 #[.int .i64 p1, .int .i64 p2, .int .i64 p3, .int .i64 p4] ∧ Blk wx (w.heap.size + 1 + 1 + 1) 46 #[.int .i64 0, .slice none 0 0] ∧ Below w.heap.size w wx)
 case first =>
  have hgz_ := Nat.succ_le_of_lt (Blk.lt bz_5.out)
  replace bel_1 := bD bel_1
  replace ba_2 := kD ba_2
  replace bb_3 := kD bb_3
  replace bp_4 := kD bp_4
  replace bz_5 := kD bz_5
  refine wp_region_held_drew (S := (fun W' => Blk W' (w.heap.size) 24 #[.int .i64 c, .slice A n k, .slice B m j] ∧ Blk W' (w.heap.size + 1) 24 #[.int .i64 d, .slice C n2 k2, .slice D m2 j2])) (by kernel_rfl) ⟨ba_2.out, bb_3.out⟩ (fun _ => ?_)
  obtain ⟨w1983, hw1984⟩ : ∃ w', w' = (w1.drew) := ⟨_, rfl⟩
  rw [← hw1984] at bel_1 ba_2 bb_3 bp_4 bz_5
  rw [← hw1984]
  clear hw1984
  refine' twH 0 ⟨ba_2.out, bb_3.out⟩ ?_
  refine' tkH 1 ⟨ba_2.out, bb_3.out⟩ ?hyR1986 ?_
  case hyR1986 => (rintro W' ⟨hS0, hS1⟩; have hc0 := Blk.nth hS0 0; clear hS0 hS1; go_simp; try with_reducible rfl)
  refine' twH 2 ⟨ba_2.out, bb_3.out⟩ ?_
  refine' tkH 3 ⟨ba_2.out, bb_3.out⟩ ?hyR1988 ?_
  case hyR1988 => (rintro W' ⟨hS0, hS1⟩; have hc0 := Blk.nth hS1 0; clear hS0 hS1; go_simp; try with_reducible rfl)
  try simp only [Act.put, qsA, qsZ, qsS]
  refine' twH 4 ⟨ba_2.out, bb_3.out⟩ ?_
  refine' twH 5 ⟨ba_2.out, bb_3.out⟩ ?_
  refine' twH 6 ⟨ba_2.out, bb_3.out⟩ ?_
  refine' twH 7 ⟨ba_2.out, bb_3.out⟩ ?_
  try simp only [Act.put, qsA, qsZ, qsS]
  refine' twH 8 ⟨ba_2.out, bb_3.out⟩ ?_
  refine' twH 10 ⟨ba_2.out, bb_3.out⟩ ?_
  refine' tkH 11 ⟨ba_2.out, bb_3.out⟩ ?hyR1995 ?_
  case hyR1995 => (rintro W' ⟨hS0, hS1⟩; have hc0 := Blk.nth hS0 1; clear hS0 hS1; go_simp; try with_reducible rfl)
  try simp only [Act.put, qsA, qsZ, qsS]
  refine wpAnyH_ready (rs := [9, 14]) (by kernel_rfl) (by simp) ?_
  refine rdH rfl (fun K hK => ?_) ?_
  · -- 9: buildSlice
   go_simp
   have how_ := World.ownsRow_lit (w1983) (e := 30) (size := 4) #[] 0 (Nat.le_refl _) (by unfold maxLen; omega) rfl
   have how_ := owns_base how_ (show (w.heap.size + 1 + 1 + 1 + 1) ≤ _ from Nat.succ_le_of_lt (Blk.lt (bz_5.out)))
   have lb2000 := Lib.hid (bel_1.out.size)
   have ne2001 := Lib.hid (Nat.ne_of_lt (Blk.lt ba_2.out))
   have ne2002 := Lib.hid (Nat.ne_of_lt (Blk.lt bb_3.out))
   have ne2003 := Lib.hid (Nat.ne_of_lt (Blk.lt bp_4.out))
   have ne2004 := Lib.hid (Nat.ne_of_lt (Blk.lt bz_5.out))
   obtain ⟨o_, ho_⟩ : ∃ o, o = (.cells #[] 30 : Obj) := ⟨_, rfl⟩
   replace bel_1 := bA bel_1 o_
   replace ba_2 := kA ba_2 o_
   replace bb_3 := kA bb_3 o_
   replace bp_4 := kA bp_4 o_
   replace bz_5 := kA bz_5 o_
   subst ho_
   have gl_2005 := Lib.hid (Blk.new (w1983) 30 #[])
   obtain ⟨g1996, hg1997⟩ : ∃ g, g = (w1983).heap.size := ⟨_, rfl⟩
   obtain ⟨w1998, hw1999⟩ : ∃ w', w' = (w1983).alloc (.cells #[] 30) := ⟨_, rfl⟩
   rw [← hw1999] at bel_1 ba_2 bb_3 bp_4 bz_5 gl_2005 how_
   rw [← hg1997] at lb2000 ne2001 ne2002 ne2003 ne2004 gl_2005 how_
   rw [← hg1997, ← hw1999]
   clear hg1997 hw1999
   have OWL := Lib.hid how_; clear how_
   refine hK.out _ _ ⟨ba_2.out, bb_3.out⟩ (fun _ => ?_); clear hK K
   try simp only [Act.put, qsA, qsZ, qsS]
   refine wpAnyH_ready (rs := [12, 14]) (by kernel_rfl) (by simp) ?_
   refine rdH rfl (fun K hK => ?_) ?_
   · -- 12: call
    refine wp_append_lit (.tmp 78) (.tmp 80) rfl (w.heap.size + 1 + 1 + 1 + 1) _ (OWL.out) rfl A n k ws (RdB.below RA0.out (bel_1.out)) hl1 rfl (Nat.succ_le_of_lt (Blk.lt (bz_5.out))) ?_
    intro Ai ci w2006 hown5_ hg5_
    have k2007 := Lib.hid (blk_grown (ba_2.out) hg5_ (fun e => by have h_ := (World.ownsRow.lt (OWL.out) _ e).1; omega))
    have k2008 := Lib.hid (blk_grown (bb_3.out) hg5_ (fun e => by have h_ := (World.ownsRow.lt (OWL.out) _ e).1; omega))
    have k2009 := Lib.hid (blk_grown (bp_4.out) hg5_ (fun e => by have h_ := (World.ownsRow.lt (OWL.out) _ e).1; omega))
    have k2010 := Lib.hid (blk_grown (bz_5.out) hg5_ (fun e => by have h_ := (World.ownsRow.lt (OWL.out) _ e).1; omega))
    have k2011 := Lib.hid (Below.grown (bel_1.out) hg5_ (Below.size (bel_1.out)) (fun q e => by have h_ := (World.ownsRow.lt (OWL.out) q e).1; omega))
    have OWA := Lib.hid hown5_
    clear hown5_ hg5_
    refine hK.out _ _ ⟨k2007.out, k2008.out⟩ (fun _ => ?_); clear hK K
    try simp only [Act.put, qsA, qsZ, qsS]
    refine' twH 13 ⟨k2007.out, k2008.out⟩ ?_
    try simp only [Act.put, qsA, qsZ, qsS]
    refine oneH 14 rfl fun K hK => ?_
    go_simp
    have hbz_ := Lib.hid (Nat.lt_of_lt_of_le (Blk.lt (k2010.out)) (Nat.le_refl _))
    have lb2017 := Lib.hid (k2011.out.size)
    have ne2018 := Lib.hid (Nat.ne_of_lt (Blk.lt k2007.out))
    have ne2019 := Lib.hid (Nat.ne_of_lt (Blk.lt k2008.out))
    have ne2020 := Lib.hid (Nat.ne_of_lt (Blk.lt k2009.out))
    have ne2021 := Lib.hid (Nat.ne_of_lt (Blk.lt k2010.out))
    obtain ⟨o_, ho_⟩ : ∃ o, o = (.cells #[.int .i64 0, .slice none 0 0] 46 : Obj) := ⟨_, rfl⟩
    replace k2011 := bA k2011 o_
    replace k2007 := kA k2007 o_
    replace k2008 := kA k2008 o_
    replace k2009 := kA k2009 o_
    replace k2010 := kA k2010 o_
    replace OWA := Lib.hid (World.ownsRow.alloc (OWA.out) (o_))
    subst ho_
    have bs_2022 := Lib.hid (Blk.new (w2006) 46 #[.int .i64 0, .slice none 0 0])
    obtain ⟨g2013, hg2014⟩ : ∃ g, g = (w2006).heap.size := ⟨_, rfl⟩
    obtain ⟨w2015, hw2016⟩ : ∃ w', w' = (w2006).alloc (.cells #[.int .i64 0, .slice none 0 0] 46) := ⟨_, rfl⟩
    rw [← hw2016] at k2011 k2007 k2008 k2009 k2010 OWA bs_2022
    rw [← hg2014] at lb2017 ne2018 ne2019 ne2020 ne2021 bs_2022 hbz_
    rw [← hg2014, ← hw2016]
    clear hg2014 hw2016
    have lt2023 := hbz_; clear hbz_
    refine hK.out _ _ ⟨k2007.out, k2008.out⟩ (fun _ => ?_); clear hK K
    try simp only [Act.put, qsA, qsZ, qsS]
    refine oneH 15 rfl fun K hK => ?_
    have HGE := Lib.hid (show (w.heap.size + 1 + 1 + 1 + 1) ≤ g2013 from by have h1_ := lt2023.out; omega)
    have hge_ := HGE.out
    obtain ⟨hw1, hw2, hw3, hw4⟩ := HWS.out
    have v2024 : (w2015).cell? ⟨g2013, 0, none⟩ = some (.int .i64 0) := Blk.cell (bs_2022.out) 0
    have f2025 : (w2015).frozen? ⟨g2013, 0, none⟩ = false := Blk.frozen (bs_2022.out) 0
    have v2026 : (w2015).cell? ⟨g2013, 1, none⟩ = some (.slice none 0 0) := Blk.cell (bs_2022.out) 1
    have f2027 : (w2015).frozen? ⟨g2013, 1, none⟩ = false := Blk.frozen (bs_2022.out) 1
    have hlt_ := Blk.lt (bs_2022.out)
    go_simp
    try simp only [hw1, hw2, hw3, hw4]
    clear hw1 hw2 hw3 hw4
    have k2028 := Lib.hid (Blk.set_ (Blk.set_ (bs_2022.out) 0 (.int .i64 (c + d + 1 - (p2 - p1)))) 1 (.slice Ai n ci))
    have k2029 := Lib.hid (Blk.far (Blk.far (k2007.out) (p := ⟨g2013, 0, none⟩) (by dsimp only; omega) (.int .i64 (c + d + 1 - (p2 - p1)))) (p := ⟨g2013, 1, none⟩) (by dsimp only; omega) (.slice Ai n ci))
    have k2030 := Lib.hid (Blk.far (Blk.far (k2008.out) (p := ⟨g2013, 0, none⟩) (by dsimp only; omega) (.int .i64 (c + d + 1 - (p2 - p1)))) (p := ⟨g2013, 1, none⟩) (by dsimp only; omega) (.slice Ai n ci))
    have k2031 := Lib.hid (Blk.far (Blk.far (k2009.out) (p := ⟨g2013, 0, none⟩) (by dsimp only; omega) (.int .i64 (c + d + 1 - (p2 - p1)))) (p := ⟨g2013, 1, none⟩) (by dsimp only; omega) (.slice Ai n ci))
    have k2032 := Lib.hid (Blk.far (Blk.far (k2010.out) (p := ⟨g2013, 0, none⟩) (by dsimp only; omega) (.int .i64 (c + d + 1 - (p2 - p1)))) (p := ⟨g2013, 1, none⟩) (by dsimp only; omega) (.slice Ai n ci))
    have k2033 := Lib.hid (Below.setCell (Below.setCell (k2011.out) (p := ⟨g2013, 0, none⟩) (by dsimp only; omega) (.int .i64 (c + d + 1 - (p2 - p1)))) (p := ⟨g2013, 1, none⟩) (by dsimp only; omega) (.slice Ai n ci))
    have k2034 := Lib.hid (own_far (own_far (OWA.out) (a := ⟨g2013, 0, none⟩) (own_ne (OWA.out) (bs_2022.out) (by decide)) (.int .i64 (c + d + 1 - (p2 - p1)))) (a := ⟨g2013, 1, none⟩) (own_ne (own_far (OWA.out) (a := ⟨g2013, 0, none⟩) (own_ne (OWA.out) (bs_2022.out) (by decide)) (.int .i64 (c + d + 1 - (p2 - p1)))) (Blk.set_ (bs_2022.out) 0 (.int .i64 (c + d + 1 - (p2 - p1)))) (by decide)) (.slice Ai n ci))
    obtain ⟨w2035, hw2036⟩ : ∃ w', w' = (((w2015).setCell ⟨g2013, 0, none⟩ (.int .i64 (c + d + 1 - (p2 - p1)))).setCell ⟨g2013, 1, none⟩ (.slice Ai n ci)) := ⟨_, rfl⟩
    rw [← hw2036] at k2028 k2029 k2030 k2031 k2032 k2033 k2034
    rw [← hw2036]
    clear hw2036 v2024 f2025 v2026 f2027 hlt_
    clear hge_
    refine hK.out _ _ ⟨k2029.out, k2030.out⟩ (fun _ => ?_); clear hK K
    try simp only [Act.put, qsA, qsZ, qsS]
    refine wpAnyH_done (by kernel_rfl) ?_ _
    go_wp2
    go_meet
    exact ⟨_, Ai, ci, rfl, k2034.out, k2028.out, HGE.out, k2029.out, k2030.out, k2031.out, k2032.out, k2033.out⟩
   refine rdH rfl (fun K hK => ?_) ?_
   · -- 14: alloc
    go_simp
    have hbz_ := Lib.hid (Nat.lt_of_lt_of_le (Blk.lt (bz_5.out)) (Nat.le_refl _))
    have lb2041 := Lib.hid (bel_1.out.size)
    have ne2042 := Lib.hid (Nat.ne_of_lt (Blk.lt ba_2.out))
    have ne2043 := Lib.hid (Nat.ne_of_lt (Blk.lt bb_3.out))
    have ne2044 := Lib.hid (Nat.ne_of_lt (Blk.lt bp_4.out))
    have ne2045 := Lib.hid (Nat.ne_of_lt (Blk.lt bz_5.out))
    obtain ⟨o_, ho_⟩ : ∃ o, o = (.cells #[.int .i64 0, .slice none 0 0] 46 : Obj) := ⟨_, rfl⟩
    replace bel_1 := bA bel_1 o_
    replace ba_2 := kA ba_2 o_
    replace bb_3 := kA bb_3 o_
    replace bp_4 := kA bp_4 o_
    replace bz_5 := kA bz_5 o_
    replace OWL := Lib.hid (World.ownsRow.alloc (OWL.out) (o_))
    subst ho_
    have bs_2046 := Lib.hid (Blk.new (w1998) 46 #[.int .i64 0, .slice none 0 0])
    obtain ⟨g2037, hg2038⟩ : ∃ g, g = (w1998).heap.size := ⟨_, rfl⟩
    obtain ⟨w2039, hw2040⟩ : ∃ w', w' = (w1998).alloc (.cells #[.int .i64 0, .slice none 0 0] 46) := ⟨_, rfl⟩
    rw [← hw2040] at bel_1 ba_2 bb_3 bp_4 bz_5 OWL bs_2046
    rw [← hg2038] at lb2041 ne2042 ne2043 ne2044 ne2045 bs_2046 hbz_
    rw [← hg2038, ← hw2040]
    clear hg2038 hw2040
    have lt2047 := hbz_; clear hbz_
    refine hK.out _ _ ⟨ba_2.out, bb_3.out⟩ (fun _ => ?_); clear hK K
    try simp only [Act.put, qsA, qsZ, qsS]
    refine oneH 12 rfl fun K hK => ?_
    refine wp_append_lit (.tmp 78) (.tmp 80) rfl (w.heap.size + 1 + 1 + 1 + 1) _ (OWL.out) rfl A n k ws (RdB.below RA0.out (bel_1.out)) hl1 rfl (Nat.succ_le_of_lt (Blk.lt (bz_5.out))) ?_
    intro Ai ci w2048 hown5_ hg5_
    have k2049 := Lib.hid (blk_grown (ba_2.out) hg5_ (fun e => by have h_ := (World.ownsRow.lt (OWL.out) _ e).1; omega))
    have k2050 := Lib.hid (blk_grown (bb_3.out) hg5_ (fun e => by have h_ := (World.ownsRow.lt (OWL.out) _ e).1; omega))
    have k2051 := Lib.hid (blk_grown (bp_4.out) hg5_ (fun e => by have h_ := (World.ownsRow.lt (OWL.out) _ e).1; omega))
    have k2052 := Lib.hid (blk_grown (bz_5.out) hg5_ (fun e => by have h_ := (World.ownsRow.lt (OWL.out) _ e).1; omega))
    have k2053 := Lib.hid (blk_grown (bs_2046.out) hg5_ (own_ne (OWL.out) (bs_2046.out) (by decide)))
    have k2054 := Lib.hid (Below.grown (bel_1.out) hg5_ (Below.size (bel_1.out)) (fun q e => by have h_ := (World.ownsRow.lt (OWL.out) q e).1; omega))
    have OWA := Lib.hid hown5_
    clear hown5_ hg5_
    refine hK.out _ _ ⟨k2049.out, k2050.out⟩ (fun _ => ?_); clear hK K
    try simp only [Act.put, qsA, qsZ, qsS]
    refine' twH 13 ⟨k2049.out, k2050.out⟩ ?_
    try simp only [Act.put, qsA, qsZ, qsS]
    refine oneH 15 rfl fun K hK => ?_
    have HGE := Lib.hid (show (w.heap.size + 1 + 1 + 1 + 1) ≤ g2037 from by have h1_ := lt2047.out; omega)
    have hge_ := HGE.out
    obtain ⟨hw1, hw2, hw3, hw4⟩ := HWS.out
    have v2056 : (w2048).cell? ⟨g2037, 0, none⟩ = some (.int .i64 0) := Blk.cell (k2053.out) 0
    have f2057 : (w2048).frozen? ⟨g2037, 0, none⟩ = false := Blk.frozen (k2053.out) 0
    have v2058 : (w2048).cell? ⟨g2037, 1, none⟩ = some (.slice none 0 0) := Blk.cell (k2053.out) 1
    have f2059 : (w2048).frozen? ⟨g2037, 1, none⟩ = false := Blk.frozen (k2053.out) 1
    have hlt_ := Blk.lt (k2053.out)
    go_simp
    try simp only [hw1, hw2, hw3, hw4]
    clear hw1 hw2 hw3 hw4
    have k2060 := Lib.hid (Blk.set_ (Blk.set_ (k2053.out) 0 (.int .i64 (c + d + 1 - (p2 - p1)))) 1 (.slice Ai n ci))
    have k2061 := Lib.hid (Blk.far (Blk.far (k2049.out) (p := ⟨g2037, 0, none⟩) (by dsimp only; omega) (.int .i64 (c + d + 1 - (p2 - p1)))) (p := ⟨g2037, 1, none⟩) (by dsimp only; omega) (.slice Ai n ci))
    have k2062 := Lib.hid (Blk.far (Blk.far (k2050.out) (p := ⟨g2037, 0, none⟩) (by dsimp only; omega) (.int .i64 (c + d + 1 - (p2 - p1)))) (p := ⟨g2037, 1, none⟩) (by dsimp only; omega) (.slice Ai n ci))
    have k2063 := Lib.hid (Blk.far (Blk.far (k2051.out) (p := ⟨g2037, 0, none⟩) (by dsimp only; omega) (.int .i64 (c + d + 1 - (p2 - p1)))) (p := ⟨g2037, 1, none⟩) (by dsimp only; omega) (.slice Ai n ci))
    have k2064 := Lib.hid (Blk.far (Blk.far (k2052.out) (p := ⟨g2037, 0, none⟩) (by dsimp only; omega) (.int .i64 (c + d + 1 - (p2 - p1)))) (p := ⟨g2037, 1, none⟩) (by dsimp only; omega) (.slice Ai n ci))
    have k2065 := Lib.hid (Below.setCell (Below.setCell (k2054.out) (p := ⟨g2037, 0, none⟩) (by dsimp only; omega) (.int .i64 (c + d + 1 - (p2 - p1)))) (p := ⟨g2037, 1, none⟩) (by dsimp only; omega) (.slice Ai n ci))
    have k2066 := Lib.hid (own_far (own_far (OWA.out) (a := ⟨g2037, 0, none⟩) (own_ne (OWA.out) (k2053.out) (by decide)) (.int .i64 (c + d + 1 - (p2 - p1)))) (a := ⟨g2037, 1, none⟩) (own_ne (own_far (OWA.out) (a := ⟨g2037, 0, none⟩) (own_ne (OWA.out) (k2053.out) (by decide)) (.int .i64 (c + d + 1 - (p2 - p1)))) (Blk.set_ (k2053.out) 0 (.int .i64 (c + d + 1 - (p2 - p1)))) (by decide)) (.slice Ai n ci))
    obtain ⟨w2067, hw2068⟩ : ∃ w', w' = (((w2048).setCell ⟨g2037, 0, none⟩ (.int .i64 (c + d + 1 - (p2 - p1)))).setCell ⟨g2037, 1, none⟩ (.slice Ai n ci)) := ⟨_, rfl⟩
    rw [← hw2068] at k2060 k2061 k2062 k2063 k2064 k2065 k2066
    rw [← hw2068]
    clear hw2068 v2056 f2057 v2058 f2059 hlt_
    clear hge_
    refine hK.out _ _ ⟨k2061.out, k2062.out⟩ (fun _ => ?_); clear hK K
    try simp only [Act.put, qsA, qsZ, qsS]
    refine wpAnyH_done (by kernel_rfl) ?_ _
    go_wp2
    go_meet
    exact ⟨_, Ai, ci, rfl, k2066.out, k2060.out, HGE.out, k2061.out, k2062.out, k2063.out, k2064.out, k2065.out⟩
   exact AllReadyH.nil
  refine rdH rfl (fun K hK => ?_) ?_
  · -- 14: alloc
   go_simp
   have hbz_ := Lib.hid (Nat.lt_of_lt_of_le (Blk.lt (bz_5.out)) (Nat.le_refl _))
   have lb2073 := Lib.hid (bel_1.out.size)
   have ne2074 := Lib.hid (Nat.ne_of_lt (Blk.lt ba_2.out))
   have ne2075 := Lib.hid (Nat.ne_of_lt (Blk.lt bb_3.out))
   have ne2076 := Lib.hid (Nat.ne_of_lt (Blk.lt bp_4.out))
   have ne2077 := Lib.hid (Nat.ne_of_lt (Blk.lt bz_5.out))
   obtain ⟨o_, ho_⟩ : ∃ o, o = (.cells #[.int .i64 0, .slice none 0 0] 46 : Obj) := ⟨_, rfl⟩
   replace bel_1 := bA bel_1 o_
   replace ba_2 := kA ba_2 o_
   replace bb_3 := kA bb_3 o_
   replace bp_4 := kA bp_4 o_
   replace bz_5 := kA bz_5 o_
   subst ho_
   have bs_2078 := Lib.hid (Blk.new (w1983) 46 #[.int .i64 0, .slice none 0 0])
   obtain ⟨g2069, hg2070⟩ : ∃ g, g = (w1983).heap.size := ⟨_, rfl⟩
   obtain ⟨w2071, hw2072⟩ : ∃ w', w' = (w1983).alloc (.cells #[.int .i64 0, .slice none 0 0] 46) := ⟨_, rfl⟩
   rw [← hw2072] at bel_1 ba_2 bb_3 bp_4 bz_5 bs_2078
   rw [← hg2070] at lb2073 ne2074 ne2075 ne2076 ne2077 bs_2078 hbz_
   rw [← hg2070, ← hw2072]
   clear hg2070 hw2072
   have lt2079 := hbz_; clear hbz_
   refine hK.out _ _ ⟨ba_2.out, bb_3.out⟩ (fun _ => ?_); clear hK K
   try simp only [Act.put, qsA, qsZ, qsS]
   refine oneH 9 rfl fun K hK => ?_
   go_simp
   have how_ := World.ownsRow_lit (w2071) (e := 30) (size := 4) #[] 0 (Nat.le_refl _) (by unfold maxLen; omega) rfl
   have how_ := owns_base how_ (show (w.heap.size + 1 + 1 + 1 + 1) ≤ _ from Nat.succ_le_of_lt (Blk.lt (bz_5.out)))
   have lb2084 := Lib.hid (bel_1.out.size)
   have ne2085 := Lib.hid (Nat.ne_of_lt (Blk.lt ba_2.out))
   have ne2086 := Lib.hid (Nat.ne_of_lt (Blk.lt bb_3.out))
   have ne2087 := Lib.hid (Nat.ne_of_lt (Blk.lt bp_4.out))
   have ne2088 := Lib.hid (Nat.ne_of_lt (Blk.lt bz_5.out))
   have ne2089 := Lib.hid (Nat.ne_of_lt (Blk.lt bs_2078.out))
   obtain ⟨o_, ho_⟩ : ∃ o, o = (.cells #[] 30 : Obj) := ⟨_, rfl⟩
   replace bel_1 := bA bel_1 o_
   replace ba_2 := kA ba_2 o_
   replace bb_3 := kA bb_3 o_
   replace bp_4 := kA bp_4 o_
   replace bz_5 := kA bz_5 o_
   replace bs_2078 := kA bs_2078 o_
   subst ho_
   have gl_2090 := Lib.hid (Blk.new (w2071) 30 #[])
   obtain ⟨g2080, hg2081⟩ : ∃ g, g = (w2071).heap.size := ⟨_, rfl⟩
   obtain ⟨w2082, hw2083⟩ : ∃ w', w' = (w2071).alloc (.cells #[] 30) := ⟨_, rfl⟩
   rw [← hw2083] at bel_1 ba_2 bb_3 bp_4 bz_5 bs_2078 gl_2090 how_
   rw [← hg2081] at lb2084 ne2085 ne2086 ne2087 ne2088 ne2089 gl_2090 how_
   rw [← hg2081, ← hw2083]
   clear hg2081 hw2083
   have OWL := Lib.hid how_; clear how_
   refine hK.out _ _ ⟨ba_2.out, bb_3.out⟩ (fun _ => ?_); clear hK K
   try simp only [Act.put, qsA, qsZ, qsS]
   refine oneH 12 rfl fun K hK => ?_
   refine wp_append_lit (.tmp 78) (.tmp 80) rfl (w.heap.size + 1 + 1 + 1 + 1) _ (OWL.out) rfl A n k ws (RdB.below RA0.out (bel_1.out)) hl1 rfl (Nat.succ_le_of_lt (Blk.lt (bz_5.out))) ?_
   intro Ai ci w2091 hown5_ hg5_
   have k2092 := Lib.hid (blk_grown (ba_2.out) hg5_ (fun e => by have h_ := (World.ownsRow.lt (OWL.out) _ e).1; omega))
   have k2093 := Lib.hid (blk_grown (bb_3.out) hg5_ (fun e => by have h_ := (World.ownsRow.lt (OWL.out) _ e).1; omega))
   have k2094 := Lib.hid (blk_grown (bp_4.out) hg5_ (fun e => by have h_ := (World.ownsRow.lt (OWL.out) _ e).1; omega))
   have k2095 := Lib.hid (blk_grown (bz_5.out) hg5_ (fun e => by have h_ := (World.ownsRow.lt (OWL.out) _ e).1; omega))
   have k2096 := Lib.hid (blk_grown (bs_2078.out) hg5_ (own_ne (OWL.out) (bs_2078.out) (by decide)))
   have k2097 := Lib.hid (Below.grown (bel_1.out) hg5_ (Below.size (bel_1.out)) (fun q e => by have h_ := (World.ownsRow.lt (OWL.out) q e).1; omega))
   have OWA := Lib.hid hown5_
   clear hown5_ hg5_
   refine hK.out _ _ ⟨k2092.out, k2093.out⟩ (fun _ => ?_); clear hK K
   try simp only [Act.put, qsA, qsZ, qsS]
   refine' twH 13 ⟨k2092.out, k2093.out⟩ ?_
   try simp only [Act.put, qsA, qsZ, qsS]
   refine oneH 15 rfl fun K hK => ?_
   have HGE := Lib.hid (show (w.heap.size + 1 + 1 + 1 + 1) ≤ g2069 from by have h1_ := lt2079.out; omega)
   have hge_ := HGE.out
   obtain ⟨hw1, hw2, hw3, hw4⟩ := HWS.out
   have v2099 : (w2091).cell? ⟨g2069, 0, none⟩ = some (.int .i64 0) := Blk.cell (k2096.out) 0
   have f2100 : (w2091).frozen? ⟨g2069, 0, none⟩ = false := Blk.frozen (k2096.out) 0
   have v2101 : (w2091).cell? ⟨g2069, 1, none⟩ = some (.slice none 0 0) := Blk.cell (k2096.out) 1
   have f2102 : (w2091).frozen? ⟨g2069, 1, none⟩ = false := Blk.frozen (k2096.out) 1
   have hlt_ := Blk.lt (k2096.out)
   go_simp
   try simp only [hw1, hw2, hw3, hw4]
   clear hw1 hw2 hw3 hw4
   have k2103 := Lib.hid (Blk.set_ (Blk.set_ (k2096.out) 0 (.int .i64 (c + d + 1 - (p2 - p1)))) 1 (.slice Ai n ci))
   have k2104 := Lib.hid (Blk.far (Blk.far (k2092.out) (p := ⟨g2069, 0, none⟩) (by dsimp only; omega) (.int .i64 (c + d + 1 - (p2 - p1)))) (p := ⟨g2069, 1, none⟩) (by dsimp only; omega) (.slice Ai n ci))
   have k2105 := Lib.hid (Blk.far (Blk.far (k2093.out) (p := ⟨g2069, 0, none⟩) (by dsimp only; omega) (.int .i64 (c + d + 1 - (p2 - p1)))) (p := ⟨g2069, 1, none⟩) (by dsimp only; omega) (.slice Ai n ci))
   have k2106 := Lib.hid (Blk.far (Blk.far (k2094.out) (p := ⟨g2069, 0, none⟩) (by dsimp only; omega) (.int .i64 (c + d + 1 - (p2 - p1)))) (p := ⟨g2069, 1, none⟩) (by dsimp only; omega) (.slice Ai n ci))
   have k2107 := Lib.hid (Blk.far (Blk.far (k2095.out) (p := ⟨g2069, 0, none⟩) (by dsimp only; omega) (.int .i64 (c + d + 1 - (p2 - p1)))) (p := ⟨g2069, 1, none⟩) (by dsimp only; omega) (.slice Ai n ci))
   have k2108 := Lib.hid (Below.setCell (Below.setCell (k2097.out) (p := ⟨g2069, 0, none⟩) (by dsimp only; omega) (.int .i64 (c + d + 1 - (p2 - p1)))) (p := ⟨g2069, 1, none⟩) (by dsimp only; omega) (.slice Ai n ci))
   have k2109 := Lib.hid (own_far (own_far (OWA.out) (a := ⟨g2069, 0, none⟩) (own_ne (OWA.out) (k2096.out) (by decide)) (.int .i64 (c + d + 1 - (p2 - p1)))) (a := ⟨g2069, 1, none⟩) (own_ne (own_far (OWA.out) (a := ⟨g2069, 0, none⟩) (own_ne (OWA.out) (k2096.out) (by decide)) (.int .i64 (c + d + 1 - (p2 - p1)))) (Blk.set_ (k2096.out) 0 (.int .i64 (c + d + 1 - (p2 - p1)))) (by decide)) (.slice Ai n ci))
   obtain ⟨w2110, hw2111⟩ : ∃ w', w' = (((w2091).setCell ⟨g2069, 0, none⟩ (.int .i64 (c + d + 1 - (p2 - p1)))).setCell ⟨g2069, 1, none⟩ (.slice Ai n ci)) := ⟨_, rfl⟩
   rw [← hw2111] at k2103 k2104 k2105 k2106 k2107 k2108 k2109
   rw [← hw2111]
   clear hw2111 v2099 f2100 v2101 f2102 hlt_
   clear hge_
   refine hK.out _ _ ⟨k2104.out, k2105.out⟩ (fun _ => ?_); clear hK K
   try simp only [Act.put, qsA, qsZ, qsS]
   refine wpAnyH_done (by kernel_rfl) ?_ _
   go_wp2
   go_meet
   exact ⟨_, Ai, ci, rfl, k2109.out, k2103.out, HGE.out, k2104.out, k2105.out, k2106.out, k2107.out, k2108.out⟩
  exact AllReadyH.nil
 case rest =>
  obtain ⟨gs, Ai, ci, rfl, kow, kbs, hgs, kba, kbb, kbp, kbz, kbel⟩ := hcut
  clear bel_1 ba_2 bb_3 bp_4 bz_5
  have ow_5001 := Lib.hid (kow)
  have bs_5002 := Lib.hid (kbs)
  have ba_5003 := Lib.hid (kba)
  have bb_5004 := Lib.hid (kbb)
  have bp_5005 := Lib.hid (kbp)
  have bz_5006 := Lib.hid (kbz)
  have bel_5007 := Lib.hid (kbel)
  clear kow kbs kba kbb kbp kbz kbel
  obtain ⟨z_5008, z_5009, z_5010⟩ := at3 ba_5003
  obtain ⟨z_5011, z_5012, z_5013⟩ := at3 bb_5004
  obtain ⟨z_5014, z_5015, z_5016, z_5017⟩ := at4 bp_5005
  obtain ⟨z_5018, z_5019⟩ := at2 bz_5006
  obtain ⟨z_5020, z_5021⟩ := at2 bs_5002
  go_wp2
  clear z_5008 z_5009 z_5010 z_5011 z_5012 z_5013 z_5014 z_5015 z_5016 z_5017 z_5018 z_5019 z_5020 z_5021
  go_loopw [14] (fun i wr => ∃ (q : Nat) (Ax : Option Addr) (cx : Nat), q ≤ n2 ∧ i = .int .i64 q ∧ wr.ownsRow (w.heap.size + 1 + 1 + 1 + 1) 30 4 (.slice Ax (n + q) cx) (n + q) (bcells (ws ++ (ws2.take q).map (wayB ⟨c, ws, ts⟩ ⟨p1, p2, p3, p4⟩))) ∧ Blk wr gs 46 #[.int .i64 (c + d + 1 - (p2 - p1)), .slice Ax (n + q) cx] ∧ (w.heap.size + 1 + 1 + 1 + 1) ≤ gs ∧ Blk wr (w.heap.size) 24 #[.int .i64 c, .slice A n k, .slice B m j] ∧ Blk wr (w.heap.size + 1) 24 #[.int .i64 d, .slice C n2 k2, .slice D m2 j2] ∧ Blk wr (w.heap.size + 1 + 1) 28 #[.int .i64 p1, .int .i64 p2, .int .i64 p3, .int .i64 p4] ∧ Blk wr (w.heap.size + 1 + 1 + 1) 46 #[.int .i64 0, .slice none 0 0] ∧ Below w.heap.size w wr) (fun i _ => n2 - (intOf i).toNat)
  case atStart => exact ⟨0, Ai, ci, Nat.zero_le _, rfl, by simpa using ow_5001.out, bs_5002.out, hgs, ba_5003.out, bb_5004.out, bp_5005.out, bz_5006.out, bel_5007.out⟩
  case round =>
   clear ow_5001 bs_5002 ba_5003 bb_5004 bp_5005 bz_5006 bel_5007
   obtain ⟨q, Ax, cx, hq, rfl, kow, kbs, -, kba, kbb, kbp, kbz, kbel⟩ := hrel
   obtain ⟨wo, rfl⟩ : ∃ wo, wo = wr := ⟨wr, rfl⟩
   have ow_7001 := Lib.hid (kow)
   have bs_7002 := Lib.hid (kbs)
   have ba_7003 := Lib.hid (kba)
   have bb_7004 := Lib.hid (kbb)
   have bp_7005 := Lib.hid (kbp)
   have bz_7006 := Lib.hid (kbz)
   have bel_7007 := Lib.hid (kbel)
   clear kow kbs kba kbb kbp kbz kbel
   obtain ⟨z_7008, z_7009, z_7010⟩ := at3 ba_7003
   obtain ⟨z_7011, z_7012, z_7013⟩ := at3 bb_7004
   obtain ⟨z_7014, z_7015, z_7016, z_7017⟩ := at4 bp_7005
   obtain ⟨z_7018, z_7019⟩ := at2 bz_7006
   obtain ⟨z_7020, z_7021⟩ := at2 bs_7002
   by_cases hlt : q < n2
   · have hlt' : (q : Int) < n2 := by omega
     have hlen := RB0.out.len
     obtain ⟨⟨f, t, mm, ib⟩, hx⟩ : ∃ b, ws2[q]? = some b := ⟨ws2[q]'(by omega), List.getElem?_eq_getElem _⟩
     obtain ⟨o1, o2, o3, o4⟩ := hok _ (List.mem_of_getElem? hx)
     dsimp only at o1 o2 o3 o4
     obtain ⟨bb_, ob, hBB⟩ := rdB_some RB0.out hx
     subst hBB
     obtain ⟨e0, e1, e2, e3, el⟩ := rdB_at (RdB.below RB0.out bel_7007.out) hx
     obtain ⟨v1, hv1⟩ : ∃ v, ren (c + 1) p1 p3 p4 t = v := ⟨_, rfl⟩
     obtain ⟨v2, hv2⟩ : ∃ v, ren (c + 1) p1 p3 p4 f = v := ⟨_, rfl⟩
     have htk : (ws2.take (q + 1)).map (wayB ⟨c, ws, ts⟩ ⟨p1, p2, p3, p4⟩) = (ws2.take q).map (wayB ⟨c, ws, ts⟩ ⟨p1, p2, p3, p4⟩) ++ [⟨v1, v2, mm, ib⟩] := by rw [List.take_add_one, hx, List.map_append, ← hv1, ← hv2]; rfl
     have HTK := Lib.hid htk; clear htk hx hlen
     have HV1 := Lib.hid (fun w => rcorner_any c A B n k m j p1 p2 p3 p4 t v1 w g0 (by omega) (by omega) (by omega) (by omega) (by omega) hv1)
     have HV2 := Lib.hid (fun w => rcorner_any c A B n k m j p1 p2 p3 p4 f v2 w g0 (by omega) (by omega) (by omega) (by omega) (by omega) hv2)
     clear hv1 hv2 o1 o2 o3 o4
     have hnx_ := fun y h => (World.ownsRow.lt ow_7001.out y h).2
     have HNX := Lib.hid hnx_; clear hnx_
     have hgo_ := Blk.lt bs_7002.out
     go_upto_region 15 with fail
     clear e0 e1 e2 e3 el
     clear z_7008 z_7009 z_7010 z_7011 z_7012 z_7013 z_7014 z_7015 z_7016 z_7017 z_7018 z_7019 z_7020 z_7021
     obtain ⟨o_, ho_⟩ : ∃ o, o = ((.cells #[.int .i64 f, .int .i64 t, .int .i64 mm, .int .i64 ib] 30) : Obj) := ⟨_, rfl⟩
     replace ow_7001 := Lib.hid (World.ownsRow.alloc (ow_7001.out) (o_))
     replace bs_7002 := kA bs_7002 o_
     replace ba_7003 := kA ba_7003 o_
     replace bb_7004 := kA bb_7004 o_
     replace bp_7005 := kA bp_7005 o_
     replace bz_7006 := kA bz_7006 o_
     replace bel_7007 := bA bel_7007 o_
     subst ho_
     have xb_8022 := Lib.hid (Blk.new wo 30 #[.int .i64 f, .int .i64 t, .int .i64 mm, .int .i64 ib])
     obtain ⟨xg, hxg⟩ : ∃ xg, wo.heap.size = xg := ⟨_, rfl⟩
     obtain ⟨w2, hW2⟩ : ∃ w', w' = (wo.alloc (.cells #[.int .i64 f, .int .i64 t, .int .i64 mm, .int .i64 ib] 30)) := ⟨_, rfl⟩
     rw [← hW2] at ow_7001 bs_7002 ba_7003 bb_7004 bp_7005 bz_7006 bel_7007 xb_8022
     rw [← hW2]
     rw [hxg] at xb_8022 HNX hgo_ ⊢
     clear hW2 hxg
     have HGO := Lib.hid hgo_; clear hgo_
     replace ow_7001 := Lib.hid (World.ownsRow.drew (ow_7001.out))
     replace bs_7002 := kD bs_7002
     replace ba_7003 := kD ba_7003
     replace bb_7004 := kD bb_7004
     replace bp_7005 := kD bp_7005
     replace bz_7006 := kD bz_7006
     replace bel_7007 := bD bel_7007
     replace xb_8022 := kD xb_8022
     refine wp_region_held_drew (S := (fun W' => Blk W' (w.heap.size) 24 #[.int .i64 c, .slice A n k, .slice B m j] ∧ Blk W' (w.heap.size + 1 + 1) 28 #[.int .i64 p1, .int .i64 p2, .int .i64 p3, .int .i64 p4] ∧ Blk W' (xg) 30 #[.int .i64 f, .int .i64 t, .int .i64 mm, .int .i64 ib])) (by kernel_rfl) ⟨ba_7003.out, bp_7005.out, xb_8022.out⟩ (fun _ => ?_)
     obtain ⟨w2112, hw2113⟩ : ∃ w', w' = (w2.drew) := ⟨_, rfl⟩
     rw [← hw2113] at ow_7001 bs_7002 ba_7003 bb_7004 bp_7005 bz_7006 bel_7007 xb_8022
     rw [← hw2113]
     clear hw2113
     refine' twH 0 ⟨ba_7003.out, bp_7005.out, xb_8022.out⟩ ?_
     refine' tkH 2 ⟨ba_7003.out, bp_7005.out, xb_8022.out⟩ ?hyR2115 ?_
     case hyR2115 => (rintro W' ⟨hS0, hS1, hS2⟩; have hc0 := Blk.nth hS0 0; have hc1 := Blk.nth hS0 1; have hc2 := Blk.nth hS0 2; clear hS0 hS1 hS2; go_simp; try with_reducible rfl)
     refine' tkH 3 ⟨ba_7003.out, bp_7005.out, xb_8022.out⟩ ?hyR2116 ?_
     case hyR2116 => (rintro W' ⟨hS0, hS1, hS2⟩; have hc0 := Blk.nth hS1 0; have hc1 := Blk.nth hS1 1; have hc2 := Blk.nth hS1 2; have hc3 := Blk.nth hS1 3; clear hS0 hS1 hS2; go_simp; try with_reducible rfl)
     refine' twH 4 ⟨ba_7003.out, bp_7005.out, xb_8022.out⟩ ?_
     try simp only [Act.put, qsA, qsZ, qsS]
     refine' tkH 5 ⟨ba_7003.out, bp_7005.out, xb_8022.out⟩ ?hyR2118 ?_
     case hyR2118 => (rintro W' ⟨hS0, hS1, hS2⟩; have hc0 := Blk.nth hS2 1; clear hS0 hS1 hS2; go_simp; try with_reducible rfl)
     refine' tkH 7 ⟨ba_7003.out, bp_7005.out, xb_8022.out⟩ ?hyR2119 ?_
     case hyR2119 => (rintro W' ⟨hS0, hS1, hS2⟩; have hc0 := Blk.nth hS0 0; have hc1 := Blk.nth hS0 1; have hc2 := Blk.nth hS0 2; clear hS0 hS1 hS2; go_simp; try with_reducible rfl)
     refine' tkH 8 ⟨ba_7003.out, bp_7005.out, xb_8022.out⟩ ?hyR2120 ?_
     case hyR2120 => (rintro W' ⟨hS0, hS1, hS2⟩; have hc0 := Blk.nth hS1 0; have hc1 := Blk.nth hS1 1; have hc2 := Blk.nth hS1 2; have hc3 := Blk.nth hS1 3; clear hS0 hS1 hS2; go_simp; try with_reducible rfl)
     refine' twH 9 ⟨ba_7003.out, bp_7005.out, xb_8022.out⟩ ?_
     try simp only [Act.put, qsA, qsZ, qsS]
     refine' tkH 10 ⟨ba_7003.out, bp_7005.out, xb_8022.out⟩ ?hyR2122 ?_
     case hyR2122 => (rintro W' ⟨hS0, hS1, hS2⟩; have hc0 := Blk.nth hS2 0; clear hS0 hS1 hS2; go_simp; try with_reducible rfl)
     refine' twH 12 ⟨ba_7003.out, bp_7005.out, xb_8022.out⟩ ?_
     refine' tkH 13 ⟨ba_7003.out, bp_7005.out, xb_8022.out⟩ ?hyR2124 ?_
     case hyR2124 => (rintro W' ⟨hS0, hS1, hS2⟩; have hc0 := Blk.nth hS2 2; clear hS0 hS1 hS2; go_simp; try with_reducible rfl)
     refine' twH 14 ⟨ba_7003.out, bp_7005.out, xb_8022.out⟩ ?_
     try simp only [Act.put, qsA, qsZ, qsS]
     refine' tkH 15 ⟨ba_7003.out, bp_7005.out, xb_8022.out⟩ ?hyR2126 ?_
     case hyR2126 => (rintro W' ⟨hS0, hS1, hS2⟩; have hc0 := Blk.nth hS2 3; clear hS0 hS1 hS2; go_simp; try with_reducible rfl)
     try simp only [Act.put, qsA, qsZ, qsS]
     refine wpAnyH_ready (rs := [1, 6]) (by kernel_rfl) (by simp) ?_
     refine rdH rfl (fun K hK => ?_) ?_
     · -- 1: load
      have cs_ : (w2112).cell? ⟨gs, 1, none⟩ = some (.slice Ax (n + q) cx) := Blk.cell (bs_7002.out) 1
      go_simp
      clear cs_
      refine hK.out _ _ ⟨ba_7003.out, bp_7005.out, xb_8022.out⟩ (fun _ => ?_); clear hK K
      try simp only [Act.put, qsA, qsZ, qsS]
      refine oneH 6 rfl fun K hK => ?_
      go_simp
      go_at_call 113
      refine (HV1.out _).mono ?_
      rintro e w2127 ⟨rfl, hb2128⟩
      dsimp only
      replace hb2128 := Lib.hid hb2128
      replace ba_7003 := kH ba_7003 hb2128
      replace bp_7005 := kH bp_7005 hb2128
      replace xb_8022 := kH xb_8022 hb2128
      refine hK.out _ _ ⟨ba_7003.out, bp_7005.out, xb_8022.out⟩ (fun _ => ?_); clear hK K
      try simp only [Act.put, qsA, qsZ, qsS]
      refine oneH 11 rfl fun K hK => ?_
      go_simp
      go_at_call 113
      refine (HV2.out _).mono ?_
      rintro e w2129 ⟨rfl, hb2130⟩
      dsimp only
      replace hb2130 := Lib.hid hb2130
      replace ba_7003 := kH ba_7003 hb2130
      replace bp_7005 := kH bp_7005 hb2130
      replace xb_8022 := kH xb_8022 hb2130
      refine hK.out _ _ ⟨ba_7003.out, bp_7005.out, xb_8022.out⟩ (fun _ => ?_); clear hK K
      try simp only [Act.put, qsA, qsZ, qsS]
      refine' twH 16 ⟨ba_7003.out, bp_7005.out, xb_8022.out⟩ ?_
      try simp only [Act.put, qsA, qsZ, qsS]
      refine oneH 17 rfl fun K hK => ?_
      replace ow_7001 := Lib.hid (owns_below (owns_below (ow_7001.out) hb2128.out) hb2130.out)
      replace bs_7002 := kH (kH bs_7002 hb2128) hb2130
      replace bb_7004 := kH (kH bb_7004 hb2128) hb2130
      replace bz_7006 := kH (kH bz_7006 hb2128) hb2130
      replace bel_7007 := bH (bH bel_7007 hb2128) hb2130
      go_simp
      have ne2136 := Lib.hid (Nat.ne_of_lt (Blk.lt bs_7002.out))
      have ne2137 := Lib.hid (Nat.ne_of_lt (Blk.lt ba_7003.out))
      have ne2138 := Lib.hid (Nat.ne_of_lt (Blk.lt bb_7004.out))
      have ne2139 := Lib.hid (Nat.ne_of_lt (Blk.lt bp_7005.out))
      have ne2140 := Lib.hid (Nat.ne_of_lt (Blk.lt bz_7006.out))
      have lb2141 := Lib.hid (bel_7007.out.size)
      have ne2142 := Lib.hid (Nat.ne_of_lt (Blk.lt xb_8022.out))
      obtain ⟨o_, ho_⟩ : ∃ o, o = (.cells #[.int .i64 v1, .int .i64 v2, .int .i64 mm, .int .i64 ib] 30 : Obj) := ⟨_, rfl⟩
      replace ow_7001 := Lib.hid (World.ownsRow.alloc (ow_7001.out) (o_))
      replace bs_7002 := kA bs_7002 o_
      replace ba_7003 := kA ba_7003 o_
      replace bb_7004 := kA bb_7004 o_
      replace bp_7005 := kA bp_7005 o_
      replace bz_7006 := kA bz_7006 o_
      replace bel_7007 := bA bel_7007 o_
      replace xb_8022 := kA xb_8022 o_
      subst ho_
      have nb_2143 := Lib.hid (Blk.new (w2129) 30 #[.int .i64 v1, .int .i64 v2, .int .i64 mm, .int .i64 ib])
      obtain ⟨g2132, hg2133⟩ : ∃ g, g = (w2129).heap.size := ⟨_, rfl⟩
      obtain ⟨w2134, hw2135⟩ : ∃ w', w' = (w2129).alloc (.cells #[.int .i64 v1, .int .i64 v2, .int .i64 mm, .int .i64 ib] 30) := ⟨_, rfl⟩
      rw [← hw2135] at ow_7001 bs_7002 ba_7003 bb_7004 bp_7005 bz_7006 bel_7007 xb_8022 nb_2143
      rw [← hg2133] at ne2136 ne2137 ne2138 ne2139 ne2140 lb2141 ne2142 nb_2143
      rw [← hg2133, ← hw2135]
      clear hg2133 hw2135
      refine hK.out _ _ ⟨ba_7003.out, bp_7005.out, xb_8022.out⟩ (fun _ => ?_); clear hK K
      try simp only [Act.put, qsA, qsZ, qsS]
      refine oneH 18 rfl fun K hK => ?_
      have hcell_ := cells_add (cs := bcells [⟨v1, v2, mm, ib⟩]) (show Blk _ _ _ (bcells [⟨v1, v2, mm, ib⟩]).toArray from nb_2143.out)
      have hbz_ := Nat.succ_le_of_lt (Blk.lt (bz_7006.out))
      refine wp_append_own _ (.tmp 96) (.tmp 112) 22 rfl (w.heap.size + 1 + 1 + 1 + 1) 30 i0 _ 4 32 Tryz.underlying22 HI.out HZ0.out HZ1.out HZ2.out rfl (by omega) _ _ _ rfl (ow_7001.out) ⟨g2132, 0, none⟩ 1 1 (bcells [⟨v1, v2, mm, ib⟩]) rfl rfl hcell_ (bcells_one _) (by unfold maxLen; omega) (by omega) hbz_ ?_
      intro v5 w2144 hown5_ hg5_ _
      obtain ⟨A5, c5, rfl, -⟩ := own_form hown5_
      have k2145 := Lib.hid (blk_grown (ba_7003.out) hg5_ (fun e => by have h_ := (World.ownsRow.lt (ow_7001.out) _ e).1; omega))
      have k2146 := Lib.hid (blk_grown (bb_7004.out) hg5_ (fun e => by have h_ := (World.ownsRow.lt (ow_7001.out) _ e).1; omega))
      have k2147 := Lib.hid (blk_grown (bp_7005.out) hg5_ (fun e => by have h_ := (World.ownsRow.lt (ow_7001.out) _ e).1; omega))
      have k2148 := Lib.hid (blk_grown (bz_7006.out) hg5_ (fun e => by have h_ := (World.ownsRow.lt (ow_7001.out) _ e).1; omega))
      have k2149 := Lib.hid (blk_grown (bs_7002.out) hg5_ (own_ne (ow_7001.out) (bs_7002.out) (by decide)))
      have k2150 := Lib.hid (Below.grown (bel_7007.out) hg5_ (Below.size (bel_7007.out)) (fun q e => by have h_ := (World.ownsRow.lt (ow_7001.out) q e).1; omega))
      have k2151 := Lib.hid (blk_grown (xb_8022.out) hg5_ (fun e => absurd (HNX.out _ e) (Nat.lt_irrefl _)))
      have OW5 := Lib.hid (show World.ownsRow w2144 (w.heap.size + 1 + 1 + 1 + 1) 30 4 (.slice A5 (n + q + 1) c5) (n + q + 1) (bcells (ws ++ (ws2.take (q + 1)).map (wayB ⟨c, ws, ts⟩ ⟨p1, p2, p3, p4⟩))) from by rw [HTK.out, ← List.append_assoc, bcells_append]; exact hown5_)
      clear hown5_ hg5_ hcell_ hbz_
      refine hK.out _ _ ⟨k2145.out, k2147.out, k2151.out⟩ (fun _ => ?_); clear hK K
      try simp only [Act.put, qsA, qsZ, qsS]
      refine' twH 19 ⟨k2145.out, k2147.out, k2151.out⟩ ?_
      try simp only [Act.put, qsA, qsZ, qsS]
      refine oneH 20 rfl fun K hK => ?_
      have hgo_ := HGO.out
      have v2153 : (w2144).cell? ⟨gs, 1, none⟩ = some (.slice Ax (n + q) cx) := Blk.cell (k2149.out) 1
      have f2154 : (w2144).frozen? ⟨gs, 1, none⟩ = false := Blk.frozen (k2149.out) 1
      have hlt_ := Blk.lt (k2149.out)
      go_simp
      have k2155 := Lib.hid (Blk.set_ (k2149.out) 1 (.slice A5 (n + q + 1) c5))
      have k2156 := Lib.hid (Blk.far (k2145.out) (p := ⟨gs, 1, none⟩) (by dsimp only; omega) (.slice A5 (n + q + 1) c5))
      have k2157 := Lib.hid (Blk.far (k2146.out) (p := ⟨gs, 1, none⟩) (by dsimp only; omega) (.slice A5 (n + q + 1) c5))
      have k2158 := Lib.hid (Blk.far (k2147.out) (p := ⟨gs, 1, none⟩) (by dsimp only; omega) (.slice A5 (n + q + 1) c5))
      have k2159 := Lib.hid (Blk.far (k2148.out) (p := ⟨gs, 1, none⟩) (by dsimp only; omega) (.slice A5 (n + q + 1) c5))
      have k2160 := Lib.hid (Blk.far (k2151.out) (p := ⟨gs, 1, none⟩) (by dsimp only; omega) (.slice A5 (n + q + 1) c5))
      have k2161 := Lib.hid (Below.setCell (k2150.out) (p := ⟨gs, 1, none⟩) (by dsimp only; omega) (.slice A5 (n + q + 1) c5))
      have k2162 := Lib.hid (own_far (OW5.out) (a := ⟨gs, 1, none⟩) (own_ne (OW5.out) (k2149.out) (by decide)) (.slice A5 (n + q + 1) c5))
      obtain ⟨w2163, hw2164⟩ : ∃ w', w' = ((w2144).setCell ⟨gs, 1, none⟩ (.slice A5 (n + q + 1) c5)) := ⟨_, rfl⟩
      rw [← hw2164] at k2155 k2156 k2157 k2158 k2159 k2160 k2161 k2162
      rw [← hw2164]
      clear hw2164 v2153 f2154 hlt_
      clear hgo_
      refine hK.out _ _ ⟨k2156.out, k2158.out, k2160.out⟩ (fun _ => ?_); clear hK K
      try simp only [Act.put, qsA, qsZ, qsS]
      refine wpAnyH_done (by kernel_rfl) ?_ _
      go_wp2
      go_roundw
      case rel => exact ⟨q + 1, A5, c5, by omega, by go_num, k2162.out, k2155.out, hgs, k2156.out, k2157.out, k2158.out, k2159.out, k2161.out⟩
      case measure => simp [intOf]; omega
     refine rdH rfl (fun K hK => ?_) ?_
     · -- 6: call
      go_simp
      go_at_call 113
      refine (HV1.out _).mono ?_
      rintro e w2165 ⟨rfl, hb2166⟩
      dsimp only
      replace hb2166 := Lib.hid hb2166
      replace ba_7003 := kH ba_7003 hb2166
      replace bp_7005 := kH bp_7005 hb2166
      replace xb_8022 := kH xb_8022 hb2166
      refine hK.out _ _ ⟨ba_7003.out, bp_7005.out, xb_8022.out⟩ (fun _ => ?_); clear hK K
      try simp only [Act.put, qsA, qsZ, qsS]
      refine wpAnyH_ready (rs := [1, 11]) (by kernel_rfl) (by simp) ?_
      refine rdH rfl (fun K hK => ?_) ?_
      · -- 1: load
       replace bs_7002 := kH bs_7002 hb2166
       have cs_ : (w2165).cell? ⟨gs, 1, none⟩ = some (.slice Ax (n + q) cx) := Blk.cell (bs_7002.out) 1
       go_simp
       clear cs_
       refine hK.out _ _ ⟨ba_7003.out, bp_7005.out, xb_8022.out⟩ (fun _ => ?_); clear hK K
       try simp only [Act.put, qsA, qsZ, qsS]
       refine oneH 11 rfl fun K hK => ?_
       go_simp
       go_at_call 113
       refine (HV2.out _).mono ?_
       rintro e w2167 ⟨rfl, hb2168⟩
       dsimp only
       replace hb2168 := Lib.hid hb2168
       replace ba_7003 := kH ba_7003 hb2168
       replace bp_7005 := kH bp_7005 hb2168
       replace xb_8022 := kH xb_8022 hb2168
       refine hK.out _ _ ⟨ba_7003.out, bp_7005.out, xb_8022.out⟩ (fun _ => ?_); clear hK K
       try simp only [Act.put, qsA, qsZ, qsS]
       refine' twH 16 ⟨ba_7003.out, bp_7005.out, xb_8022.out⟩ ?_
       try simp only [Act.put, qsA, qsZ, qsS]
       refine oneH 17 rfl fun K hK => ?_
       replace ow_7001 := Lib.hid (owns_below (owns_below (ow_7001.out) hb2166.out) hb2168.out)
       replace bs_7002 := kH bs_7002 hb2168
       replace bb_7004 := kH (kH bb_7004 hb2166) hb2168
       replace bz_7006 := kH (kH bz_7006 hb2166) hb2168
       replace bel_7007 := bH (bH bel_7007 hb2166) hb2168
       go_simp
       have ne2174 := Lib.hid (Nat.ne_of_lt (Blk.lt bs_7002.out))
       have ne2175 := Lib.hid (Nat.ne_of_lt (Blk.lt ba_7003.out))
       have ne2176 := Lib.hid (Nat.ne_of_lt (Blk.lt bb_7004.out))
       have ne2177 := Lib.hid (Nat.ne_of_lt (Blk.lt bp_7005.out))
       have ne2178 := Lib.hid (Nat.ne_of_lt (Blk.lt bz_7006.out))
       have lb2179 := Lib.hid (bel_7007.out.size)
       have ne2180 := Lib.hid (Nat.ne_of_lt (Blk.lt xb_8022.out))
       obtain ⟨o_, ho_⟩ : ∃ o, o = (.cells #[.int .i64 v1, .int .i64 v2, .int .i64 mm, .int .i64 ib] 30 : Obj) := ⟨_, rfl⟩
       replace ow_7001 := Lib.hid (World.ownsRow.alloc (ow_7001.out) (o_))
       replace bs_7002 := kA bs_7002 o_
       replace ba_7003 := kA ba_7003 o_
       replace bb_7004 := kA bb_7004 o_
       replace bp_7005 := kA bp_7005 o_
       replace bz_7006 := kA bz_7006 o_
       replace bel_7007 := bA bel_7007 o_
       replace xb_8022 := kA xb_8022 o_
       subst ho_
       have nb_2181 := Lib.hid (Blk.new (w2167) 30 #[.int .i64 v1, .int .i64 v2, .int .i64 mm, .int .i64 ib])
       obtain ⟨g2170, hg2171⟩ : ∃ g, g = (w2167).heap.size := ⟨_, rfl⟩
       obtain ⟨w2172, hw2173⟩ : ∃ w', w' = (w2167).alloc (.cells #[.int .i64 v1, .int .i64 v2, .int .i64 mm, .int .i64 ib] 30) := ⟨_, rfl⟩
       rw [← hw2173] at ow_7001 bs_7002 ba_7003 bb_7004 bp_7005 bz_7006 bel_7007 xb_8022 nb_2181
       rw [← hg2171] at ne2174 ne2175 ne2176 ne2177 ne2178 lb2179 ne2180 nb_2181
       rw [← hg2171, ← hw2173]
       clear hg2171 hw2173
       refine hK.out _ _ ⟨ba_7003.out, bp_7005.out, xb_8022.out⟩ (fun _ => ?_); clear hK K
       try simp only [Act.put, qsA, qsZ, qsS]
       refine oneH 18 rfl fun K hK => ?_
       have hcell_ := cells_add (cs := bcells [⟨v1, v2, mm, ib⟩]) (show Blk _ _ _ (bcells [⟨v1, v2, mm, ib⟩]).toArray from nb_2181.out)
       have hbz_ := Nat.succ_le_of_lt (Blk.lt (bz_7006.out))
       refine wp_append_own _ (.tmp 96) (.tmp 112) 22 rfl (w.heap.size + 1 + 1 + 1 + 1) 30 i0 _ 4 32 Tryz.underlying22 HI.out HZ0.out HZ1.out HZ2.out rfl (by omega) _ _ _ rfl (ow_7001.out) ⟨g2170, 0, none⟩ 1 1 (bcells [⟨v1, v2, mm, ib⟩]) rfl rfl hcell_ (bcells_one _) (by unfold maxLen; omega) (by omega) hbz_ ?_
       intro v5 w2182 hown5_ hg5_ _
       obtain ⟨A5, c5, rfl, -⟩ := own_form hown5_
       have k2183 := Lib.hid (blk_grown (ba_7003.out) hg5_ (fun e => by have h_ := (World.ownsRow.lt (ow_7001.out) _ e).1; omega))
       have k2184 := Lib.hid (blk_grown (bb_7004.out) hg5_ (fun e => by have h_ := (World.ownsRow.lt (ow_7001.out) _ e).1; omega))
       have k2185 := Lib.hid (blk_grown (bp_7005.out) hg5_ (fun e => by have h_ := (World.ownsRow.lt (ow_7001.out) _ e).1; omega))
       have k2186 := Lib.hid (blk_grown (bz_7006.out) hg5_ (fun e => by have h_ := (World.ownsRow.lt (ow_7001.out) _ e).1; omega))
       have k2187 := Lib.hid (blk_grown (bs_7002.out) hg5_ (own_ne (ow_7001.out) (bs_7002.out) (by decide)))
       have k2188 := Lib.hid (Below.grown (bel_7007.out) hg5_ (Below.size (bel_7007.out)) (fun q e => by have h_ := (World.ownsRow.lt (ow_7001.out) q e).1; omega))
       have k2189 := Lib.hid (blk_grown (xb_8022.out) hg5_ (fun e => absurd (HNX.out _ e) (Nat.lt_irrefl _)))
       have OW5 := Lib.hid (show World.ownsRow w2182 (w.heap.size + 1 + 1 + 1 + 1) 30 4 (.slice A5 (n + q + 1) c5) (n + q + 1) (bcells (ws ++ (ws2.take (q + 1)).map (wayB ⟨c, ws, ts⟩ ⟨p1, p2, p3, p4⟩))) from by rw [HTK.out, ← List.append_assoc, bcells_append]; exact hown5_)
       clear hown5_ hg5_ hcell_ hbz_
       refine hK.out _ _ ⟨k2183.out, k2185.out, k2189.out⟩ (fun _ => ?_); clear hK K
       try simp only [Act.put, qsA, qsZ, qsS]
       refine' twH 19 ⟨k2183.out, k2185.out, k2189.out⟩ ?_
       try simp only [Act.put, qsA, qsZ, qsS]
       refine oneH 20 rfl fun K hK => ?_
       have hgo_ := HGO.out
       have v2191 : (w2182).cell? ⟨gs, 1, none⟩ = some (.slice Ax (n + q) cx) := Blk.cell (k2187.out) 1
       have f2192 : (w2182).frozen? ⟨gs, 1, none⟩ = false := Blk.frozen (k2187.out) 1
       have hlt_ := Blk.lt (k2187.out)
       go_simp
       have k2193 := Lib.hid (Blk.set_ (k2187.out) 1 (.slice A5 (n + q + 1) c5))
       have k2194 := Lib.hid (Blk.far (k2183.out) (p := ⟨gs, 1, none⟩) (by dsimp only; omega) (.slice A5 (n + q + 1) c5))
       have k2195 := Lib.hid (Blk.far (k2184.out) (p := ⟨gs, 1, none⟩) (by dsimp only; omega) (.slice A5 (n + q + 1) c5))
       have k2196 := Lib.hid (Blk.far (k2185.out) (p := ⟨gs, 1, none⟩) (by dsimp only; omega) (.slice A5 (n + q + 1) c5))
       have k2197 := Lib.hid (Blk.far (k2186.out) (p := ⟨gs, 1, none⟩) (by dsimp only; omega) (.slice A5 (n + q + 1) c5))
       have k2198 := Lib.hid (Blk.far (k2189.out) (p := ⟨gs, 1, none⟩) (by dsimp only; omega) (.slice A5 (n + q + 1) c5))
       have k2199 := Lib.hid (Below.setCell (k2188.out) (p := ⟨gs, 1, none⟩) (by dsimp only; omega) (.slice A5 (n + q + 1) c5))
       have k2200 := Lib.hid (own_far (OW5.out) (a := ⟨gs, 1, none⟩) (own_ne (OW5.out) (k2187.out) (by decide)) (.slice A5 (n + q + 1) c5))
       obtain ⟨w2201, hw2202⟩ : ∃ w', w' = ((w2182).setCell ⟨gs, 1, none⟩ (.slice A5 (n + q + 1) c5)) := ⟨_, rfl⟩
       rw [← hw2202] at k2193 k2194 k2195 k2196 k2197 k2198 k2199 k2200
       rw [← hw2202]
       clear hw2202 v2191 f2192 hlt_
       clear hgo_
       refine hK.out _ _ ⟨k2194.out, k2196.out, k2198.out⟩ (fun _ => ?_); clear hK K
       try simp only [Act.put, qsA, qsZ, qsS]
       refine wpAnyH_done (by kernel_rfl) ?_ _
       go_wp2
       go_roundw
       case rel => exact ⟨q + 1, A5, c5, by omega, by go_num, k2200.out, k2193.out, hgs, k2194.out, k2195.out, k2196.out, k2197.out, k2199.out⟩
       case measure => simp [intOf]; omega
      refine rdH rfl (fun K hK => ?_) ?_
      · -- 11: call
       go_simp
       go_at_call 113
       refine (HV2.out _).mono ?_
       rintro e w2203 ⟨rfl, hb2204⟩
       dsimp only
       replace hb2204 := Lib.hid hb2204
       replace ba_7003 := kH ba_7003 hb2204
       replace bp_7005 := kH bp_7005 hb2204
       replace xb_8022 := kH xb_8022 hb2204
       refine hK.out _ _ ⟨ba_7003.out, bp_7005.out, xb_8022.out⟩ (fun _ => ?_); clear hK K
       try simp only [Act.put, qsA, qsZ, qsS]
       refine' twH 16 ⟨ba_7003.out, bp_7005.out, xb_8022.out⟩ ?_
       try simp only [Act.put, qsA, qsZ, qsS]
       refine wpAnyH_ready (rs := [1, 17]) (by kernel_rfl) (by simp) ?_
       refine rdH rfl (fun K hK => ?_) ?_
       · -- 1: load
        replace bs_7002 := kH (kH bs_7002 hb2166) hb2204
        have cs_ : (w2203).cell? ⟨gs, 1, none⟩ = some (.slice Ax (n + q) cx) := Blk.cell (bs_7002.out) 1
        go_simp
        clear cs_
        refine hK.out _ _ ⟨ba_7003.out, bp_7005.out, xb_8022.out⟩ (fun _ => ?_); clear hK K
        try simp only [Act.put, qsA, qsZ, qsS]
        refine oneH 17 rfl fun K hK => ?_
        replace ow_7001 := Lib.hid (owns_below (owns_below (ow_7001.out) hb2166.out) hb2204.out)
        replace bb_7004 := kH (kH bb_7004 hb2166) hb2204
        replace bz_7006 := kH (kH bz_7006 hb2166) hb2204
        replace bel_7007 := bH (bH bel_7007 hb2166) hb2204
        go_simp
        have ne2210 := Lib.hid (Nat.ne_of_lt (Blk.lt bs_7002.out))
        have ne2211 := Lib.hid (Nat.ne_of_lt (Blk.lt ba_7003.out))
        have ne2212 := Lib.hid (Nat.ne_of_lt (Blk.lt bb_7004.out))
        have ne2213 := Lib.hid (Nat.ne_of_lt (Blk.lt bp_7005.out))
        have ne2214 := Lib.hid (Nat.ne_of_lt (Blk.lt bz_7006.out))
        have lb2215 := Lib.hid (bel_7007.out.size)
        have ne2216 := Lib.hid (Nat.ne_of_lt (Blk.lt xb_8022.out))
        obtain ⟨o_, ho_⟩ : ∃ o, o = (.cells #[.int .i64 v1, .int .i64 v2, .int .i64 mm, .int .i64 ib] 30 : Obj) := ⟨_, rfl⟩
        replace ow_7001 := Lib.hid (World.ownsRow.alloc (ow_7001.out) (o_))
        replace bs_7002 := kA bs_7002 o_
        replace ba_7003 := kA ba_7003 o_
        replace bb_7004 := kA bb_7004 o_
        replace bp_7005 := kA bp_7005 o_
        replace bz_7006 := kA bz_7006 o_
        replace bel_7007 := bA bel_7007 o_
        replace xb_8022 := kA xb_8022 o_
        subst ho_
        have nb_2217 := Lib.hid (Blk.new (w2203) 30 #[.int .i64 v1, .int .i64 v2, .int .i64 mm, .int .i64 ib])
        obtain ⟨g2206, hg2207⟩ : ∃ g, g = (w2203).heap.size := ⟨_, rfl⟩
        obtain ⟨w2208, hw2209⟩ : ∃ w', w' = (w2203).alloc (.cells #[.int .i64 v1, .int .i64 v2, .int .i64 mm, .int .i64 ib] 30) := ⟨_, rfl⟩
        rw [← hw2209] at ow_7001 bs_7002 ba_7003 bb_7004 bp_7005 bz_7006 bel_7007 xb_8022 nb_2217
        rw [← hg2207] at ne2210 ne2211 ne2212 ne2213 ne2214 lb2215 ne2216 nb_2217
        rw [← hg2207, ← hw2209]
        clear hg2207 hw2209
        refine hK.out _ _ ⟨ba_7003.out, bp_7005.out, xb_8022.out⟩ (fun _ => ?_); clear hK K
        try simp only [Act.put, qsA, qsZ, qsS]
        refine oneH 18 rfl fun K hK => ?_
        have hcell_ := cells_add (cs := bcells [⟨v1, v2, mm, ib⟩]) (show Blk _ _ _ (bcells [⟨v1, v2, mm, ib⟩]).toArray from nb_2217.out)
        have hbz_ := Nat.succ_le_of_lt (Blk.lt (bz_7006.out))
        refine wp_append_own _ (.tmp 96) (.tmp 112) 22 rfl (w.heap.size + 1 + 1 + 1 + 1) 30 i0 _ 4 32 Tryz.underlying22 HI.out HZ0.out HZ1.out HZ2.out rfl (by omega) _ _ _ rfl (ow_7001.out) ⟨g2206, 0, none⟩ 1 1 (bcells [⟨v1, v2, mm, ib⟩]) rfl rfl hcell_ (bcells_one _) (by unfold maxLen; omega) (by omega) hbz_ ?_
        intro v5 w2218 hown5_ hg5_ _
        obtain ⟨A5, c5, rfl, -⟩ := own_form hown5_
        have k2219 := Lib.hid (blk_grown (ba_7003.out) hg5_ (fun e => by have h_ := (World.ownsRow.lt (ow_7001.out) _ e).1; omega))
        have k2220 := Lib.hid (blk_grown (bb_7004.out) hg5_ (fun e => by have h_ := (World.ownsRow.lt (ow_7001.out) _ e).1; omega))
        have k2221 := Lib.hid (blk_grown (bp_7005.out) hg5_ (fun e => by have h_ := (World.ownsRow.lt (ow_7001.out) _ e).1; omega))
        have k2222 := Lib.hid (blk_grown (bz_7006.out) hg5_ (fun e => by have h_ := (World.ownsRow.lt (ow_7001.out) _ e).1; omega))
        have k2223 := Lib.hid (blk_grown (bs_7002.out) hg5_ (own_ne (ow_7001.out) (bs_7002.out) (by decide)))
        have k2224 := Lib.hid (Below.grown (bel_7007.out) hg5_ (Below.size (bel_7007.out)) (fun q e => by have h_ := (World.ownsRow.lt (ow_7001.out) q e).1; omega))
        have k2225 := Lib.hid (blk_grown (xb_8022.out) hg5_ (fun e => absurd (HNX.out _ e) (Nat.lt_irrefl _)))
        have OW5 := Lib.hid (show World.ownsRow w2218 (w.heap.size + 1 + 1 + 1 + 1) 30 4 (.slice A5 (n + q + 1) c5) (n + q + 1) (bcells (ws ++ (ws2.take (q + 1)).map (wayB ⟨c, ws, ts⟩ ⟨p1, p2, p3, p4⟩))) from by rw [HTK.out, ← List.append_assoc, bcells_append]; exact hown5_)
        clear hown5_ hg5_ hcell_ hbz_
        refine hK.out _ _ ⟨k2219.out, k2221.out, k2225.out⟩ (fun _ => ?_); clear hK K
        try simp only [Act.put, qsA, qsZ, qsS]
        refine' twH 19 ⟨k2219.out, k2221.out, k2225.out⟩ ?_
        try simp only [Act.put, qsA, qsZ, qsS]
        refine oneH 20 rfl fun K hK => ?_
        have hgo_ := HGO.out
        have v2227 : (w2218).cell? ⟨gs, 1, none⟩ = some (.slice Ax (n + q) cx) := Blk.cell (k2223.out) 1
        have f2228 : (w2218).frozen? ⟨gs, 1, none⟩ = false := Blk.frozen (k2223.out) 1
        have hlt_ := Blk.lt (k2223.out)
        go_simp
        have k2229 := Lib.hid (Blk.set_ (k2223.out) 1 (.slice A5 (n + q + 1) c5))
        have k2230 := Lib.hid (Blk.far (k2219.out) (p := ⟨gs, 1, none⟩) (by dsimp only; omega) (.slice A5 (n + q + 1) c5))
        have k2231 := Lib.hid (Blk.far (k2220.out) (p := ⟨gs, 1, none⟩) (by dsimp only; omega) (.slice A5 (n + q + 1) c5))
        have k2232 := Lib.hid (Blk.far (k2221.out) (p := ⟨gs, 1, none⟩) (by dsimp only; omega) (.slice A5 (n + q + 1) c5))
        have k2233 := Lib.hid (Blk.far (k2222.out) (p := ⟨gs, 1, none⟩) (by dsimp only; omega) (.slice A5 (n + q + 1) c5))
        have k2234 := Lib.hid (Blk.far (k2225.out) (p := ⟨gs, 1, none⟩) (by dsimp only; omega) (.slice A5 (n + q + 1) c5))
        have k2235 := Lib.hid (Below.setCell (k2224.out) (p := ⟨gs, 1, none⟩) (by dsimp only; omega) (.slice A5 (n + q + 1) c5))
        have k2236 := Lib.hid (own_far (OW5.out) (a := ⟨gs, 1, none⟩) (own_ne (OW5.out) (k2223.out) (by decide)) (.slice A5 (n + q + 1) c5))
        obtain ⟨w2237, hw2238⟩ : ∃ w', w' = ((w2218).setCell ⟨gs, 1, none⟩ (.slice A5 (n + q + 1) c5)) := ⟨_, rfl⟩
        rw [← hw2238] at k2229 k2230 k2231 k2232 k2233 k2234 k2235 k2236
        rw [← hw2238]
        clear hw2238 v2227 f2228 hlt_
        clear hgo_
        refine hK.out _ _ ⟨k2230.out, k2232.out, k2234.out⟩ (fun _ => ?_); clear hK K
        try simp only [Act.put, qsA, qsZ, qsS]
        refine wpAnyH_done (by kernel_rfl) ?_ _
        go_wp2
        go_roundw
        case rel => exact ⟨q + 1, A5, c5, by omega, by go_num, k2236.out, k2229.out, hgs, k2230.out, k2231.out, k2232.out, k2233.out, k2235.out⟩
        case measure => simp [intOf]; omega
       refine rdH rfl (fun K hK => ?_) ?_
       · -- 17: buildSlice
        replace ow_7001 := Lib.hid (owns_below (owns_below (ow_7001.out) hb2166.out) hb2204.out)
        replace bs_7002 := kH (kH bs_7002 hb2166) hb2204
        replace bb_7004 := kH (kH bb_7004 hb2166) hb2204
        replace bz_7006 := kH (kH bz_7006 hb2166) hb2204
        replace bel_7007 := bH (bH bel_7007 hb2166) hb2204
        go_simp
        have ne2243 := Lib.hid (Nat.ne_of_lt (Blk.lt bs_7002.out))
        have ne2244 := Lib.hid (Nat.ne_of_lt (Blk.lt ba_7003.out))
        have ne2245 := Lib.hid (Nat.ne_of_lt (Blk.lt bb_7004.out))
        have ne2246 := Lib.hid (Nat.ne_of_lt (Blk.lt bp_7005.out))
        have ne2247 := Lib.hid (Nat.ne_of_lt (Blk.lt bz_7006.out))
        have lb2248 := Lib.hid (bel_7007.out.size)
        have ne2249 := Lib.hid (Nat.ne_of_lt (Blk.lt xb_8022.out))
        obtain ⟨o_, ho_⟩ : ∃ o, o = (.cells #[.int .i64 v1, .int .i64 v2, .int .i64 mm, .int .i64 ib] 30 : Obj) := ⟨_, rfl⟩
        replace ow_7001 := Lib.hid (World.ownsRow.alloc (ow_7001.out) (o_))
        replace bs_7002 := kA bs_7002 o_
        replace ba_7003 := kA ba_7003 o_
        replace bb_7004 := kA bb_7004 o_
        replace bp_7005 := kA bp_7005 o_
        replace bz_7006 := kA bz_7006 o_
        replace bel_7007 := bA bel_7007 o_
        replace xb_8022 := kA xb_8022 o_
        subst ho_
        have nb_2250 := Lib.hid (Blk.new (w2203) 30 #[.int .i64 v1, .int .i64 v2, .int .i64 mm, .int .i64 ib])
        obtain ⟨g2239, hg2240⟩ : ∃ g, g = (w2203).heap.size := ⟨_, rfl⟩
        obtain ⟨w2241, hw2242⟩ : ∃ w', w' = (w2203).alloc (.cells #[.int .i64 v1, .int .i64 v2, .int .i64 mm, .int .i64 ib] 30) := ⟨_, rfl⟩
        rw [← hw2242] at ow_7001 bs_7002 ba_7003 bb_7004 bp_7005 bz_7006 bel_7007 xb_8022 nb_2250
        rw [← hg2240] at ne2243 ne2244 ne2245 ne2246 ne2247 lb2248 ne2249 nb_2250
        rw [← hg2240, ← hw2242]
        clear hg2240 hw2242
        refine hK.out _ _ ⟨ba_7003.out, bp_7005.out, xb_8022.out⟩ (fun _ => ?_); clear hK K
        try simp only [Act.put, qsA, qsZ, qsS]
        refine oneH 1 rfl fun K hK => ?_
        have cs_ : (w2241).cell? ⟨gs, 1, none⟩ = some (.slice Ax (n + q) cx) := Blk.cell (bs_7002.out) 1
        go_simp
        clear cs_
        refine hK.out _ _ ⟨ba_7003.out, bp_7005.out, xb_8022.out⟩ (fun _ => ?_); clear hK K
        try simp only [Act.put, qsA, qsZ, qsS]
        refine oneH 18 rfl fun K hK => ?_
        have hcell_ := cells_add (cs := bcells [⟨v1, v2, mm, ib⟩]) (show Blk _ _ _ (bcells [⟨v1, v2, mm, ib⟩]).toArray from nb_2250.out)
        have hbz_ := Nat.succ_le_of_lt (Blk.lt (bz_7006.out))
        refine wp_append_own _ (.tmp 96) (.tmp 112) 22 rfl (w.heap.size + 1 + 1 + 1 + 1) 30 i0 _ 4 32 Tryz.underlying22 HI.out HZ0.out HZ1.out HZ2.out rfl (by omega) _ _ _ rfl (ow_7001.out) ⟨g2239, 0, none⟩ 1 1 (bcells [⟨v1, v2, mm, ib⟩]) rfl rfl hcell_ (bcells_one _) (by unfold maxLen; omega) (by omega) hbz_ ?_
        intro v5 w2251 hown5_ hg5_ _
        obtain ⟨A5, c5, rfl, -⟩ := own_form hown5_
        have k2252 := Lib.hid (blk_grown (ba_7003.out) hg5_ (fun e => by have h_ := (World.ownsRow.lt (ow_7001.out) _ e).1; omega))
        have k2253 := Lib.hid (blk_grown (bb_7004.out) hg5_ (fun e => by have h_ := (World.ownsRow.lt (ow_7001.out) _ e).1; omega))
        have k2254 := Lib.hid (blk_grown (bp_7005.out) hg5_ (fun e => by have h_ := (World.ownsRow.lt (ow_7001.out) _ e).1; omega))
        have k2255 := Lib.hid (blk_grown (bz_7006.out) hg5_ (fun e => by have h_ := (World.ownsRow.lt (ow_7001.out) _ e).1; omega))
        have k2256 := Lib.hid (blk_grown (bs_7002.out) hg5_ (own_ne (ow_7001.out) (bs_7002.out) (by decide)))
        have k2257 := Lib.hid (Below.grown (bel_7007.out) hg5_ (Below.size (bel_7007.out)) (fun q e => by have h_ := (World.ownsRow.lt (ow_7001.out) q e).1; omega))
        have k2258 := Lib.hid (blk_grown (xb_8022.out) hg5_ (fun e => absurd (HNX.out _ e) (Nat.lt_irrefl _)))
        have OW5 := Lib.hid (show World.ownsRow w2251 (w.heap.size + 1 + 1 + 1 + 1) 30 4 (.slice A5 (n + q + 1) c5) (n + q + 1) (bcells (ws ++ (ws2.take (q + 1)).map (wayB ⟨c, ws, ts⟩ ⟨p1, p2, p3, p4⟩))) from by rw [HTK.out, ← List.append_assoc, bcells_append]; exact hown5_)
        clear hown5_ hg5_ hcell_ hbz_
        refine hK.out _ _ ⟨k2252.out, k2254.out, k2258.out⟩ (fun _ => ?_); clear hK K
        try simp only [Act.put, qsA, qsZ, qsS]
        refine' twH 19 ⟨k2252.out, k2254.out, k2258.out⟩ ?_
        try simp only [Act.put, qsA, qsZ, qsS]
        refine oneH 20 rfl fun K hK => ?_
        have hgo_ := HGO.out
        have v2260 : (w2251).cell? ⟨gs, 1, none⟩ = some (.slice Ax (n + q) cx) := Blk.cell (k2256.out) 1
        have f2261 : (w2251).frozen? ⟨gs, 1, none⟩ = false := Blk.frozen (k2256.out) 1
        have hlt_ := Blk.lt (k2256.out)
        go_simp
        have k2262 := Lib.hid (Blk.set_ (k2256.out) 1 (.slice A5 (n + q + 1) c5))
        have k2263 := Lib.hid (Blk.far (k2252.out) (p := ⟨gs, 1, none⟩) (by dsimp only; omega) (.slice A5 (n + q + 1) c5))
        have k2264 := Lib.hid (Blk.far (k2253.out) (p := ⟨gs, 1, none⟩) (by dsimp only; omega) (.slice A5 (n + q + 1) c5))
        have k2265 := Lib.hid (Blk.far (k2254.out) (p := ⟨gs, 1, none⟩) (by dsimp only; omega) (.slice A5 (n + q + 1) c5))
        have k2266 := Lib.hid (Blk.far (k2255.out) (p := ⟨gs, 1, none⟩) (by dsimp only; omega) (.slice A5 (n + q + 1) c5))
        have k2267 := Lib.hid (Blk.far (k2258.out) (p := ⟨gs, 1, none⟩) (by dsimp only; omega) (.slice A5 (n + q + 1) c5))
        have k2268 := Lib.hid (Below.setCell (k2257.out) (p := ⟨gs, 1, none⟩) (by dsimp only; omega) (.slice A5 (n + q + 1) c5))
        have k2269 := Lib.hid (own_far (OW5.out) (a := ⟨gs, 1, none⟩) (own_ne (OW5.out) (k2256.out) (by decide)) (.slice A5 (n + q + 1) c5))
        obtain ⟨w2270, hw2271⟩ : ∃ w', w' = ((w2251).setCell ⟨gs, 1, none⟩ (.slice A5 (n + q + 1) c5)) := ⟨_, rfl⟩
        rw [← hw2271] at k2262 k2263 k2264 k2265 k2266 k2267 k2268 k2269
        rw [← hw2271]
        clear hw2271 v2260 f2261 hlt_
        clear hgo_
        refine hK.out _ _ ⟨k2263.out, k2265.out, k2267.out⟩ (fun _ => ?_); clear hK K
        try simp only [Act.put, qsA, qsZ, qsS]
        refine wpAnyH_done (by kernel_rfl) ?_ _
        go_wp2
        go_roundw
        case rel => exact ⟨q + 1, A5, c5, by omega, by go_num, k2269.out, k2262.out, hgs, k2263.out, k2264.out, k2265.out, k2266.out, k2268.out⟩
        case measure => simp [intOf]; omega
       exact AllReadyH.nil
      exact AllReadyH.nil
     exact AllReadyH.nil
   · obtain rfl : n2 = q := by omega
     have hlen := RB0.out.len
     have hrd := (OwnB.rd (show OwnB wo (w.heap.size + 1 + 1 + 1 + 1) Ax (n + n2) cx (ws ++ (ws2.take n2).map (wayB ⟨c, ws, ts⟩ ⟨p1, p2, p3, p4⟩)) from ow_7001.out)).1
     rw [List.take_of_length_le (by omega)] at hrd
     have fz_8022 : (wo).frozen? ⟨w.heap.size + 1 + 1 + 1, 0, none⟩ = false := Blk.frozen bz_7006.out 0
     have fz_8023 : (wo).frozen? ⟨w.heap.size + 1 + 1 + 1, 1, none⟩ = false := Blk.frozen bz_7006.out 1
     have hlb_ := Blk.lt bz_7006.out; have bz_ := bz_7006.out; have bel_ := bel_7007.out
     have HK := Lib.hid (And.intro bz_ (And.intro bel_ hrd)); clear bz_ bel_ hrd hlen
     go_wp2
     obtain ⟨bz_, bel_, rl_⟩ := HK.out
     refine bodyPost_ret (v := .agg #[.int .i64 (c + d + 1 - (p2 - p1)), .slice Ax (n + n2) cx]) (by simp [results, Tryz.results75, go_sem, z_7008, z_7009, z_7010, z_7011, z_7012, z_7013, z_7014, z_7015, z_7016, z_7017, z_7018, z_7019, z_7020, z_7021, fz_8022, fz_8023]) rfl ?_
     exact ⟨Ax, n + n2, cx, rfl, rdB_set2 rl_ ⟨w.heap.size + 1 + 1 + 1, 0, none⟩ ⟨w.heap.size + 1 + 1 + 1, 1, none⟩ (.int .i64 (c + d + 1 - (p2 - p1))) (.slice Ax (n + n2) cx) bz_ rfl, (by have hsz_ := Below.size bel_; repeat' (first | with_reducible exact bel_ | with_reducible exact Below.refl _ _ | with_reducible refine Below.alloc ?_ ?_ _ | with_reducible refine Below.setCell ?_ ?_ _ | with_reducible refine Below.drew ?_ | with_reducible refine below_setRow ?_ ?_ _ | omega | (simp; done) | (simp; omega)))⟩
end Go.Proofs.YtaoanagmgheicaaGreat
