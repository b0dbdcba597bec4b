import Derived.Test.YtaoanagmgheicaaGreatSEWays
import Derived.Test.YtaoanagmgheicaaGreatSEFitM
import Derived.Test.YtaoanagmgheicaaGreatSSolve
set_option linter.unusedSimpArgs false
set_option linter.unusedVariables false
namespace Go.Proofs.YtaoanagmgheicaaGreat
open Go.RowKit
theorem chk_range {P : Int} {l : List Bnd} (h : chk P l = 0) (hP : P ≤ 17) : ∀ x ∈ l, 0 ≤ x.f ∧ x.f ≤ 16 ∧ 0 ≤ x.t ∧ x.t ≤ 16 := fun x hx => by
 have := edges60 h x hx
 omega
theorem rdB_len {w : World} {A : Option Addr} {n c : Nat} {l : List Bnd} (h : RdB w A n c l) (hl : l.length ≤ 400) : n ≤ 400 := by rw [← h.len]; exact hl
set_option maxRecDepth 100000 in
set_option maxHeartbeats 4000000 in
theorem ways_q (c : Int) (A B : Option Addr) (n k m j : Nat) (ws ts : List Bnd) (d : Int) (C D : Option Addr) (n2 k2 m2 j2 : Nat) (ws2 ts2 : List Bnd) (p1 p2 p3 p4 : Int) (w : World) (h1 : RdB w A n k ws) (h2 : RdB w B m j ts) (hn : n ≤ maxLen) (hm : m ≤ maxLen) (h3 : RdB w C n2 k2 ws2) (h4 : RdB w D m2 j2 ts2) (hn2 : n2 ≤ maxLen) (hm2 : m2 ≤ maxLen) (hq : chkP ⟨c, ws, ts⟩ ⟨d, ws2, ts2⟩ ⟨p1, p2, p3, p4⟩ = 0) :
 Calls Tryz.prog 81 #[.agg #[.int .i64 c, .slice A n k, .slice B m j, .int .i64 d, .slice C n2 k2, .slice D m2 j2, .int .i64 p1, .int .i64 p2, .int .i64 p3, .int .i64 p4]] w fun e w' => ∃ Ar nr kr, e = .returned (.agg #[.int .i64 (wayP ⟨c, ws, ts⟩ ⟨d, ws2, ts2⟩ ⟨p1, p2, p3, p4⟩), .slice Ar nr kr]) ∧ RdB w' Ar nr kr (wayL ⟨c, ws, ts⟩ ⟨d, ws2, ts2⟩ ⟨p1, p2, p3, p4⟩) ∧ Below w.heap.size w w' := by
 obtain ⟨oa, ob, sa, sb, hk⟩ := chkP_ok hq
 obtain ⟨l1, l2, l3, l4⟩ := chkP_lens hq
 obtain ⟨a1, a2, a3, a4⟩ := chkO_ok oa
 obtain ⟨b1, b2, b3, b4⟩ := chkO_ok ob
 exact ways_any c A B n k m j ws ts d C D n2 k2 m2 j2 ws2 ts2 p1 p2 p3 p4 w h1 h2 hn hm h3 h4 hn2 hm2 ⟨a1, a2⟩ ⟨b1, b2⟩ sa sb (rdB_len h1 l1) (rdB_len h3 l3) (chk_range b3 (by omega))
set_option maxRecDepth 100000 in
set_option maxHeartbeats 4000000 in
theorem turns_q (c : Int) (A B : Option Addr) (n k m j : Nat) (ws ts : List Bnd) (d : Int) (C D : Option Addr) (n2 k2 m2 j2 : Nat) (ws2 ts2 : List Bnd) (p1 p2 p3 p4 : Int) (w : World) (h1 : RdB w A n k ws) (h2 : RdB w B m j ts) (hn : n ≤ maxLen) (hm : m ≤ maxLen) (h3 : RdB w C n2 k2 ws2) (h4 : RdB w D m2 j2 ts2) (hn2 : n2 ≤ maxLen) (hm2 : m2 ≤ maxLen) (hq : chkP ⟨c, ws, ts⟩ ⟨d, ws2, ts2⟩ ⟨p1, p2, p3, p4⟩ = 0) :
 Calls Tryz.prog 82 #[.agg #[.int .i64 c, .slice A n k, .slice B m j, .int .i64 d, .slice C n2 k2, .slice D m2 j2, .int .i64 p1, .int .i64 p2, .int .i64 p3, .int .i64 p4]] w fun e w' => ∃ Ar nr kr, e = .returned (.agg #[.int .i64 (turnP ⟨c, ws, ts⟩ ⟨d, ws2, ts2⟩ ⟨p1, p2, p3, p4⟩), .slice Ar nr kr]) ∧ RdB w' Ar nr kr (turnL ⟨c, ws, ts⟩ ⟨d, ws2, ts2⟩ ⟨p1, p2, p3, p4⟩) ∧ Below w.heap.size w w' := by
 obtain ⟨oa, ob, sa, sb, hk⟩ := chkP_ok hq
 obtain ⟨l1, l2, l3, l4⟩ := chkP_lens hq
 obtain ⟨a1, a2, a3, a4⟩ := chkO_ok oa
 obtain ⟨b1, b2, b3, b4⟩ := chkO_ok ob
 exact turns_any c A B n k m j ws ts d C D n2 k2 m2 j2 ws2 ts2 p1 p2 p3 p4 w h1 h2 hn hm h3 h4 hn2 hm2 ⟨a1, a2⟩ ⟨b1, b2⟩ sa sb (rdB_len h2 l2) (rdB_len h4 l4) (chk_range b4 (by omega))
theorem solveV_of {P : Int} {l : List Bnd} (hk : chk P l = 0) : (solveV P l).2 = (slv P l, 0) := by
 have hg : gcode P l [] = 0 := by unfold gcode; rw [if_pos hk]; rfl
 unfold solveV slv
 rw [if_pos hg]
 cases settle l P.toNat zeros <;> rfl
set_option maxRecDepth 100000 in
set_option maxHeartbeats 4000000 in
theorem makers_any (c : Int) (A B : Option Addr) (n k m j : Nat) (d : Int) (C D : Option Addr) (n2 k2 m2 j2 : Nat) (p1 p2 p3 p4 : Int) (w : World) :
 Calls Tryz.prog 115 #[.agg #[.int .i64 c, .slice A n k, .slice B m j, .int .i64 d, .slice C n2 k2, .slice D m2 j2, .int .i64 p1, .int .i64 p2, .int .i64 p3, .int .i64 p4]] w fun e w' => e = .returned (.agg #[.func (.func 81) #[.agg #[.int .i64 c, .slice A n k, .slice B m j, .int .i64 d, .slice C n2 k2, .slice D m2 j2, .int .i64 p1, .int .i64 p2, .int .i64 p3, .int .i64 p4]] #[], .func (.func 82) #[.agg #[.int .i64 c, .slice A n k, .slice B m j, .int .i64 d, .slice C n2 k2, .slice D m2 j2, .int .i64 p1, .int .i64 p2, .int .i64 p3, .int .i64 p4]] #[]]) ∧ Below w.heap.size w w' := by
  go_enter Tryz.func115, Tryz.ntmps115
  have bel_1 := Lib.hid (show Below w.heap.size w w from Below.refl _ w)
  obtain ⟨o_, ho_⟩ : ∃ o, o = ((.cells #[.int .i64 c, .slice A n k, .slice B m j, .int .i64 d, .slice C n2 k2, .slice D m2 j2, .int .i64 p1, .int .i64 p2, .int .i64 p3, .int .i64 p4] 101) : Obj) := ⟨_, rfl⟩
  replace bel_1 := bA bel_1 o_
  subst ho_
  have bx_2 := Lib.hid (Blk.new w 101 #[.int .i64 c, .slice A n k, .slice B m j, .int .i64 d, .slice C n2 k2, .slice D m2 j2, .int .i64 p1, .int .i64 p2, .int .i64 p3, .int .i64 p4])
  obtain ⟨z_3, z_4, z_5, z_6, z_7, z_8, z_9, z_10, z_11, z_12⟩ := at10 bx_2
  have hmf : ∀ (fn : Fn) (first cap : Array Value) (w : World), (Instr.makeFunc fn first cap).run Tryz.prog w = .ok (.func fn first cap) w := fun _ _ _ _ => rfl
  have b2 := Blk.new (w.alloc (.cells #[.int .i64 c, .slice A n k, .slice B m j, .int .i64 d, .slice C n2 k2, .slice D m2 j2, .int .i64 p1, .int .i64 p2, .int .i64 p3, .int .i64 p4] 101)) 145 #[.nilFunc, .nilFunc]
  simp only [World.size_alloc] at b2
  have B2 := Lib.hid b2; clear b2
  go_wp2_with (refine wpList_store_row rfl 145 (.tmp 2) (.tmp 7) rfl (w.heap.size + 1) #[.func (.func 81) #[.agg #[.int .i64 c, .slice A n k, .slice B m j, .int .i64 d, .slice C n2 k2, .slice D m2 j2, .int .i64 p1, .int .i64 p2, .int .i64 p3, .int .i64 p4]] #[], .func (.func 82) #[.agg #[.int .i64 c, .slice A n k, .slice B m j, .int .i64 d, .slice C n2 k2, .slice D m2 j2, .int .i64 p1, .int .i64 p2, .int .i64 p3, .int .i64 p4]] #[]] rfl rfl 145 #[.nilFunc, .nilFunc] B2.out (by kernel_rfl) rfl (by simp [Value.oneCell']) ?_; have B3 := Lib.hid (Blk.row B2.out #[.func (.func 81) #[.agg #[.int .i64 c, .slice A n k, .slice B m j, .int .i64 d, .slice C n2 k2, .slice D m2 j2, .int .i64 p1, .int .i64 p2, .int .i64 p3, .int .i64 p4]] #[], .func (.func 82) #[.agg #[.int .i64 c, .slice A n k, .slice B m j, .int .i64 d, .slice C n2 k2, .slice D m2 j2, .int .i64 p1, .int .i64 p2, .int .i64 p3, .int .i64 p4]] #[]]); have BE := Lib.hid (below_setRow (Below.alloc bel_1.out (bel_1.out.size) (.cells #[.nilFunc, .nilFunc] 145)) (g := w.heap.size + 1) (by simp) #[.func (.func 81) #[.agg #[.int .i64 c, .slice A n k, .slice B m j, .int .i64 d, .slice C n2 k2, .slice D m2 j2, .int .i64 p1, .int .i64 p2, .int .i64 p3, .int .i64 p4]] #[], .func (.func 82) #[.agg #[.int .i64 c, .slice A n k, .slice B m j, .int .i64 d, .slice C n2 k2, .slice D m2 j2, .int .i64 p1, .int .i64 p2, .int .i64 p3, .int .i64 p4]] #[]]); generalize World.setRow _ _ _ = wF at *)
  clear z_3 z_4 z_5 z_6 z_7 z_8 z_9 z_10 z_11 z_12
  have c0_ := Blk.cell B3.out 0; have c1_ := Blk.cell B3.out 1
  simp only [List.getElem?_toArray, List.getElem?_cons_zero, List.getElem?_cons_succ] at c0_ c1_
  refine bodyPost_ret (v := .agg #[.func (.func 81) #[.agg #[.int .i64 c, .slice A n k, .slice B m j, .int .i64 d, .slice C n2 k2, .slice D m2 j2, .int .i64 p1, .int .i64 p2, .int .i64 p3, .int .i64 p4]] #[], .func (.func 82) #[.agg #[.int .i64 c, .slice A n k, .slice B m j, .int .i64 d, .slice C n2 k2, .slice D m2 j2, .int .i64 p1, .int .i64 p2, .int .i64 p3, .int .i64 p4]] #[]]) (by simp [results, Tryz.results115, go_sem, c0_, c1_]) rfl ⟨rfl, BE.out⟩
def RetM (b : Bool) (Z Y : List Int) (w : World) (e : Ending) (w' : World) : Prop :=
 ∃ A1 n1 c1 A2 n2 c2, e = .returned (.tuple #[.agg #[.slice A1 n1 c1, .slice A2 n2 c2], .bool b]) ∧ (b = true → RdI w' A1 n1 c1 Z ∧ RdI w' A2 n2 c2 Y) ∧ Below w.heap.size w w'
theorem rdI_setc {w : World} {A : Option Addr} {n c : Nat} {l : List Int} (h : RdI w A n c l) (a : Addr) (u : Value) {t : TypeId} {cs : Array Value} (hb : Blk w a.block t cs) (hc : ∀ v ∈ cs.toList, ∀ x, v ≠ .int .i64 x) : RdI (w.setCell a u) A n c l := by
 refine ⟨h.len, h.cap, h.nil, ?_⟩
 rcases h.cells with h0 | ⟨b, o, e, hlt, hj⟩
 · exact .inl h0
 · refine .inr ⟨b, o, e, by rw [show (w.setCell a u).heap.size = w.heap.size by simp]; exact hlt, fun j v hv => ?_⟩
   have h1 := hj j v hv
   by_cases hbb : b = a.block
   · exfalso
     subst hbb
     rw [hb.cell] at h1
     obtain ⟨x, _, rfl⟩ := List.mem_map.1 (List.mem_of_getElem? hv)
     exact hc _ (List.mem_of_getElem? (by rw [Array.getElem?_toList]; exact h1)) x rfl
   · rw [World.cell?_of_block (a := ⟨b, o + j, none⟩) (heap_setCell_other w a b u hbb)]
     exact h1
set_option maxRecDepth 100000 in
set_option maxHeartbeats 4000000 in
theorem solutions_any (c : Int) (A B : Option Addr) (n k m j : Nat) (ws ts : List Bnd) (d : Int) (C D : Option Addr) (n2 k2 m2 j2 : Nat) (ws2 ts2 : List Bnd) (p1 p2 p3 p4 : Int) (w : World) (h1 : RdB w A n k ws) (h2 : RdB w B m j ts) (hn : n ≤ maxLen) (hm : m ≤ maxLen) (h3 : RdB w C n2 k2 ws2) (h4 : RdB w D m2 j2 ts2) (hn2 : n2 ≤ maxLen) (hm2 : m2 ≤ maxLen) (hq : asked ⟨c, ws, ts⟩ ⟨d, ws2, ts2⟩ ⟨p1, p2, p3, p4⟩ = 0) (Z Y : List Int) (hZ : (solveV (wayP ⟨c, ws, ts⟩ ⟨d, ws2, ts2⟩ ⟨p1, p2, p3, p4⟩) (wayL ⟨c, ws, ts⟩ ⟨d, ws2, ts2⟩ ⟨p1, p2, p3, p4⟩)).1 = Z) (hY : (solveV (turnP ⟨c, ws, ts⟩ ⟨d, ws2, ts2⟩ ⟨p1, p2, p3, p4⟩) (turnL ⟨c, ws, ts⟩ ⟨d, ws2, ts2⟩ ⟨p1, p2, p3, p4⟩)).1 = Y) :
 Calls Tryz.prog 78 #[.agg #[.int .i64 c, .slice A n k, .slice B m j, .int .i64 d, .slice C n2 k2, .slice D m2 j2, .int .i64 p1, .int .i64 p2, .int .i64 p3, .int .i64 p4]] w (RetM (meetsB ⟨c, ws, ts⟩ ⟨d, ws2, ts2⟩ ⟨p1, p2, p3, p4⟩) Z Y w) := by
 have RA0 := Lib.hid h1; have RB0 := Lib.hid h2; have RC0 := Lib.hid h3; have RD0 := Lib.hid h4; clear h1 h2 h3 h4
 obtain ⟨hq1, hq2, hq3⟩ := asked_ok hq
 have EWY := Lib.hid (show solveV (wayP ⟨c, ws, ts⟩ ⟨d, ws2, ts2⟩ ⟨p1, p2, p3, p4⟩) (wayL ⟨c, ws, ts⟩ ⟨d, ws2, ts2⟩ ⟨p1, p2, p3, p4⟩) = (Z, slv (wayP ⟨c, ws, ts⟩ ⟨d, ws2, ts2⟩ ⟨p1, p2, p3, p4⟩) (wayL ⟨c, ws, ts⟩ ⟨d, ws2, ts2⟩ ⟨p1, p2, p3, p4⟩), 0) from Prod.ext hZ (solveV_of (wayL_chk hq)))
 have ET := Lib.hid (show solveV (turnP ⟨c, ws, ts⟩ ⟨d, ws2, ts2⟩ ⟨p1, p2, p3, p4⟩) (turnL ⟨c, ws, ts⟩ ⟨d, ws2, ts2⟩ ⟨p1, p2, p3, p4⟩) = (Y, slv (turnP ⟨c, ws, ts⟩ ⟨d, ws2, ts2⟩ ⟨p1, p2, p3, p4⟩) (turnL ⟨c, ws, ts⟩ ⟨d, ws2, ts2⟩ ⟨p1, p2, p3, p4⟩), 0) from Prod.ext hY (solveV_of (turnL_chk hq)))
 have HQ := Lib.hid hq1
 have HWL := Lib.hid (show (wayL ⟨c, ws, ts⟩ ⟨d, ws2, ts2⟩ ⟨p1, p2, p3, p4⟩).length ≤ 400 from (chk_ok (wayL_chk hq)).2.2.1)
 have HTL := Lib.hid (show (turnL ⟨c, ws, ts⟩ ⟨d, ws2, ts2⟩ ⟨p1, p2, p3, p4⟩).length ≤ 400 from (chk_ok (turnL_chk hq)).2.2.1)
 clear hq hq1 hq2 hq3 hZ hY
 unfold meetsB wayS turnS
 obtain ⟨PW, hPW⟩ : ∃ P, wayP ⟨c, ws, ts⟩ ⟨d, ws2, ts2⟩ ⟨p1, p2, p3, p4⟩ = P := ⟨_, rfl⟩
 obtain ⟨PT_, hPT⟩ : ∃ P, turnP ⟨c, ws, ts⟩ ⟨d, ws2, ts2⟩ ⟨p1, p2, p3, p4⟩ = P := ⟨_, rfl⟩
 obtain ⟨LW, hLW⟩ : ∃ P, wayL ⟨c, ws, ts⟩ ⟨d, ws2, ts2⟩ ⟨p1, p2, p3, p4⟩ = P := ⟨_, rfl⟩
 obtain ⟨LT_, hLT⟩ : ∃ P, turnL ⟨c, ws, ts⟩ ⟨d, ws2, ts2⟩ ⟨p1, p2, p3, p4⟩ = P := ⟨_, rfl⟩
 rw [hPW, hPT, hLW, hLT]
 rw [hPW, hLW] at EWY
 rw [hPT, hLT] at ET
 rw [hLW] at HWL
 rw [hLT] at HTL
 have HPW := Lib.hid hPW; have HPT := Lib.hid hPT; have HLW := Lib.hid hLW; have HLT := Lib.hid hLT; clear hPW hPT hLW hLT
 go_enter Tryz.func78, Tryz.ntmps78
 have bel_1 := Lib.hid (show Below w.heap.size w w from Below.refl _ w)
 obtain ⟨o_, ho_⟩ : ∃ o, o = ((.cells #[.int .i64 c, .slice A n k, .slice B m j, .int .i64 d, .slice C n2 k2, .slice D m2 j2, .int .i64 p1, .int .i64 p2, .int .i64 p3, .int .i64 p4] 101) : Obj) := ⟨_, rfl⟩
 replace bel_1 := bA bel_1 o_
 subst ho_
 have bx_2 := Lib.hid (Blk.new w 101 #[.int .i64 c, .slice A n k, .slice B m j, .int .i64 d, .slice C n2 k2, .slice D m2 j2, .int .i64 p1, .int .i64 p2, .int .i64 p3, .int .i64 p4])
 obtain ⟨o_, ho_⟩ : ∃ o, o = ((.cells #[.slice none 0 0, .slice none 0 0] 107) : Obj) := ⟨_, rfl⟩
 replace bel_1 := bA bel_1 o_
 replace bx_2 := kA bx_2 o_
 subst ho_
 have nb_ := Blk.new (w.alloc (.cells #[.int .i64 c, .slice A n k, .slice B m j, .int .i64 d, .slice C n2 k2, .slice D m2 j2, .int .i64 p1, .int .i64 p2, .int .i64 p3, .int .i64 p4] 101)) 107 #[.slice none 0 0, .slice none 0 0]
 simp only [World.size_alloc] at nb_
 have by_3 := Lib.hid nb_; clear nb_
 obtain ⟨z_4, z_5, z_6, z_7, z_8, z_9, z_10, z_11, z_12, z_13⟩ := at10 bx_2
 obtain ⟨z_14, z_15⟩ := at2 by_3
 have hi0 : ∀ W, (Instr.index 145 (.agg #[.func (.func 81) #[.agg #[.int .i64 c, .slice A n k, .slice B m j, .int .i64 d, .slice C n2 k2, .slice D m2 j2, .int .i64 p1, .int .i64 p2, .int .i64 p3, .int .i64 p4]] #[], .func (.func 82) #[.agg #[.int .i64 c, .slice A n k, .slice B m j, .int .i64 d, .slice C n2 k2, .slice D m2 j2, .int .i64 p1, .int .i64 p2, .int .i64 p3, .int .i64 p4]] #[]]) (.int .i64 0)).run Tryz.prog W = .ok (.func (.func 81) #[.agg #[.int .i64 c, .slice A n k, .slice B m j, .int .i64 d, .slice C n2 k2, .slice D m2 j2, .int .i64 p1, .int .i64 p2, .int .i64 p3, .int .i64 p4]] #[]) W := fun W => by kernel_rfl
 have hi1 : ∀ W, (Instr.index 145 (.agg #[.func (.func 81) #[.agg #[.int .i64 c, .slice A n k, .slice B m j, .int .i64 d, .slice C n2 k2, .slice D m2 j2, .int .i64 p1, .int .i64 p2, .int .i64 p3, .int .i64 p4]] #[], .func (.func 82) #[.agg #[.int .i64 c, .slice A n k, .slice B m j, .int .i64 d, .slice C n2 k2, .slice D m2 j2, .int .i64 p1, .int .i64 p2, .int .i64 p3, .int .i64 p4]] #[]]) (.int .i64 1)).run Tryz.prog W = .ok (.func (.func 82) #[.agg #[.int .i64 c, .slice A n k, .slice B m j, .int .i64 d, .slice C n2 k2, .slice D m2 j2, .int .i64 p1, .int .i64 p2, .int .i64 p3, .int .i64 p4]] #[]) W := fun W => by kernel_rfl
 have hc := makers_any c A B n k m j d C D n2 k2 m2 j2 p1 p2 p3 p4 (((w.alloc (.cells #[.int .i64 c, .slice A n k, .slice B m j, .int .i64 d, .slice C n2 k2, .slice D m2 j2, .int .i64 p1, .int .i64 p2, .int .i64 p3, .int .i64 p4] 101)).alloc (.cells #[.slice none 0 0, .slice none 0 0] 107)))
 have HC := Lib.hid hc; clear hc
 go_wp2_with fail
 refine HC.out.mono ?_
 rintro e w_16 ⟨rfl, hb⟩
 clear HC
 clear z_4 z_5 z_6 z_7 z_8 z_9 z_10 z_11 z_12 z_13 z_14 z_15
 replace bel_1 := bB bel_1 hb
 replace bx_2 := kB bx_2 hb
 replace by_3 := kB by_3 hb
 clear hb
 obtain ⟨z_17, z_18, z_19, z_20, z_21, z_22, z_23, z_24, z_25, z_26⟩ := at10 bx_2
 obtain ⟨z_27, z_28⟩ := at2 by_3
 go_wp2
 clear z_17 z_18 z_19 z_20 z_21 z_22 z_23 z_24 z_25 z_26 z_27 z_28
 go_loopw [8] (fun i wr => ((i = .int .i64 0 ∧ Blk wr (w.heap.size + 1) 107 #[.slice none 0 0, .slice none 0 0]) ∨ (i = .int .i64 1 ∧ slv PW LW = true ∧ ∃ A1 n1 c1, Blk wr (w.heap.size + 1) 107 #[.slice A1 n1 c1, .slice none 0 0] ∧ RdI wr A1 n1 c1 Z) ∨ (i = .int .i64 2 ∧ slv PW LW = true ∧ slv PT_ LT_ = true ∧ ∃ A1 n1 c1 A2 n3 c2, Blk wr (w.heap.size + 1) 107 #[.slice A1 n1 c1, .slice A2 n3 c2] ∧ RdI wr A1 n1 c1 Z ∧ RdI wr A2 n3 c2 Y)) ∧ Blk wr (w.heap.size) 101 #[.int .i64 c, .slice A n k, .slice B m j, .int .i64 d, .slice C n2 k2, .slice D m2 j2, .int .i64 p1, .int .i64 p2, .int .i64 p3, .int .i64 p4] ∧ Below w.heap.size w wr) (fun i _ => 2 - (intOf i).toNat)
 case atStart => exact ⟨.inl ⟨rfl, by_3.out⟩, bx_2.out, bel_1.out⟩
 case round =>
  clear bel_1 bx_2 by_3
  obtain ⟨hi, hbx, hbel⟩ := hrel
  have bx_1029 := Lib.hid (hbx)
  have bel_1030 := Lib.hid (hbel)
  clear hbx hbel
  rcases hi with ⟨rfl, hby⟩ | ⟨rfl, hs1, A1, n1, c1, hby, hz1⟩ | ⟨rfl, hs1, hs2, A1, n1, c1, A2, n3, c2, hby, hz1, hz2⟩
  · have by_2031 := Lib.hid (hby)
    clear hby
    obtain ⟨z_2032, z_2033, z_2034, z_2035, z_2036, z_2037, z_2038, z_2039, z_2040, z_2041⟩ := at10 bx_1029
    obtain ⟨z_2042, z_2043⟩ := at2 by_2031
    have hc := ways_q c A B n k m j ws ts d C D n2 k2 m2 j2 ws2 ts2 p1 p2 p3 p4 wr (RA0.out.below bel_1030.out) (RB0.out.below bel_1030.out) hn hm (RC0.out.below bel_1030.out) (RD0.out.below bel_1030.out) hn2 hm2 HQ.out
    rw [HPW.out, HLW.out] at hc
    have hc := hc
    have HC := Lib.hid hc; clear hc
    go_wp2_with fail
    refine HC.out.mono ?_
    rintro e w_2044 ⟨Ar, nr, kr, rfl, hrd, hb⟩
    clear HC
    clear z_2032 z_2033 z_2034 z_2035 z_2036 z_2037 z_2038 z_2039 z_2040 z_2041 z_2042 z_2043
    replace bx_1029 := kB bx_1029 hb
    replace bel_1030 := bB bel_1030 hb
    replace by_2031 := kB by_2031 hb
    clear hb
    have rl_2045 := Lib.hid (hrd)
    clear hrd
    obtain ⟨z_2046, z_2047, z_2048, z_2049, z_2050, z_2051, z_2052, z_2053, z_2054, z_2055⟩ := at10 bx_1029
    obtain ⟨z_2056, z_2057⟩ := at2 by_2031
    have hl_ : nr ≤ maxLen := by have h1 := (rl_2045.out).len; have h2 := HWL.out; unfold maxLen; omega
    cases hb : slv PW LW
    · have HB := Lib.hid hb; clear hb
      have hv : solveV PW LW = (Z, false, 0) := by rw [EWY.out, HB.out]
      have hc := Solve_any PW Ar nr kr LW _ rl_2045.out hl_
      rw [hv] at hc
      unfold RetI at hc
      dsimp only at hc
      clear hv
      have hc := hc
      have HC := Lib.hid hc; clear hc
      go_wp2_with fail
      refine HC.out.mono ?_
      rintro e w_3058 ⟨A9, n9, c9, rfl, ho9, hb⟩
      clear HC
      clear z_2046 z_2047 z_2048 z_2049 z_2050 z_2051 z_2052 z_2053 z_2054 z_2055 z_2056 z_2057
      replace bx_1029 := kB bx_1029 hb
      replace bel_1030 := bB bel_1030 hb
      replace by_2031 := kB by_2031 hb
      replace rl_2045 := rB rl_2045 hb
      clear hb
      have hrd9 := (OwnI.rd ho9).1
      clear ho9
      have z9_3059 := Lib.hid (hrd9)
      clear hrd9
      obtain ⟨z_3060, z_3061, z_3062, z_3063, z_3064, z_3065, z_3066, z_3067, z_3068, z_3069⟩ := at10 bx_1029
      obtain ⟨z_3070, z_3071⟩ := at2 by_2031
      have fz_3072 : (w_3058).frozen? ⟨w.heap.size + 1, 0, none⟩ = false := Blk.frozen by_2031.out 0
      have fz_3073 : (w_3058).frozen? ⟨w.heap.size + 1, 1, none⟩ = false := Blk.frozen by_2031.out 1
      have hlb_ := Blk.lt by_2031.out
      have bx_ := bx_1029.out; have by_ := by_2031.out; have bel_ := bel_1030.out; have z9_ := z9_3059.out
      have HK := Lib.hid (And.intro bx_ (And.intro by_ (And.intro bel_ z9_))); clear bx_ by_ bel_ z9_
      go_wp2
      obtain ⟨bx_, by_, bel_, z9_⟩ := HK.out
      refine bodyPost_ret (v := .tuple #[.agg #[.slice none 0 0, .slice none 0 0], .bool false]) (by simp [results, Tryz.results78, go_sem, z_3060, z_3061, z_3062, z_3063, z_3064, z_3065, z_3066, z_3067, z_3068, z_3069, z_3070, z_3071, fz_3072, fz_3073]) rfl ?_
      exact ⟨none, 0, 0, none, 0, 0, by rw [HB.out]; simp, fun h => by rw [HB.out] at h; simp at h, (by have hsz_ := Below.size bel_; repeat' (first | with_reducible exact bel_ | with_reducible exact Below.refl _ _ | with_reducible refine Below.alloc ?_ ?_ _ | with_reducible refine Below.setCell ?_ ?_ _ | with_reducible refine Below.drew ?_ | with_reducible refine below_setRow ?_ ?_ _ | omega | (simp; done) | (simp; omega)))⟩
    · have HB := Lib.hid hb; clear hb
      have hv : solveV PW LW = (Z, true, 0) := by rw [EWY.out, HB.out]
      have hc := Solve_any PW Ar nr kr LW _ rl_2045.out hl_
      rw [hv] at hc
      unfold RetI at hc
      dsimp only at hc
      clear hv
      have hc := hc
      have HC := Lib.hid hc; clear hc
      go_wp2_with fail
      refine HC.out.mono ?_
      rintro e w_3058 ⟨A9, n9, c9, rfl, ho9, hb⟩
      clear HC
      clear z_2046 z_2047 z_2048 z_2049 z_2050 z_2051 z_2052 z_2053 z_2054 z_2055 z_2056 z_2057
      replace bx_1029 := kB bx_1029 hb
      replace bel_1030 := bB bel_1030 hb
      replace by_2031 := kB by_2031 hb
      replace rl_2045 := rB rl_2045 hb
      clear hb
      have hrd9 := (OwnI.rd ho9).1
      clear ho9
      have z9_3059 := Lib.hid (hrd9)
      clear hrd9
      obtain ⟨z_3060, z_3061, z_3062, z_3063, z_3064, z_3065, z_3066, z_3067, z_3068, z_3069⟩ := at10 bx_1029
      obtain ⟨z_3070, z_3071⟩ := at2 by_2031
      have fz_3072 : (w_3058).frozen? ⟨w.heap.size + 1, 0, none⟩ = false := Blk.frozen by_2031.out 0
      have fz_3073 : (w_3058).frozen? ⟨w.heap.size + 1, 1, none⟩ = false := Blk.frozen by_2031.out 1
      have hlb_ := Blk.lt by_2031.out
      have bx_ := bx_1029.out; have by_ := by_2031.out; have bel_ := bel_1030.out; have z9_ := z9_3059.out
      have HK := Lib.hid (And.intro bx_ (And.intro by_ (And.intro bel_ z9_))); clear bx_ by_ bel_ z9_
      go_wp2
      obtain ⟨bx_, by_, bel_, z9_⟩ := HK.out
      go_roundw
      case rel => exact ⟨.inr (.inl ⟨by go_num, HB.out, A9, n9, c9, Blk.set_ by_ 0 (.slice A9 n9 c9), rdI_setc z9_ ⟨w.heap.size + 1, 0, none⟩ (.slice A9 n9 c9) by_ (by simp)⟩), Blk.far bx_ (p := ⟨w.heap.size + 1, 0, none⟩) (by simp) (.slice A9 n9 c9), Below.setCell bel_ (p := ⟨w.heap.size + 1, 0, none⟩) (by simp) (.slice A9 n9 c9)⟩
      case measure => simp [intOf]
  · have HS1 := Lib.hid hs1; clear hs1
    have by_2031 := Lib.hid (hby)
    clear hby
    have z1_2032 := Lib.hid (hz1)
    clear hz1
    obtain ⟨z_2033, z_2034, z_2035, z_2036, z_2037, z_2038, z_2039, z_2040, z_2041, z_2042⟩ := at10 bx_1029
    obtain ⟨z_2043, z_2044⟩ := at2 by_2031
    have hc := turns_q c A B n k m j ws ts d C D n2 k2 m2 j2 ws2 ts2 p1 p2 p3 p4 wr (RA0.out.below bel_1030.out) (RB0.out.below bel_1030.out) hn hm (RC0.out.below bel_1030.out) (RD0.out.below bel_1030.out) hn2 hm2 HQ.out
    rw [HPT.out, HLT.out] at hc
    have hc := hc
    have HC := Lib.hid hc; clear hc
    go_wp2_with fail
    refine HC.out.mono ?_
    rintro e w_2045 ⟨Ar, nr, kr, rfl, hrd, hb⟩
    clear HC
    clear z_2033 z_2034 z_2035 z_2036 z_2037 z_2038 z_2039 z_2040 z_2041 z_2042 z_2043 z_2044
    replace bx_1029 := kB bx_1029 hb
    replace bel_1030 := bB bel_1030 hb
    replace by_2031 := kB by_2031 hb
    replace z1_2032 := iB z1_2032 hb
    clear hb
    have rl_2046 := Lib.hid (hrd)
    clear hrd
    obtain ⟨z_2047, z_2048, z_2049, z_2050, z_2051, z_2052, z_2053, z_2054, z_2055, z_2056⟩ := at10 bx_1029
    obtain ⟨z_2057, z_2058⟩ := at2 by_2031
    have hl_ : nr ≤ maxLen := by have h1 := (rl_2046.out).len; have h2 := HTL.out; unfold maxLen; omega
    cases hb : slv PT_ LT_
    · have HB := Lib.hid hb; clear hb
      have hv : solveV PT_ LT_ = (Y, false, 0) := by rw [ET.out, HB.out]
      have hc := Solve_any PT_ Ar nr kr LT_ _ rl_2046.out hl_
      rw [hv] at hc
      unfold RetI at hc
      dsimp only at hc
      clear hv
      have hc := hc
      have HC := Lib.hid hc; clear hc
      go_wp2_with fail
      refine HC.out.mono ?_
      rintro e w_3059 ⟨A9, n9, c9, rfl, ho9, hb⟩
      clear HC
      clear z_2047 z_2048 z_2049 z_2050 z_2051 z_2052 z_2053 z_2054 z_2055 z_2056 z_2057 z_2058
      replace bx_1029 := kB bx_1029 hb
      replace bel_1030 := bB bel_1030 hb
      replace by_2031 := kB by_2031 hb
      replace z1_2032 := iB z1_2032 hb
      replace rl_2046 := rB rl_2046 hb
      clear hb
      have hrd9 := (OwnI.rd ho9).1
      clear ho9
      have z9_3060 := Lib.hid (hrd9)
      clear hrd9
      obtain ⟨z_3061, z_3062, z_3063, z_3064, z_3065, z_3066, z_3067, z_3068, z_3069, z_3070⟩ := at10 bx_1029
      obtain ⟨z_3071, z_3072⟩ := at2 by_2031
      have fz_3073 : (w_3059).frozen? ⟨w.heap.size + 1, 0, none⟩ = false := Blk.frozen by_2031.out 0
      have fz_3074 : (w_3059).frozen? ⟨w.heap.size + 1, 1, none⟩ = false := Blk.frozen by_2031.out 1
      have hlb_ := Blk.lt by_2031.out
      have bx_ := bx_1029.out; have by_ := by_2031.out; have bel_ := bel_1030.out; have z9_ := z9_3060.out
      have z1_ := z1_2032.out
      have HK := Lib.hid (And.intro bx_ (And.intro by_ (And.intro bel_ (And.intro z9_ z1_)))); clear bx_ by_ bel_ z9_ z1_
      go_wp2
      obtain ⟨bx_, by_, bel_, z9_, z1_⟩ := HK.out
      refine bodyPost_ret (v := .tuple #[.agg #[.slice none 0 0, .slice none 0 0], .bool false]) (by simp [results, Tryz.results78, go_sem, z_3061, z_3062, z_3063, z_3064, z_3065, z_3066, z_3067, z_3068, z_3069, z_3070, z_3071, z_3072, fz_3073, fz_3074]) rfl ?_
      exact ⟨none, 0, 0, none, 0, 0, by rw [HB.out]; simp, fun h => by rw [HB.out] at h; simp at h, (by have hsz_ := Below.size bel_; repeat' (first | with_reducible exact bel_ | with_reducible exact Below.refl _ _ | with_reducible refine Below.alloc ?_ ?_ _ | with_reducible refine Below.setCell ?_ ?_ _ | with_reducible refine Below.drew ?_ | with_reducible refine below_setRow ?_ ?_ _ | omega | (simp; done) | (simp; omega)))⟩
    · have HB := Lib.hid hb; clear hb
      have hv : solveV PT_ LT_ = (Y, true, 0) := by rw [ET.out, HB.out]
      have hc := Solve_any PT_ Ar nr kr LT_ _ rl_2046.out hl_
      rw [hv] at hc
      unfold RetI at hc
      dsimp only at hc
      clear hv
      have hc := hc
      have HC := Lib.hid hc; clear hc
      go_wp2_with fail
      refine HC.out.mono ?_
      rintro e w_3059 ⟨A9, n9, c9, rfl, ho9, hb⟩
      clear HC
      clear z_2047 z_2048 z_2049 z_2050 z_2051 z_2052 z_2053 z_2054 z_2055 z_2056 z_2057 z_2058
      replace bx_1029 := kB bx_1029 hb
      replace bel_1030 := bB bel_1030 hb
      replace by_2031 := kB by_2031 hb
      replace z1_2032 := iB z1_2032 hb
      replace rl_2046 := rB rl_2046 hb
      clear hb
      have hrd9 := (OwnI.rd ho9).1
      clear ho9
      have z9_3060 := Lib.hid (hrd9)
      clear hrd9
      obtain ⟨z_3061, z_3062, z_3063, z_3064, z_3065, z_3066, z_3067, z_3068, z_3069, z_3070⟩ := at10 bx_1029
      obtain ⟨z_3071, z_3072⟩ := at2 by_2031
      have fz_3073 : (w_3059).frozen? ⟨w.heap.size + 1, 0, none⟩ = false := Blk.frozen by_2031.out 0
      have fz_3074 : (w_3059).frozen? ⟨w.heap.size + 1, 1, none⟩ = false := Blk.frozen by_2031.out 1
      have hlb_ := Blk.lt by_2031.out
      have bx_ := bx_1029.out; have by_ := by_2031.out; have bel_ := bel_1030.out; have z9_ := z9_3060.out
      have z1_ := z1_2032.out
      have HK := Lib.hid (And.intro bx_ (And.intro by_ (And.intro bel_ (And.intro z9_ z1_)))); clear bx_ by_ bel_ z9_ z1_
      go_wp2
      obtain ⟨bx_, by_, bel_, z9_, z1_⟩ := HK.out
      go_roundw
      case rel => exact ⟨.inr (.inr ⟨by go_num, HS1.out, HB.out, A1, n1, c1, A9, n9, c9, Blk.set_ by_ 1 (.slice A9 n9 c9), rdI_setc z1_ ⟨w.heap.size + 1, 1, none⟩ (.slice A9 n9 c9) by_ (by simp), rdI_setc z9_ ⟨w.heap.size + 1, 1, none⟩ (.slice A9 n9 c9) by_ (by simp)⟩), Blk.far bx_ (p := ⟨w.heap.size + 1, 1, none⟩) (by simp) (.slice A9 n9 c9), Below.setCell bel_ (p := ⟨w.heap.size + 1, 1, none⟩) (by simp) (.slice A9 n9 c9)⟩
      case measure => simp [intOf]
  · have HS1 := Lib.hid hs1; clear hs1; have HS2 := Lib.hid hs2; clear hs2
    have by_2031 := Lib.hid (hby)
    clear hby
    have z1_2032 := Lib.hid (hz1)
    have z2_2033 := Lib.hid (hz2)
    clear hz1 hz2
    obtain ⟨z_2034, z_2035, z_2036, z_2037, z_2038, z_2039, z_2040, z_2041, z_2042, z_2043⟩ := at10 bx_1029
    obtain ⟨z_2044, z_2045⟩ := at2 by_2031
    have fz_2046 : (wr).frozen? ⟨w.heap.size + 1, 0, none⟩ = false := Blk.frozen by_2031.out 0
    have fz_2047 : (wr).frozen? ⟨w.heap.size + 1, 1, none⟩ = false := Blk.frozen by_2031.out 1
    have hlb_ := Blk.lt by_2031.out
    have HK := Lib.hid (And.intro (by_2031.out) (And.intro (bel_1030.out) (And.intro (z1_2032.out) (z2_2033.out))))
    go_wp2
    obtain ⟨by_, bel_, z1_, z2_⟩ := HK.out
    refine bodyPost_ret (v := .tuple #[.agg #[.slice A1 n1 c1, .slice A2 n3 c2], .bool true]) (by simp [results, Tryz.results78, go_sem, z_2034, z_2035, z_2036, z_2037, z_2038, z_2039, z_2040, z_2041, z_2042, z_2043, z_2044, z_2045, fz_2046, fz_2047]) rfl ?_
    exact ⟨A1, n1, c1, A2, n3, c2, by rw [HS1.out, HS2.out]; rfl, fun _ => ⟨rdI_setc (rdI_setc z1_ ⟨w.heap.size + 1, 0, none⟩ (.slice A1 n1 c1) by_ (by simp)) ⟨w.heap.size + 1, 1, none⟩ (.slice A2 n3 c2) (Blk.set_ by_ 0 (.slice A1 n1 c1)) (by simp), rdI_setc (rdI_setc z2_ ⟨w.heap.size + 1, 0, none⟩ (.slice A1 n1 c1) by_ (by simp)) ⟨w.heap.size + 1, 1, none⟩ (.slice A2 n3 c2) (Blk.set_ by_ 0 (.slice A1 n1 c1)) (by simp)⟩, (by have hsz_ := Below.size bel_; repeat' (first | with_reducible exact bel_ | with_reducible exact Below.refl _ _ | with_reducible refine Below.alloc ?_ ?_ _ | with_reducible refine Below.setCell ?_ ?_ _ | with_reducible refine Below.drew ?_ | with_reducible refine below_setRow ?_ ?_ _ | omega | (simp; done) | (simp; omega)))⟩
end Go.Proofs.YtaoanagmgheicaaGreat
