import Derived.Test.YtaoanagmgheicaaGreatQMem
set_option maxHeartbeats 2000000
set_option linter.unusedSimpArgs false
set_option linter.unusedVariables false
namespace Go.Proofs.YtaoanagmgheicaaGreat
structure Otl where
 c : Int
 ws : List Bnd
 ts : List Bnd
deriving DecidableEq, Inhabited
structure Prg where
 af : Int
 at2 : Int
 bf : Int
 bt : Int
deriving DecidableEq, Inhabited
def chkO (o : Otl) : Int := if o.c < 3 ∨ 16 < o.c then 1 else if chk (o.c + 1) o.ws ≠ 0 then chk (o.c + 1) o.ws else chk o.c o.ts
def isStr (f t c : Int) : Bool := decide (0 ≤ f) && decide (f < t) && decide (t ≤ c)
def chkOO (a b : Otl) : Int := if chkO a ≠ 0 then chkO a else chkO b
def chkP (a b : Otl) (p : Prg) : Int :=
 if chkOO a b ≠ 0 then chkOO a b else if isStr p.af p.at2 a.c = false then 1 else if isStr p.bf p.bt b.c = false then 1 else if p.at2 - p.af ≠ p.bt - p.bf then 31 else 0
def large (a b : Otl) : Bool := decide (400 < a.ws.length + b.ws.length) || decide (400 < a.ts.length + b.ts.length)
def asked (a b : Otl) (p : Prg) : Int := if chkP a b p ≠ 0 then chkP a b p else if large a b then 2 else 0
def both (a b : Otl) : Int := if chkOO a b ≠ 0 then chkOO a b else if large a b then 2 else 0
def ren (n x lo hi q : Int) : Int := if q < lo then n + q else if hi < q then n + q - (hi - lo + 1) else x + hi - q
def cor (a : Otl) (p : Prg) (q : Int) : Int := ren (a.c + 1) p.af p.bf p.bt q
def sid (a : Otl) (p : Prg) (q : Int) : Int := ren a.c p.af p.bf (p.bt - 1) q
def wayB (a : Otl) (p : Prg) (x : Bnd) : Bnd := ⟨cor a p x.t, cor a p x.f, x.m, x.b⟩
def turnB (a : Otl) (p : Prg) (x : Bnd) : Bnd := ⟨sid a p x.f, sid a p x.t, x.m, x.b⟩
def wayL (a b : Otl) (p : Prg) : List Bnd := a.ws ++ b.ws.map (wayB a p)
def turnL (a b : Otl) (p : Prg) : List Bnd := a.ts ++ b.ts.map (turnB a p)
def wayP (a b : Otl) (p : Prg) : Int := a.c + b.c + 1 - (p.at2 - p.af)
def turnP (a b : Otl) (p : Prg) : Int := a.c + b.c - (p.at2 - p.af)
theorem chkO_ok {o : Otl} (h : chkO o = 0) : 3 ≤ o.c ∧ o.c ≤ 16 ∧ chk (o.c + 1) o.ws = 0 ∧ chk o.c o.ts = 0 := by
 unfold chkO at h
 split at h
 · cases h
 · split at h
   · rename_i h1 h2; exact absurd h h2
   · rename_i h1 h2; exact ⟨by omega, by omega, by simpa using h2, h⟩
theorem chkOO_ok {a b : Otl} (h : chkOO a b = 0) : chkO a = 0 ∧ chkO b = 0 := by
 unfold chkOO at h
 split at h
 · rename_i h1; exact absurd h h1
 · rename_i h1; exact ⟨by simpa using h1, h⟩
theorem isStr_ok {f t c : Int} (h : isStr f t c = true) : 0 ≤ f ∧ f < t ∧ t ≤ c := by
 simpa [isStr, and_assoc] using h
theorem chkP_ok {a b : Otl} {p : Prg} (h : chkP a b p = 0) : chkO a = 0 ∧ chkO b = 0 ∧ (0 ≤ p.af ∧ p.af < p.at2 ∧ p.at2 ≤ a.c) ∧ (0 ≤ p.bf ∧ p.bf < p.bt ∧ p.bt ≤ b.c) ∧ p.at2 - p.af = p.bt - p.bf := by
 unfold chkP at h
 split at h
 · rename_i h1; exact absurd h h1
 · rename_i h1
   obtain ⟨h2, h3⟩ := chkOO_ok (by simpa using h1)
   split at h
   · cases h
   · rename_i h4
     split at h
     · cases h
     · rename_i h5
       split at h
       · cases h
       · rename_i h6
         exact ⟨h2, h3, isStr_ok (by simpa using h4), isStr_ok (by simpa using h5), by simpa using h6⟩
theorem asked_ok {a b : Otl} {p : Prg} (h : asked a b p = 0) : chkP a b p = 0 ∧ a.ws.length + b.ws.length ≤ 400 ∧ a.ts.length + b.ts.length ≤ 400 := by
 unfold asked at h
 split at h
 · rename_i h1; exact absurd h h1
 · rename_i h1
   split at h
   · cases h
   · rename_i h2
     simp only [large, Bool.or_eq_true, decide_eq_true_eq, not_or] at h2
     exact ⟨by simpa using h1, by omega, by omega⟩
theorem both_ok {a b : Otl} (h : both a b = 0) : chkO a = 0 ∧ chkO b = 0 ∧ a.ws.length + b.ws.length ≤ 400 ∧ a.ts.length + b.ts.length ≤ 400 := by
 unfold both at h
 split at h
 · rename_i h1; exact absurd h h1
 · rename_i h1
   split at h
   · cases h
   · rename_i h2
     simp only [large, Bool.or_eq_true, decide_eq_true_eq, not_or] at h2
     obtain ⟨h3, h4⟩ := chkOO_ok (by simpa using h1)
     exact ⟨h3, h4, by omega, by omega⟩
end Go.Proofs.YtaoanagmgheicaaGreat
set_option linter.unusedSimpArgs false
set_option linter.unusedVariables false
namespace Go.Proofs.YtaoanagmgheicaaGreat
open Go.RowKit
theorem ownWays_any (c : Int) (A B : Option Addr) (n k m j : Nat) (w : World) (hc : -1000000 ≤ c) (hc' : c ≤ 1000000) :
 Calls Tryz.prog 63 #[.agg #[.int .i64 c, .slice A n k, .slice B m j], .bool false] w fun e w' => e = .returned (.agg #[.int .i64 (c + 1), .slice A n k]) ∧ Below w.heap.size w w' := by
 go_enter Tryz.func63, Tryz.ntmps63
 go_wp2
 refine bodyPost_ret (v := .agg #[.int .i64 (c + 1), .slice A n k]) (by simp [results, Tryz.results63, go_sem]) rfl ⟨rfl, (by (repeat (first | exact Below.refl _ _ | refine Below.drew ?_ | refine Below.alloc ?_ (by simp) _)))⟩
theorem ownTurns_any (c : Int) (A B : Option Addr) (n k m j : Nat) (w : World) :
 Calls Tryz.prog 63 #[.agg #[.int .i64 c, .slice A n k, .slice B m j], .bool true] w fun e w' => e = .returned (.agg #[.int .i64 c, .slice B m j]) ∧ Below w.heap.size w w' := by
 go_enter Tryz.func63, Tryz.ntmps63
 go_wp2
 refine bodyPost_ret (v := .agg #[.int .i64 c, .slice B m j]) (by simp [results, Tryz.results63, go_sem]) rfl ⟨rfl, (by (repeat (first | exact Below.refl _ _ | refine Below.drew ?_ | refine Below.alloc ?_ (by simp) _)))⟩
set_option maxRecDepth 100000 in
theorem CheckOutline_any (c : Int) (A B : Option Addr) (n k m j : Nat) (ws ts : List Bnd) (w : World) (h1 : RdB w A n k ws) (h2 : RdB w B m j ts) (hn : n ≤ maxLen) (hm : m ≤ maxLen) :
 Calls Tryz.prog 22 #[.agg #[.int .i64 c, .slice A n k, .slice B m j]] w fun e w' => e = .returned (.int .i64 (chkO ⟨c, ws, ts⟩)) ∧ Below w.heap.size w w' := by
 have H1 := Lib.hid h1; have H2 := Lib.hid h2; clear h1 h2
 by_cases h3 : 3 ≤ c
 · by_cases h16 : c ≤ 16
   · obtain ⟨q, hq⟩ : ∃ q, chkO ⟨c, ws, ts⟩ = q := ⟨_, rfl⟩
     rw [hq]
     have HQ := Lib.hid hq; clear hq
     go_enter Tryz.func22, Tryz.ntmps22
     go_wp2
     go_loopw [15] (fun i wr => (i = .int .i64 0 ∨ (i = .int .i64 1 ∧ chk (c + 1) ws = 0) ∨ (i = .int .i64 2 ∧ chk (c + 1) ws = 0 ∧ chk c ts = 0)) ∧ Below (w.heap.size + 1) (w.alloc (.cells #[.int .i64 c, .slice A n k, .slice B m j] 24)) wr) (fun i _ => 2 - (intOf i).toNat)
     case atStart => exact ⟨.inl rfl, Below.refl _ _⟩
     case round =>
      obtain ⟨hi, hb⟩ := hrel
      have hz := box_size hb
      have hc0 : wr.cell? ⟨w.heap.size, 0, none⟩ = some (.int .i64 c) := box_cell hb 0
      have hc1 : wr.cell? ⟨w.heap.size, 1, none⟩ = some (.slice A n k) := box_cell hb 1
      have hc2 : wr.cell? ⟨w.heap.size, 2, none⟩ = some (.slice B m j) := box_cell hb 2
      have ho := box_out hb
      have HB := Lib.hid hb; clear hb
      have hx0 : ∀ W, (Instr.index 91 (.agg #[.bool false, .bool true]) (.int .i64 0)).run Tryz.prog W = .ok (.bool false) W := fun W => by kernel_rfl
      have hx1 : ∀ W, (Instr.index 91 (.agg #[.bool false, .bool true]) (.int .i64 1)).run Tryz.prog W = .ok (.bool true) W := fun W => by kernel_rfl
      rcases hi with rfl | ⟨rfl, k1⟩ | ⟨rfl, k1, k2⟩
      · go_wp2_with fail
        refine (ownWays_any c A B n k m j _ (by omega) (by omega)).mono ?_
        rintro e w2 ⟨rfl, hb2⟩
        go_wp2_with fail
        refine (checkSystem_any (c + 1) A n k ws _ (H1.out.below (ho.trans (hb2.mono ho.size))) hn).mono ?_
        rintro e w3 ⟨rfl, hb3⟩
        have hb23 := hb2.trans (hb3.mono hb2.size)
        have ho3 := ho.trans (hb23.mono ho.size)
        have hb03 := HB.out.trans (hb23.mono hz)
        clear hb2 hb3 hb23
        by_cases hk : chk (c + 1) ws = 0
        · rw [hk]
          have HK := Lib.hid hk; clear hk
          go_wp2
          go_roundw
          case rel => exact ⟨.inr (.inl ⟨by go_num, HK.out⟩), hb03⟩
          case measure => simp [intOf]
        · have hne : (chk (c + 1) ws != 0) = true := by simpa using hk
          have HK := Lib.hid hk; clear hk
          have hq : chk (c + 1) ws = q := by rw [← HQ.out]; unfold chkO; rw [if_neg (by simp; omega), if_pos HK.out]
          rw [hq] at hne ⊢
          clear hq
          go_wp2
          go_ret
          exact ⟨rfl, ho3⟩
      · have K1 := Lib.hid k1; clear k1
        go_wp2_with fail
        refine (ownTurns_any c A B n k m j _).mono ?_
        rintro e w2 ⟨rfl, hb2⟩
        go_wp2_with fail
        refine (checkSystem_any c B m j ts _ (H2.out.below (ho.trans (hb2.mono ho.size))) hm).mono ?_
        rintro e w3 ⟨rfl, hb3⟩
        have hb23 := hb2.trans (hb3.mono hb2.size)
        have ho3 := ho.trans (hb23.mono ho.size)
        have hb03 := HB.out.trans (hb23.mono hz)
        clear hb2 hb3 hb23
        by_cases hk : chk c ts = 0
        · rw [hk]
          have HK := Lib.hid hk; clear hk
          go_wp2
          go_roundw
          case rel => exact ⟨.inr (.inr ⟨by go_num, K1.out, HK.out⟩), hb03⟩
          case measure => simp [intOf]
        · have hne : (chk c ts != 0) = true := by simpa using hk
          have HK := Lib.hid hk; clear hk
          have hq : chk c ts = q := by rw [← HQ.out]; unfold chkO; rw [if_neg (by simp; omega), if_neg (by simpa using K1.out)]
          rw [hq] at hne ⊢
          clear hq
          go_wp2
          go_ret
          exact ⟨rfl, ho3⟩
      · have K1 := Lib.hid k1; have K2 := Lib.hid k2; clear k1 k2
        obtain rfl : q = 0 := by rw [← HQ.out]; unfold chkO; rw [if_neg (by simp; omega), if_neg (by simpa using K1.out)]; exact K2.out
        go_wp2
        go_ret
        exact ⟨rfl, ho⟩
   · go_enter Tryz.func22, Tryz.ntmps22
     go_wp2
     go_ret
     exact ⟨ret_int (by unfold chkO; rw [if_pos (by simp; omega)]), (by (repeat (first | exact Below.refl _ _ | refine Below.drew ?_ | refine Below.alloc ?_ (by simp) _)))⟩
 · go_enter Tryz.func22, Tryz.ntmps22
   go_wp2
   go_ret
   exact ⟨ret_int (by unfold chkO; rw [if_pos (by simp; omega)]), (by (repeat (first | exact Below.refl _ _ | refine Below.drew ?_ | refine Below.alloc ?_ (by simp) _)))⟩
end Go.Proofs.YtaoanagmgheicaaGreat
set_option linter.unusedSimpArgs false
set_option linter.unusedVariables false
namespace Go.Proofs.YtaoanagmgheicaaGreat
open Go.RowKit
theorem isStretch_any (f t c : Int) (w : World) : Calls Tryz.prog 71 #[.agg #[.int .i64 f, .int .i64 t], .int .i64 c] w fun e w' => e = .returned (.bool (isStr f t c)) ∧ Below w.heap.size w w' := by
 by_cases h1 : 0 ≤ f
 · by_cases h2 : f < t
   · go_enter Tryz.func71, Tryz.ntmps71
     go_wp2
     go_ret
     exact ⟨by simp [isStr, h1, h2], (by (repeat (first | exact Below.refl _ _ | refine Below.drew ?_ | refine Below.alloc ?_ (by simp) _)))⟩
   · go_enter Tryz.func71, Tryz.ntmps71
     go_wp2
     go_ret
     exact ⟨ret_bool (Bool.eq_iff_iff.2 (by simp [isStr]; omega)), (by (repeat (first | exact Below.refl _ _ | refine Below.drew ?_ | refine Below.alloc ?_ (by simp) _)))⟩
 · go_enter Tryz.func71, Tryz.ntmps71
   go_wp2
   go_ret
   exact ⟨ret_bool (Bool.eq_iff_iff.2 (by simp [isStr]; omega)), (by (repeat (first | exact Below.refl _ _ | refine Below.drew ?_ | refine Below.alloc ?_ (by simp) _)))⟩
theorem isStretch_is (f t c : Int) (b : Bool) (h : isStr f t c = b) (w : World) : Calls Tryz.prog 71 #[.agg #[.int .i64 f, .int .i64 t], .int .i64 c] w fun e w' => e = .returned (.bool b) ∧ Below w.heap.size w w' := by
 subst h
 exact isStretch_any f t c w
theorem sides_any (f t : Int) (w : World) (h : 0 ≤ f) (h2 : t ≤ 1000) (h3 : 0 ≤ t) (h4 : f ≤ 1000) : Calls Tryz.prog 72 #[.agg #[.int .i64 f, .int .i64 t]] w fun e w' => e = .returned (.int .i64 (t - f)) ∧ Below w.heap.size w w' := by
 go_enter Tryz.func72, Tryz.ntmps72
 go_wp2
 go_ret
 exact ⟨rfl, (by (repeat (first | exact Below.refl _ _ | refine Below.drew ?_ | refine Below.alloc ?_ (by simp) _)))⟩
set_option maxRecDepth 100000 in
theorem checkOutlines_any (c : Int) (A B : Option Addr) (n k m j : Nat) (ws ts : List Bnd) (d : Int) (C D : Option Addr) (n2 k2 m2 j2 : Nat) (ws2 ts2 : List Bnd) (w : World) (h1 : RdB w A n k ws) (h2 : RdB w B m j ts) (hn : n ≤ maxLen) (hm : m ≤ maxLen) (h3 : RdB w C n2 k2 ws2) (h4 : RdB w D m2 j2 ts2) (hn2 : n2 ≤ maxLen) (hm2 : m2 ≤ maxLen) :
 Calls Tryz.prog 70 #[.agg #[.int .i64 c, .slice A n k, .slice B m j], .agg #[.int .i64 d, .slice C n2 k2, .slice D m2 j2]] w fun e w' => e = .returned (.int .i64 (chkOO ⟨c, ws, ts⟩ ⟨d, ws2, ts2⟩)) ∧ Below w.heap.size w w' := by
 obtain ⟨q, hq⟩ : ∃ q, chkO ⟨c, ws, ts⟩ = q := ⟨_, rfl⟩
 obtain ⟨q2, hq2⟩ : ∃ q, chkO ⟨d, ws2, ts2⟩ = q := ⟨_, rfl⟩
 unfold chkOO
 rw [hq, hq2]
 have E1 := Lib.hid hq; have E2 := Lib.hid hq2; clear hq hq2
 by_cases h0 : q = 0
 · rw [if_neg (by simpa using h0)]
   subst h0
   go_enter Tryz.func70, Tryz.ntmps70
   obtain ⟨ba_1, bb_2, bel_3⟩ := ent2 w #[.int .i64 c, .slice A n k, .slice B m j] 24 #[.int .i64 d, .slice C n2 k2, .slice D m2 j2] 24
   have ra_4 := rI h1 bel_3
   have rb_5 := rI h2 bel_3
   have rc_6 := rI h3 bel_3
   have rd_7 := rI h4 bel_3
   clear h1 h2 h3 h4
   obtain ⟨z_8, z_9, z_10⟩ := at3 ba_1
   obtain ⟨z_11, z_12, z_13⟩ := at3 bb_2
   have hc := CheckOutline_any c A B n k m j ws ts _ ra_4.out rb_5.out hn hm
   rw [E1.out] at hc
   try dsimp only at hc
   have HC := Lib.hid hc; clear hc
   go_wp2_with fail
   refine HC.out.mono ?_
   rintro e w_14 ⟨rfl, hb⟩
   clear HC
   clear z_8 z_9 z_10 z_11 z_12 z_13
   have hb_15 := Lib.hid hb
   clear hb
   replace ba_1 := kH ba_1 hb_15
   obtain ⟨z_16, z_17, z_18⟩ := at3 ba_1
   replace bb_2 := kH bb_2 hb_15
   obtain ⟨z_19, z_20, z_21⟩ := at3 bb_2
   replace rc_6 := rH rc_6 hb_15
   replace rd_7 := rH rd_7 hb_15
   have hc := CheckOutline_any d C D n2 k2 m2 j2 ws2 ts2 _ rc_6.out rd_7.out hn2 hm2
   rw [E2.out] at hc
   try dsimp only at hc
   have HC := Lib.hid hc; clear hc
   go_wp2_with fail
   refine HC.out.mono ?_
   rintro e w_22 ⟨rfl, hb⟩
   clear HC
   clear z_16 z_17 z_18 z_19 z_20 z_21
   have hb_23 := Lib.hid hb
   clear hb
   replace ba_1 := kH ba_1 hb_23
   obtain ⟨z_24, z_25, z_26⟩ := at3 ba_1
   replace bb_2 := kH bb_2 hb_23
   obtain ⟨z_27, z_28, z_29⟩ := at3 bb_2
   go_wp2
   go_ret
   replace bel_3 := bH (bH bel_3 hb_15) hb_23
   exact ⟨rfl, bel_3.out⟩
 · rw [if_pos h0]
   have hne : (q != 0) = true := by simpa using h0
   clear h0
   go_enter Tryz.func70, Tryz.ntmps70
   obtain ⟨ba_1, bb_2, bel_3⟩ := ent2 w #[.int .i64 c, .slice A n k, .slice B m j] 24 #[.int .i64 d, .slice C n2 k2, .slice D m2 j2] 24
   have ra_4 := rI h1 bel_3
   have rb_5 := rI h2 bel_3
   have rc_6 := rI h3 bel_3
   have rd_7 := rI h4 bel_3
   clear h1 h2 h3 h4
   obtain ⟨z_8, z_9, z_10⟩ := at3 ba_1
   obtain ⟨z_11, z_12, z_13⟩ := at3 bb_2
   have hc := CheckOutline_any c A B n k m j ws ts _ ra_4.out rb_5.out hn hm
   rw [E1.out] at hc
   try dsimp only at hc
   have HC := Lib.hid hc; clear hc
   go_wp2_with fail
   refine HC.out.mono ?_
   rintro e w_14 ⟨rfl, hb⟩
   clear HC
   clear z_8 z_9 z_10 z_11 z_12 z_13
   have hb_15 := Lib.hid hb
   clear hb
   replace ba_1 := kH ba_1 hb_15
   obtain ⟨z_16, z_17, z_18⟩ := at3 ba_1
   replace bb_2 := kH bb_2 hb_15
   obtain ⟨z_19, z_20, z_21⟩ := at3 bb_2
   go_wp2
   go_ret
   replace bel_3 := bH bel_3 hb_15
   exact ⟨rfl, bel_3.out⟩
set_option maxRecDepth 100000 in
theorem CheckPairing_any (c : Int) (A B : Option Addr) (n k m j : Nat) (ws ts : List Bnd) (d : Int) (C D : Option Addr) (n2 k2 m2 j2 : Nat) (ws2 ts2 : List Bnd) (p1 p2 p3 p4 : Int) (w : World) (h1 : RdB w A n k ws) (h2 : RdB w B m j ts) (hn : n ≤ maxLen) (hm : m ≤ maxLen) (h3 : RdB w C n2 k2 ws2) (h4 : RdB w D m2 j2 ts2) (hn2 : n2 ≤ maxLen) (hm2 : m2 ≤ maxLen) :
 Calls Tryz.prog 24 #[.agg #[.int .i64 c, .slice A n k, .slice B m j], .agg #[.int .i64 d, .slice C n2 k2, .slice D m2 j2], .agg #[.int .i64 p1, .int .i64 p2, .int .i64 p3, .int .i64 p4]] w fun e w' => e = .returned (.int .i64 (chkP ⟨c, ws, ts⟩ ⟨d, ws2, ts2⟩ ⟨p1, p2, p3, p4⟩)) ∧ Below w.heap.size w w' := by
 obtain ⟨q, hq⟩ : ∃ q, chkOO ⟨c, ws, ts⟩ ⟨d, ws2, ts2⟩ = q := ⟨_, rfl⟩
 unfold chkP
 rw [hq]
 have HQ := Lib.hid hq
 have E1 := Lib.hid hq; clear hq
 by_cases h0 : q = 0
 · subst h0
   rw [if_neg (by simp)]
   obtain ⟨o1, o2⟩ := chkOO_ok HQ.out
   have o1 := chkO_ok o1; have o2 := chkO_ok o2
   dsimp only at o1 o2
   have g1 := o1.2.1; have g2 := o2.2.1
   clear o1 o2 HQ
   dsimp only
   cases hs1 : isStr p1 p2 c
   · rw [if_pos rfl]
     have E2 := Lib.hid hs1; clear hs1
     go_enter Tryz.func24, Tryz.ntmps24
     obtain ⟨ba_1, bb_2, bp_3, bel_4⟩ := ent3 w #[.int .i64 c, .slice A n k, .slice B m j] 24 #[.int .i64 d, .slice C n2 k2, .slice D m2 j2] 24 #[.int .i64 p1, .int .i64 p2, .int .i64 p3, .int .i64 p4] 28
     have ra_5 := rI h1 bel_4
     have rb_6 := rI h2 bel_4
     have rc_7 := rI h3 bel_4
     have rd_8 := rI h4 bel_4
     clear h1 h2 h3 h4
     obtain ⟨z_9, z_10, z_11⟩ := at3 ba_1
     obtain ⟨z_12, z_13, z_14⟩ := at3 bb_2
     obtain ⟨z_15, z_16, z_17, z_18⟩ := at4 bp_3
     have hc := checkOutlines_any c A B n k m j ws ts d C D n2 k2 m2 j2 ws2 ts2 _ ra_5.out rb_6.out hn hm rc_7.out rd_8.out hn2 hm2
     rw [E1.out] at hc
     try dsimp only at hc
     have HC := Lib.hid hc; clear hc
     go_wp2_with fail
     refine HC.out.mono ?_
     rintro e w_19 ⟨rfl, hb⟩
     clear HC
     clear z_9 z_10 z_11 z_12 z_13 z_14 z_15 z_16 z_17 z_18
     have hb_20 := Lib.hid hb
     clear hb
     replace ba_1 := kH ba_1 hb_20
     obtain ⟨z_21, z_22, z_23⟩ := at3 ba_1
     replace bb_2 := kH bb_2 hb_20
     obtain ⟨z_24, z_25, z_26⟩ := at3 bb_2
     replace bp_3 := kH bp_3 hb_20
     obtain ⟨z_27, z_28, z_29, z_30⟩ := at4 bp_3
     have hc := isStretch_is p1 p2 c _ E2.out (w_19)
     have HC := Lib.hid hc; clear hc
     go_wp2_with fail
     refine HC.out.mono ?_
     rintro e w_31 ⟨rfl, hb⟩
     clear HC
     clear z_21 z_22 z_23 z_24 z_25 z_26 z_27 z_28 z_29 z_30
     have hb_32 := Lib.hid hb
     clear hb
     replace ba_1 := kH ba_1 hb_32
     obtain ⟨z_33, z_34, z_35⟩ := at3 ba_1
     replace bb_2 := kH bb_2 hb_32
     obtain ⟨z_36, z_37, z_38⟩ := at3 bb_2
     replace bp_3 := kH bp_3 hb_32
     obtain ⟨z_39, z_40, z_41, z_42⟩ := at4 bp_3
     go_wp2
     go_ret
     replace bel_4 := bH (bH bel_4 hb_20) hb_32
     exact ⟨rfl, bel_4.out⟩
   · rw [if_neg (by simp)]
     have i1 := isStr_ok hs1
     have E2 := Lib.hid hs1; clear hs1
     cases hs2 : isStr p3 p4 d
     · rw [if_pos rfl]
       have E3 := Lib.hid hs2; clear hs2
       go_enter Tryz.func24, Tryz.ntmps24
       obtain ⟨ba_1, bb_2, bp_3, bel_4⟩ := ent3 w #[.int .i64 c, .slice A n k, .slice B m j] 24 #[.int .i64 d, .slice C n2 k2, .slice D m2 j2] 24 #[.int .i64 p1, .int .i64 p2, .int .i64 p3, .int .i64 p4] 28
       have ra_5 := rI h1 bel_4
       have rb_6 := rI h2 bel_4
       have rc_7 := rI h3 bel_4
       have rd_8 := rI h4 bel_4
       clear h1 h2 h3 h4
       obtain ⟨z_9, z_10, z_11⟩ := at3 ba_1
       obtain ⟨z_12, z_13, z_14⟩ := at3 bb_2
       obtain ⟨z_15, z_16, z_17, z_18⟩ := at4 bp_3
       have hc := checkOutlines_any c A B n k m j ws ts d C D n2 k2 m2 j2 ws2 ts2 _ ra_5.out rb_6.out hn hm rc_7.out rd_8.out hn2 hm2
       rw [E1.out] at hc
       try dsimp only at hc
       have HC := Lib.hid hc; clear hc
       go_wp2_with fail
       refine HC.out.mono ?_
       rintro e w_19 ⟨rfl, hb⟩
       clear HC
       clear z_9 z_10 z_11 z_12 z_13 z_14 z_15 z_16 z_17 z_18
       have hb_20 := Lib.hid hb
       clear hb
       replace ba_1 := kH ba_1 hb_20
       obtain ⟨z_21, z_22, z_23⟩ := at3 ba_1
       replace bb_2 := kH bb_2 hb_20
       obtain ⟨z_24, z_25, z_26⟩ := at3 bb_2
       replace bp_3 := kH bp_3 hb_20
       obtain ⟨z_27, z_28, z_29, z_30⟩ := at4 bp_3
       have hc := isStretch_is p1 p2 c _ E2.out (w_19)
       have HC := Lib.hid hc; clear hc
       go_wp2_with fail
       refine HC.out.mono ?_
       rintro e w_31 ⟨rfl, hb⟩
       clear HC
       clear z_21 z_22 z_23 z_24 z_25 z_26 z_27 z_28 z_29 z_30
       have hb_32 := Lib.hid hb
       clear hb
       replace ba_1 := kH ba_1 hb_32
       obtain ⟨z_33, z_34, z_35⟩ := at3 ba_1
       replace bb_2 := kH bb_2 hb_32
       obtain ⟨z_36, z_37, z_38⟩ := at3 bb_2
       replace bp_3 := kH bp_3 hb_32
       obtain ⟨z_39, z_40, z_41, z_42⟩ := at4 bp_3
       have hc := isStretch_is p3 p4 d _ E3.out (w_31)
       have HC := Lib.hid hc; clear hc
       go_wp2_with fail
       refine HC.out.mono ?_
       rintro e w_43 ⟨rfl, hb⟩
       clear HC
       clear z_33 z_34 z_35 z_36 z_37 z_38 z_39 z_40 z_41 z_42
       have hb_44 := Lib.hid hb
       clear hb
       replace ba_1 := kH ba_1 hb_44
       obtain ⟨z_45, z_46, z_47⟩ := at3 ba_1
       replace bb_2 := kH bb_2 hb_44
       obtain ⟨z_48, z_49, z_50⟩ := at3 bb_2
       replace bp_3 := kH bp_3 hb_44
       obtain ⟨z_51, z_52, z_53, z_54⟩ := at4 bp_3
       go_wp2
       go_ret
       replace bel_4 := bH (bH (bH bel_4 hb_20) hb_32) hb_44
       exact ⟨rfl, bel_4.out⟩
     · rw [if_neg (by simp)]
       have i2 := isStr_ok hs2
       have E3 := Lib.hid hs2; clear hs2
       by_cases hk : p2 - p1 = p4 - p3
       · rw [if_neg (by simpa using hk)]
         have hkb : (p2 - p1 != p4 - p3) = false := by simpa using hk
         clear hk
         go_enter Tryz.func24, Tryz.ntmps24
         obtain ⟨ba_1, bb_2, bp_3, bel_4⟩ := ent3 w #[.int .i64 c, .slice A n k, .slice B m j] 24 #[.int .i64 d, .slice C n2 k2, .slice D m2 j2] 24 #[.int .i64 p1, .int .i64 p2, .int .i64 p3, .int .i64 p4] 28
         have ra_5 := rI h1 bel_4
         have rb_6 := rI h2 bel_4
         have rc_7 := rI h3 bel_4
         have rd_8 := rI h4 bel_4
         clear h1 h2 h3 h4
         obtain ⟨z_9, z_10, z_11⟩ := at3 ba_1
         obtain ⟨z_12, z_13, z_14⟩ := at3 bb_2
         obtain ⟨z_15, z_16, z_17, z_18⟩ := at4 bp_3
         have hc := checkOutlines_any c A B n k m j ws ts d C D n2 k2 m2 j2 ws2 ts2 _ ra_5.out rb_6.out hn hm rc_7.out rd_8.out hn2 hm2
         rw [E1.out] at hc
         try dsimp only at hc
         have HC := Lib.hid hc; clear hc
         go_wp2_with fail
         refine HC.out.mono ?_
         rintro e w_19 ⟨rfl, hb⟩
         clear HC
         clear z_9 z_10 z_11 z_12 z_13 z_14 z_15 z_16 z_17 z_18
         have hb_20 := Lib.hid hb
         clear hb
         replace ba_1 := kH ba_1 hb_20
         obtain ⟨z_21, z_22, z_23⟩ := at3 ba_1
         replace bb_2 := kH bb_2 hb_20
         obtain ⟨z_24, z_25, z_26⟩ := at3 bb_2
         replace bp_3 := kH bp_3 hb_20
         obtain ⟨z_27, z_28, z_29, z_30⟩ := at4 bp_3
         have hc := isStretch_is p1 p2 c _ E2.out (w_19)
         have HC := Lib.hid hc; clear hc
         go_wp2_with fail
         refine HC.out.mono ?_
         rintro e w_31 ⟨rfl, hb⟩
         clear HC
         clear z_21 z_22 z_23 z_24 z_25 z_26 z_27 z_28 z_29 z_30
         have hb_32 := Lib.hid hb
         clear hb
         replace ba_1 := kH ba_1 hb_32
         obtain ⟨z_33, z_34, z_35⟩ := at3 ba_1
         replace bb_2 := kH bb_2 hb_32
         obtain ⟨z_36, z_37, z_38⟩ := at3 bb_2
         replace bp_3 := kH bp_3 hb_32
         obtain ⟨z_39, z_40, z_41, z_42⟩ := at4 bp_3
         have hc := isStretch_is p3 p4 d _ E3.out (w_31)
         have HC := Lib.hid hc; clear hc
         go_wp2_with fail
         refine HC.out.mono ?_
         rintro e w_43 ⟨rfl, hb⟩
         clear HC
         clear z_33 z_34 z_35 z_36 z_37 z_38 z_39 z_40 z_41 z_42
         have hb_44 := Lib.hid hb
         clear hb
         replace ba_1 := kH ba_1 hb_44
         obtain ⟨z_45, z_46, z_47⟩ := at3 ba_1
         replace bb_2 := kH bb_2 hb_44
         obtain ⟨z_48, z_49, z_50⟩ := at3 bb_2
         replace bp_3 := kH bp_3 hb_44
         obtain ⟨z_51, z_52, z_53, z_54⟩ := at4 bp_3
         go_wp2_with fail
         clear z_45 z_46 z_47 z_48 z_49 z_50 z_51 z_52 z_53 z_54
         replace bel_4 := bD (bH (bH (bH bel_4 hb_20) hb_32) hb_44)
         replace ra_5 := rD (rH (rH (rH ra_5 hb_20) hb_32) hb_44)
         replace rb_6 := rD (rH (rH (rH rb_6 hb_20) hb_32) hb_44)
         replace rc_7 := rD (rH (rH (rH rc_7 hb_20) hb_32) hb_44)
         replace rd_8 := rD (rH (rH (rH rd_8 hb_20) hb_32) hb_44)
         replace ba_1 := kD ba_1
         replace bb_2 := kD bb_2
         replace bp_3 := kD bp_3
         refine wp_region_held_drew (S := (fun W' => Blk W' (w.heap.size + 1 + 1) 28 #[.int .i64 p1, .int .i64 p2, .int .i64 p3, .int .i64 p4])) (by kernel_rfl) bp_3.out (fun _ => ?_)
         obtain ⟨w1, hw2⟩ : ∃ w', w' = (w_43.drew) := ⟨_, rfl⟩
         rw [← hw2] at bel_4 ra_5 rb_6 rc_7 rd_8 ba_1 bb_2 bp_3
         rw [← hw2]
         clear hw2
         refine' twH 0 bp_3.out ?_
         refine' tkH 1 bp_3.out ?hyR4 ?_
         case hyR4 => (rintro W' hS0; have hc0 := Blk.nth hS0 0; have hc1 := Blk.nth hS0 1; clear hS0; go_simp; try with_reducible rfl)
         refine' twH 3 bp_3.out ?_
         refine' tkH 4 bp_3.out ?hyR6 ?_
         case hyR6 => (rintro W' hS0; have hc0 := Blk.nth hS0 2; have hc1 := Blk.nth hS0 3; clear hS0; go_simp; try with_reducible rfl)
         try simp only [Act.put, qsA, qsZ, qsS]
         refine oneH 2 rfl fun K hK => ?_
         go_simp
         go_at_call 72
         refine (sides_any p1 p2 _ (by omega) (by omega) (by omega) (by omega)).mono ?_
         rintro e w7 ⟨rfl, hb8⟩
         dsimp only
         replace hb8 := Lib.hid hb8
         replace bp_3 := kH bp_3 hb8
         refine hK.out _ _ bp_3.out (fun _ => ?_); clear hK K
         try simp only [Act.put, qsA, qsZ, qsS]
         refine oneH 5 rfl fun K hK => ?_
         go_simp
         go_at_call 72
         refine (sides_any p3 p4 _ (by omega) (by omega) (by omega) (by omega)).mono ?_
         rintro e w9 ⟨rfl, hb10⟩
         dsimp only
         replace hb10 := Lib.hid hb10
         replace bp_3 := kH bp_3 hb10
         refine hK.out _ _ bp_3.out (fun _ => ?_); clear hK K
         try simp only [Act.put, qsA, qsZ, qsS]
         refine' twH 6 bp_3.out ?_
         try simp only [Act.put, qsA, qsZ, qsS]
         refine wpAnyH_done (by kernel_rfl) ?_ _
         go_wp2
         go_ret
         replace bel_4 := bH (bH bel_4 hb8) hb10
         exact ⟨rfl, bel_4.out⟩
       · rw [if_pos hk]
         have hkb : (p2 - p1 != p4 - p3) = true := by simpa using hk
         clear hk
         go_enter Tryz.func24, Tryz.ntmps24
         obtain ⟨ba_1, bb_2, bp_3, bel_4⟩ := ent3 w #[.int .i64 c, .slice A n k, .slice B m j] 24 #[.int .i64 d, .slice C n2 k2, .slice D m2 j2] 24 #[.int .i64 p1, .int .i64 p2, .int .i64 p3, .int .i64 p4] 28
         have ra_5 := rI h1 bel_4
         have rb_6 := rI h2 bel_4
         have rc_7 := rI h3 bel_4
         have rd_8 := rI h4 bel_4
         clear h1 h2 h3 h4
         obtain ⟨z_9, z_10, z_11⟩ := at3 ba_1
         obtain ⟨z_12, z_13, z_14⟩ := at3 bb_2
         obtain ⟨z_15, z_16, z_17, z_18⟩ := at4 bp_3
         have hc := checkOutlines_any c A B n k m j ws ts d C D n2 k2 m2 j2 ws2 ts2 _ ra_5.out rb_6.out hn hm rc_7.out rd_8.out hn2 hm2
         rw [E1.out] at hc
         try dsimp only at hc
         have HC := Lib.hid hc; clear hc
         go_wp2_with fail
         refine HC.out.mono ?_
         rintro e w_19 ⟨rfl, hb⟩
         clear HC
         clear z_9 z_10 z_11 z_12 z_13 z_14 z_15 z_16 z_17 z_18
         have hb_20 := Lib.hid hb
         clear hb
         replace ba_1 := kH ba_1 hb_20
         obtain ⟨z_21, z_22, z_23⟩ := at3 ba_1
         replace bb_2 := kH bb_2 hb_20
         obtain ⟨z_24, z_25, z_26⟩ := at3 bb_2
         replace bp_3 := kH bp_3 hb_20
         obtain ⟨z_27, z_28, z_29, z_30⟩ := at4 bp_3
         have hc := isStretch_is p1 p2 c _ E2.out (w_19)
         have HC := Lib.hid hc; clear hc
         go_wp2_with fail
         refine HC.out.mono ?_
         rintro e w_31 ⟨rfl, hb⟩
         clear HC
         clear z_21 z_22 z_23 z_24 z_25 z_26 z_27 z_28 z_29 z_30
         have hb_32 := Lib.hid hb
         clear hb
         replace ba_1 := kH ba_1 hb_32
         obtain ⟨z_33, z_34, z_35⟩ := at3 ba_1
         replace bb_2 := kH bb_2 hb_32
         obtain ⟨z_36, z_37, z_38⟩ := at3 bb_2
         replace bp_3 := kH bp_3 hb_32
         obtain ⟨z_39, z_40, z_41, z_42⟩ := at4 bp_3
         have hc := isStretch_is p3 p4 d _ E3.out (w_31)
         have HC := Lib.hid hc; clear hc
         go_wp2_with fail
         refine HC.out.mono ?_
         rintro e w_43 ⟨rfl, hb⟩
         clear HC
         clear z_33 z_34 z_35 z_36 z_37 z_38 z_39 z_40 z_41 z_42
         have hb_44 := Lib.hid hb
         clear hb
         replace ba_1 := kH ba_1 hb_44
         obtain ⟨z_45, z_46, z_47⟩ := at3 ba_1
         replace bb_2 := kH bb_2 hb_44
         obtain ⟨z_48, z_49, z_50⟩ := at3 bb_2
         replace bp_3 := kH bp_3 hb_44
         obtain ⟨z_51, z_52, z_53, z_54⟩ := at4 bp_3
         go_wp2_with fail
         clear z_45 z_46 z_47 z_48 z_49 z_50 z_51 z_52 z_53 z_54
         replace bel_4 := bD (bH (bH (bH bel_4 hb_20) hb_32) hb_44)
         replace ra_5 := rD (rH (rH (rH ra_5 hb_20) hb_32) hb_44)
         replace rb_6 := rD (rH (rH (rH rb_6 hb_20) hb_32) hb_44)
         replace rc_7 := rD (rH (rH (rH rc_7 hb_20) hb_32) hb_44)
         replace rd_8 := rD (rH (rH (rH rd_8 hb_20) hb_32) hb_44)
         replace ba_1 := kD ba_1
         replace bb_2 := kD bb_2
         replace bp_3 := kD bp_3
         refine wp_region_held_drew (S := (fun W' => Blk W' (w.heap.size + 1 + 1) 28 #[.int .i64 p1, .int .i64 p2, .int .i64 p3, .int .i64 p4])) (by kernel_rfl) bp_3.out (fun _ => ?_)
         obtain ⟨w12, hw13⟩ : ∃ w', w' = (w_43.drew) := ⟨_, rfl⟩
         rw [← hw13] at bel_4 ra_5 rb_6 rc_7 rd_8 ba_1 bb_2 bp_3
         rw [← hw13]
         clear hw13
         refine' twH 0 bp_3.out ?_
         refine' tkH 1 bp_3.out ?hyR15 ?_
         case hyR15 => (rintro W' hS0; have hc0 := Blk.nth hS0 0; have hc1 := Blk.nth hS0 1; clear hS0; go_simp; try with_reducible rfl)
         refine' twH 3 bp_3.out ?_
         refine' tkH 4 bp_3.out ?hyR17 ?_
         case hyR17 => (rintro W' hS0; have hc0 := Blk.nth hS0 2; have hc1 := Blk.nth hS0 3; clear hS0; go_simp; try with_reducible rfl)
         try simp only [Act.put, qsA, qsZ, qsS]
         refine oneH 2 rfl fun K hK => ?_
         go_simp
         go_at_call 72
         refine (sides_any p1 p2 _ (by omega) (by omega) (by omega) (by omega)).mono ?_
         rintro e w18 ⟨rfl, hb19⟩
         dsimp only
         replace hb19 := Lib.hid hb19
         replace bp_3 := kH bp_3 hb19
         refine hK.out _ _ bp_3.out (fun _ => ?_); clear hK K
         try simp only [Act.put, qsA, qsZ, qsS]
         refine oneH 5 rfl fun K hK => ?_
         go_simp
         go_at_call 72
         refine (sides_any p3 p4 _ (by omega) (by omega) (by omega) (by omega)).mono ?_
         rintro e w20 ⟨rfl, hb21⟩
         dsimp only
         replace hb21 := Lib.hid hb21
         replace bp_3 := kH bp_3 hb21
         refine hK.out _ _ bp_3.out (fun _ => ?_); clear hK K
         try simp only [Act.put, qsA, qsZ, qsS]
         refine' twH 6 bp_3.out ?_
         try simp only [Act.put, qsA, qsZ, qsS]
         refine wpAnyH_done (by kernel_rfl) ?_ _
         go_wp2
         go_ret
         replace bel_4 := bH (bH bel_4 hb19) hb21
         exact ⟨rfl, bel_4.out⟩
 · rw [if_pos h0]
   have hne : (q != 0) = true := by simpa using h0
   clear h0
   go_enter Tryz.func24, Tryz.ntmps24
   obtain ⟨ba_1, bb_2, bp_3, bel_4⟩ := ent3 w #[.int .i64 c, .slice A n k, .slice B m j] 24 #[.int .i64 d, .slice C n2 k2, .slice D m2 j2] 24 #[.int .i64 p1, .int .i64 p2, .int .i64 p3, .int .i64 p4] 28
   have ra_5 := rI h1 bel_4
   have rb_6 := rI h2 bel_4
   have rc_7 := rI h3 bel_4
   have rd_8 := rI h4 bel_4
   clear h1 h2 h3 h4
   obtain ⟨z_9, z_10, z_11⟩ := at3 ba_1
   obtain ⟨z_12, z_13, z_14⟩ := at3 bb_2
   obtain ⟨z_15, z_16, z_17, z_18⟩ := at4 bp_3
   have hc := checkOutlines_any c A B n k m j ws ts d C D n2 k2 m2 j2 ws2 ts2 _ ra_5.out rb_6.out hn hm rc_7.out rd_8.out hn2 hm2
   rw [E1.out] at hc
   try dsimp only at hc
   have HC := Lib.hid hc; clear hc
   go_wp2_with fail
   refine HC.out.mono ?_
   rintro e w_19 ⟨rfl, hb⟩
   clear HC
   clear z_9 z_10 z_11 z_12 z_13 z_14 z_15 z_16 z_17 z_18
   have hb_20 := Lib.hid hb
   clear hb
   replace ba_1 := kH ba_1 hb_20
   obtain ⟨z_21, z_22, z_23⟩ := at3 ba_1
   replace bb_2 := kH bb_2 hb_20
   obtain ⟨z_24, z_25, z_26⟩ := at3 bb_2
   replace bp_3 := kH bp_3 hb_20
   obtain ⟨z_27, z_28, z_29, z_30⟩ := at4 bp_3
   go_wp2
   go_ret
   replace bel_4 := bH bel_4 hb_20
   exact ⟨rfl, bel_4.out⟩
end Go.Proofs.YtaoanagmgheicaaGreat
