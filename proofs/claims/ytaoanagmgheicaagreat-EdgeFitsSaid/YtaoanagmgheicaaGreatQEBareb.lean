import Derived.Test.YtaoanagmgheicaaGreatQEPair
import Derived.Laws.AppendOwnNone
import Derived.Test.YtaoanagmgheicaaGreatQWlk
set_option maxHeartbeats 4000000
set_option linter.unusedSimpArgs false
set_option linter.unusedVariables false
namespace Go.Proofs.YtaoanagmgheicaaGreat
structure Stc where
 f : Int
 t : Int
deriving DecidableEq, Inhabited
def inS (s : Stc) (i : Int) : Bool := decide (s.f ≤ i) && decide (i < s.t)
def covL (l : List Stc) (i : Int) : Bool := l.any (fun s => inS s i)
def bareN (l : List Stc) (c : Nat) : List Int := ((List.range c).map (fun i : Nat => (i : Int))).filter (fun i => !covL l i)
theorem bareN_succ (l : List Stc) (c : Nat) : bareN l (c + 1) = if covL l c then bareN l c else bareN l c ++ [(c : Int)] := by
 unfold bareN
 rw [List.range_succ, List.map_append, List.filter_append]
 by_cases h : covL l c = true
 · rw [if_pos h]; simp [h]
 · rw [if_neg h]; simp [h]
theorem bareN_len (l : List Stc) (c : Nat) : (bareN l c).length ≤ c := by
 unfold bareN
 exact Nat.le_trans (List.length_filter_le _ _) (by simp)
def overB (s t : Stc) : Bool := decide (max s.f t.f < min s.t t.t)
theorem over_comm (s t : Stc) : overB t s = overB s t := by
 unfold overB
 congr 1
 apply propext
 omega
theorem over_ref (s t : Stc) : (decide (s.f < s.t) && decide (t.f < t.t) && decide (s.f < t.t) && decide (t.f < s.t)) = overB s t := by
 unfold overB
 rw [Bool.eq_iff_iff]
 simp only [Bool.and_eq_true, decide_eq_true_eq]
 omega
def inN (a b : Int) (c : Nat) : List Int := ((List.range c).map (fun i : Nat => (i : Int))).filter (fun i => decide (a ≤ i) && decide (i < b))
theorem inN_len {a b : Int} (ha : 0 ≤ a) (hab : a < b) : ∀ (c : Nat), ((inN a b c).length : Int) = if (c : Int) ≤ a then 0 else if (c : Int) ≤ b then c - a else b - a
 | 0 => by simp [inN, ha]
 | c + 1 => by
  have ih := inN_len ha hab c
  have e : inN a b (c + 1) = if a ≤ (c : Int) ∧ (c : Int) < b then inN a b c ++ [(c : Int)] else inN a b c := by
   unfold inN
   rw [List.range_succ, List.map_append, List.filter_append]
   by_cases h : a ≤ (c : Int) ∧ (c : Int) < b
   · rw [if_pos h]; simp [h]
   · rw [if_neg h]
     have : (decide (a ≤ (c : Int)) && decide ((c : Int) < b)) = false := by simp; omega
     simp [this]
  rw [e]
  by_cases h : a ≤ (c : Int) ∧ (c : Int) < b
  · rw [if_pos h, List.length_append]
    simp only [List.length_singleton, Int.natCast_add, Int.natCast_one]
    rw [ih]
    split <;> split <;> (try split) <;> (try split) <;> omega
  · rw [if_neg h, ih]
    split <;> split <;> (try split) <;> (try split) <;> omega
theorem free_iff {s t : Stc} {c : Nat} (hs : 0 ≤ s.f ∧ s.f < s.t ∧ s.t ≤ c) (ht : 0 ≤ t.f ∧ t.f < t.t ∧ t.t ≤ c) :
 overB s t = decide ((((bareN [s] c).filter (inS t)).length : Int) < t.t - t.f) := by
 have e : (bareN [s] c).filter (inS t) = (inN t.f t.t c).filter (fun i => !inS s i) := by
  unfold bareN inN
  rw [List.filter_filter, List.filter_filter]
  congr 1
  funext i
  simp only [covL, List.any_cons, List.any_nil, Bool.or_false, inS]
  exact Bool.and_comm _ _
 have hl : ((inN t.f t.t c).length : Int) = t.t - t.f := by
  rw [inN_len ht.1 ht.2.1 c]
  split
  · omega
  · split <;> omega
 rw [e, ← hl, Bool.eq_iff_iff]
 simp only [decide_eq_true_eq, Int.ofNat_lt]
 rw [List.length_filter_lt_length_iff_exists]
 unfold overB
 simp only [decide_eq_true_eq]
 constructor
 · intro h
   refine ⟨max s.f t.f, ?_, ?_⟩
   · unfold inN
     rw [List.mem_filter]
     refine ⟨List.mem_map.2 ⟨(max s.f t.f).toNat, List.mem_range.2 (by omega), by omega⟩, ?_⟩
     simp only [Bool.and_eq_true, decide_eq_true_eq]
     omega
   · simp only [inS]
     simp
     omega
 · rintro ⟨x, hx, hn⟩
   unfold inN at hx
   rw [List.mem_filter] at hx
   have h2 := hx.2
   simp only [Bool.and_eq_true, decide_eq_true_eq] at h2
   simp only [inS] at hn
   simp at hn
   omega
def barE (o : Otl) (l : List Stc) : Int := if chkO o ≠ 0 then chkO o else if 100 < l.length then 2 else if l.all (fun s => isStr s.f s.t o.c) then 0 else 1
def barL (o : Otl) (l : List Stc) : List Int := if barE o l = 0 then bareN l o.c.toNat else []
end Go.Proofs.YtaoanagmgheicaaGreat
set_option linter.unusedSimpArgs false
set_option linter.unusedVariables false
namespace Go.Proofs.YtaoanagmgheicaaGreat
open Go.RowKit
def Stc.cells (x : Stc) : List Value := [.int .i64 x.f, .int .i64 x.t]
def scells (l : List Stc) : List Value := l.flatMap Stc.cells
theorem scells_length (l : List Stc) : (scells l).length = l.length * 2 := by
 induction l with
 | nil => rfl
 | cons x l ih => simp only [scells, List.flatMap_cons, List.length_append, List.length_cons] at ih ⊢; rw [ih]; simp [Stc.cells]; omega
theorem scells_get (l : List Stc) (k j : Nat) (x : Stc) (h : l[k]? = some x) (hj : j < 2) : (scells l)[k * 2 + j]? = x.cells[j]? := by
 induction l generalizing k with
 | nil => simp at h
 | cons y l ih =>
  cases k with
  | zero =>
   simp at h
   subst h
   simp only [scells, List.flatMap_cons, Nat.zero_mul, Nat.zero_add]
   rw [List.getElem?_append_left (by simp [Stc.cells]; omega)]
  | succ k =>
   simp only [scells, List.flatMap_cons]
   rw [List.getElem?_append_right (by simp [Stc.cells]; omega)]
   have e : (k + 1) * 2 + j - y.cells.length = k * 2 + j := by simp [Stc.cells]; omega
   rw [e]
   exact ih k (by simpa using h)
structure RdS (w : World) (A : Option Addr) (n c : Nat) (l : List Stc) : Prop where
 len : l.length = n
 cap : n ≤ c
 nil : A = none → n = 0 ∧ c = 0
 cells : Cells w A (scells l)
theorem RdS.below {w w' : World} {A : Option Addr} {n c : Nat} {l : List Stc} (h : RdS w A n c l) (hb : Below w.heap.size w w') : RdS w' A n c l := ⟨h.len, h.cap, h.nil, h.cells.below hb⟩
theorem RdS.alloc {w : World} {A : Option Addr} {n c : Nat} {l : List Stc} (h : RdS w A n c l) (o : Obj) : RdS (w.alloc o) A n c l := ⟨h.len, h.cap, h.nil, h.cells.alloc o⟩
theorem RdS.drew {w : World} {A : Option Addr} {n c : Nat} {l : List Stc} (h : RdS w A n c l) : RdS w.drew A n c l := ⟨h.len, h.cap, h.nil, h.cells.drew⟩
theorem RdS.get {w : World} {A : Option Addr} {n c : Nat} {l : List Stc} (h : RdS w A n c l) {k : Nat} (hk : k < n) : ∃ b o f t, A = some ⟨b, o, none⟩ ∧ b < w.heap.size ∧ l[k]? = some ⟨f, t⟩ ∧
 w.cell? ⟨b, o + k * 2, none⟩ = some (.int .i64 f) ∧ w.cell? ⟨b, o + k * 2 + 1, none⟩ = some (.int .i64 t) := by
 have hl : k < l.length := by rw [h.len]; exact hk
 rcases h.cells with h0 | ⟨b, o, e, hlt, hc⟩
 · have := congrArg List.length h0
   rw [scells_length] at this
   simp only [List.length_nil] at this
   omega
 · have hx := List.getElem?_eq_getElem hl
   have g := fun j hj => scells_get l k j l[k] hx hj
   refine ⟨b, o, _, _, e, hlt, hx, ?_, ?_⟩
   · have := hc (k * 2 + 0) _ (g 0 (by omega)); rwa [Nat.add_zero] at this
   · have := hc (k * 2 + 1) _ (g 1 (by omega)); rwa [← Nat.add_assoc] at this
theorem rdS_at {w : World} {b o n c : Nat} {l : List Stc} {k : Nat} {f t : Int} (h : RdS w (some ⟨b, o, none⟩) n c l) (hx : l[k]? = some ⟨f, t⟩) : w.cell? ⟨b, o + k * 2, none⟩ = some (.int .i64 f) ∧ w.cell? ⟨b, o + k * 2 + 1, none⟩ = some (.int .i64 t) := by
 have hk : k < n := by rw [← h.len]; exact (List.getElem?_eq_some_iff.1 hx).1
 obtain ⟨b', o', f', t', e, -, hx', h0, h1⟩ := h.get hk
 rw [hx] at hx'
 cases hx'
 cases e
 exact ⟨h0, h1⟩
theorem rdS_one {w : World} {g : Nat} {t : TypeId} {s1 s2 : Int} (h : Blk w g t #[.int .i64 s1, .int .i64 s2]) : RdS w (some ⟨g, 0, none⟩) 1 1 [⟨s1, s2⟩] := by
 refine ⟨rfl, Nat.le_refl _, (fun h => by cases h), .inr ⟨g, 0, rfl, h.lt, fun j u hu => ?_⟩⟩
 rw [Nat.zero_add, h.cell]
 match j, hu with
 | 0, hu => simpa [scells, Stc.cells] using hu
 | 1, hu => simpa [scells, Stc.cells] using hu
 | j + 2, hu => simp [scells, Stc.cells] at hu
end Go.Proofs.YtaoanagmgheicaaGreat
set_option linter.unusedSimpArgs false
set_option linter.unusedVariables false
namespace Go.Proofs.YtaoanagmgheicaaGreat
open Go.RowKit
set_option maxRecDepth 100000 in
theorem Overlap_any (s1 s2 t1 t2 : Int) (w : World) :
 Calls Tryz.prog 56 #[.agg #[.int .i64 s1, .int .i64 s2], .agg #[.int .i64 t1, .int .i64 t2]] w fun e w' => e = .returned (.bool (overB ⟨s1, s2⟩ ⟨t1, t2⟩)) ∧ Below w.heap.size w w' := by
  go_enter Tryz.func56, Tryz.ntmps56
  obtain ⟨b1_1, b2_2, bel_3⟩ := ent2 w #[.int .i64 s1, .int .i64 s2] 26 #[.int .i64 t1, .int .i64 t2] 26
  obtain ⟨z_4, z_5⟩ := at2 b1_1
  obtain ⟨z_6, z_7⟩ := at2 b2_2
  go_wp2
  all_goals go_ret
  all_goals exact ⟨ret_bool (by unfold overB; first | rfl | (rw [Bool.eq_iff_iff]; simp only [decide_eq_true_eq]; omega)), bel_3.out⟩
def covA (P : Int → Bool) : Array Value := ((List.range 16).map fun i : Nat => Value.bool (P i)).toArray
theorem cov_step (b : Bool) (f p z : Int) (h : f ≤ p) : (b || (decide (f ≤ z) && decide (z < p + 1))) = (decide (z = p) || (b || (decide (f ≤ z) && decide (z < p)))) := by
 rw [Bool.eq_iff_iff]
 simp only [Bool.or_eq_true, Bool.and_eq_true, decide_eq_true_eq]
 cases b
 · simp only [Bool.false_eq_true, false_or]
   omega
 · simp
theorem covA_get (P : Int → Bool) {i : Nat} (h : i < 16) : (covA P)[i]? = some (.bool (P i)) := by simp [covA, h]
theorem covA_set (P : Int → Bool) {i : Nat} (h : i < 16) : (covA P).setIfInBounds i (.bool true) = covA (fun z => decide (z = (i : Int)) || P z) := by
 unfold covA
 rw [List.setIfInBounds_toArray]
 congr 1
 apply List.ext_getElem (by simp)
 intro k h1 h2
 rw [List.getElem_set]
 simp only [List.getElem_map, List.getElem_range]
 by_cases e : i = k
 · subst e; simp
 · rw [if_neg e, show decide ((k : Int) = (i : Int)) = false from decide_eq_false (by omega)]; rfl
theorem zero_cov : (∀ w, (zeroValue 135).run Tryz.prog w = .ok (.agg (covA fun _ => false)) w) ∧ (Tryz.prog.info? 135).map (·.size) = some 16 :=
 zero_of_info (by kernel_rfl)
set_option maxRecDepth 100000 in
theorem Bare_err (c : Int) (A B : Option Addr) (n k m j : Nat) (ws ts : List Bnd) (w : World) (h1 : RdB w A n k ws) (h2 : RdB w B m j ts) (hn : n ≤ maxLen) (hm : m ≤ maxLen) (S : Option Addr) (sn sk : Nat) (l : List Stc) (hs : RdS w S sn sk l) (hsm : sn ≤ maxLen) (q : Int) (hq : (q != 0) = true) (E1 : Hid (chkO ⟨c, ws, ts⟩ = q)) :
 Calls Tryz.prog 54 #[.agg #[.int .i64 c, .slice A n k, .slice B m j], .slice S sn sk] w fun e w' => ∃ R rn rk, e = .returned (.tuple #[.slice R rn rk, .int .i64 q]) ∧ OwnI w' w.heap.size R rn rk [] ∧ Below w.heap.size w w' := by
  go_enter Tryz.func54, Tryz.ntmps54
  obtain ⟨ba_1, bel_2⟩ := ent1 w #[.int .i64 c, .slice A n k, .slice B m j] 24
  have ra_3 := rI h1 bel_2
  have rb_4 := rI h2 bel_2
  clear h1 h2
  obtain ⟨z_5, z_6, z_7⟩ := at3 ba_1
  have hc := CheckOutline_any c A B n k m j ws ts _ ra_3.out rb_4.out hn hm
  rw [E1.out] at hc
  try dsimp only at hc
  have HC := Lib.hid hc; clear hc
  go_wp2_with fail
  refine HC.out.mono ?_
  rintro e w_8 ⟨rfl, hb⟩
  clear HC
  clear z_5 z_6 z_7
  have hb_9 := Lib.hid hb
  clear hb
  replace ba_1 := kH ba_1 hb_9
  obtain ⟨z_10, z_11, z_12⟩ := at3 ba_1
  go_wp2
  go_ret2
  replace bel_2 := bH bel_2 hb_9
  exact ⟨none, 0, 0, rfl, World.ownsRow_nil _ _ _ _, bel_2.out⟩
set_option maxRecDepth 100000 in
theorem Bare_far (c : Int) (A B : Option Addr) (n k m j : Nat) (ws ts : List Bnd) (w : World) (h1 : RdB w A n k ws) (h2 : RdB w B m j ts) (hn : n ≤ maxLen) (hm : m ≤ maxLen) (S : Option Addr) (sn sk : Nat) (l : List Stc) (hs : RdS w S sn sk l) (hsm : sn ≤ maxLen) (hl : (100 : Int) < sn) (E1 : Hid (chkO ⟨c, ws, ts⟩ = 0)) :
 Calls Tryz.prog 54 #[.agg #[.int .i64 c, .slice A n k, .slice B m j], .slice S sn sk] w fun e w' => ∃ R rn rk, e = .returned (.tuple #[.slice R rn rk, .int .i64 2]) ∧ OwnI w' w.heap.size R rn rk [] ∧ Below w.heap.size w w' := by
  go_enter Tryz.func54, Tryz.ntmps54
  obtain ⟨ba_1, bel_2⟩ := ent1 w #[.int .i64 c, .slice A n k, .slice B m j] 24
  have ra_3 := rI h1 bel_2
  have rb_4 := rI h2 bel_2
  clear h1 h2
  obtain ⟨z_5, z_6, z_7⟩ := at3 ba_1
  have hc := CheckOutline_any c A B n k m j ws ts _ ra_3.out rb_4.out hn hm
  rw [E1.out] at hc
  try dsimp only at hc
  have HC := Lib.hid hc; clear hc
  go_wp2_with fail
  refine HC.out.mono ?_
  rintro e w_8 ⟨rfl, hb⟩
  clear HC
  clear z_5 z_6 z_7
  have hb_9 := Lib.hid hb
  clear hb
  replace ba_1 := kH ba_1 hb_9
  obtain ⟨z_10, z_11, z_12⟩ := at3 ba_1
  go_wp2
  go_ret2
  replace bel_2 := bH bel_2 hb_9
  exact ⟨none, 0, 0, rfl, World.ownsRow_nil _ _ _ _, bel_2.out⟩
set_option maxRecDepth 100000 in
theorem Bare_ok (cn : Nat) (A B : Option Addr) (n k m j : Nat) (ws ts : List Bnd) (w : World) (h1 : RdB w A n k ws) (h2 : RdB w B m j ts) (hn : n ≤ maxLen) (hm : m ≤ maxLen) (S : Option Addr) (sn sk : Nat) (l : List Stc) (hs : RdS w S sn sk l) (hsm : sn ≤ maxLen) (hl : ¬ (100 : Int) < sn) (hcn : cn ≤ 16) (E1 : Hid (chkO ⟨cn, ws, ts⟩ = 0)) (q : Int) (Z : List Int)
 (HQ : Hid (l.all (fun s => isStr s.f s.t (cn : Int)) = true → q = 0 ∧ Z = bareN l cn)) (HN : Hid (l.all (fun s => isStr s.f s.t (cn : Int)) = false → q = 1 ∧ Z = [])) :
 Calls Tryz.prog 54 #[.agg #[.int .i64 (cn : Int), .slice A n k, .slice B m j], .slice S sn sk] w fun e w' => ∃ R rn rk, e = .returned (.tuple #[.slice R rn rk, .int .i64 q]) ∧ OwnI w' w.heap.size R rn rk Z ∧ Below w.heap.size w w' := by
 obtain ⟨i0, hi0, hz0, hz1, hz2⟩ := info_parts infoI
 have HI := Lib.hid hi0; have HZ0 := Lib.hid hz0; have HZ1 := Lib.hid hz1; have HZ2 := Lib.hid hz2; clear hi0 hz0 hz1 hz2
 have HS := Lib.hid hs; clear hs
 go_enter Tryz.func54, Tryz.ntmps54
 obtain ⟨ba_1, bel_2⟩ := ent1 w #[.int .i64 (cn : Int), .slice A n k, .slice B m j] 24
 have ra_3 := rI h1 bel_2
 have rb_4 := rI h2 bel_2
 clear h1 h2
 obtain ⟨z_5, z_6, z_7⟩ := at3 ba_1
 have hc := CheckOutline_any (cn : Int) A B n k m j ws ts _ ra_3.out rb_4.out hn hm
 rw [E1.out] at hc
 try dsimp only at hc
 have HC := Lib.hid hc; clear hc
 go_wp2_with fail
 refine HC.out.mono ?_
 rintro e w_8 ⟨rfl, hb⟩
 clear HC
 clear z_5 z_6 z_7
 have hb_9 := Lib.hid hb
 clear hb
 replace ba_1 := kH ba_1 hb_9
 obtain ⟨z_10, z_11, z_12⟩ := at3 ba_1
 go_wp2_with (refine wpList_alloc_row rfl 135 rfl (covA fun _ => false) zero_cov.1 ?_; simp only [World.size_alloc])
 clear z_10 z_11 z_12
 have hgB := Blk.lt ba_1.out
 obtain ⟨g, hg⟩ : ∃ g, w_8.heap.size = g := ⟨_, rfl⟩
 obtain ⟨o_, ho_⟩ : ∃ o, o = ((.cells (covA fun _ => false) 135) : Obj) := ⟨_, rfl⟩
 replace bel_2 := bA (bH bel_2 hb_9) o_
 replace ra_3 := rA (rH ra_3 hb_9) o_
 replace rb_4 := rA (rH rb_4 hb_9) o_
 replace ba_1 := kA ba_1 o_
 subst ho_
 have cv_13 := Lib.hid (Blk.new w_8 135 (covA fun _ => false))
 try rw [hg] at bel_2
 try rw [hg] at ra_3
 try rw [hg] at rb_4
 try rw [hg] at ba_1
 try rw [hg] at cv_13
 rw [hg]
 rw [hg] at hgB
 clear hg
 go_loopw [23] (fun i wr => ∃ q : Nat, q ≤ sn ∧ i = .int .i64 q ∧ (l.take q).all (fun s => isStr s.f s.t cn) = true ∧ Blk wr g 135 (covA (covL (l.take q))) ∧ Blk wr (w.heap.size) 24 #[.int .i64 (cn : Int), .slice A n k, .slice B m j] ∧ Below w.heap.size w wr) (fun i _ => sn - (intOf i).toNat)
 case atStart => exact ⟨0, Nat.zero_le _, rfl, rfl, cv_13.out, ba_1.out, bel_2.out⟩
 case round =>
  clear bel_2 ra_3 rb_4 ba_1 cv_13
  obtain ⟨q, hq, rfl, hall, i1, i2, i3⟩ := hrel
  obtain ⟨wo, rfl⟩ : ∃ wo, wo = wr := ⟨wr, rfl⟩
  have cv_1014 := Lib.hid (i1)
  clear i1
  have ba_1015 := Lib.hid (i2)
  clear i2
  have bel_1016 := Lib.hid (i3)
  clear i3
  have HA := Lib.hid hall; clear hall
  by_cases hlt : q < sn
  · have hlt' : (q : Int) < sn := by omega
    obtain ⟨b, o, f, t, rfl, hbw, hx, e0, e1⟩ := RdS.get (HS.out.below bel_1016.out) hlt
    have hgo := Blk.lt cv_1014.out
    have HX := Lib.hid hx; clear hx
    obtain ⟨z_2017, z_2018, z_2019⟩ := at3 ba_1015
    obtain ⟨o_, ho_⟩ : ∃ o, o = ((.cells #[.int .i64 f, .int .i64 t] 26) : Obj) := ⟨_, rfl⟩
    replace cv_1014 := kA cv_1014 o_
    replace ba_1015 := kA ba_1015 o_
    replace bel_1016 := bA bel_1016 o_
    subst ho_
    have sb_2020 := Lib.hid (Blk.new wo 26 #[.int .i64 f, .int .i64 t])
    obtain ⟨z_2021, z_2022, z_2023⟩ := at3 ba_1015
    obtain ⟨z_2024, z_2025⟩ := at2 sb_2020
    cases hst : isStr f t (cn : Int)
    · have HST := Lib.hid hst; clear hst
      have hc := isStretch_is f t (cn : Int) _ HST.out ((wo.alloc (.cells #[.int .i64 f, .int .i64 t] 26)))
      have HC := Lib.hid hc; clear hc
      go_wp2_with fail
      refine HC.out.mono ?_
      rintro e w_3026 ⟨rfl, hb⟩
      clear HC
      clear z_2017 z_2018 z_2019 z_2021 z_2022 z_2023 z_2024 z_2025 e0 e1
      have hb_3027 := Lib.hid hb
      clear hb
      obtain ⟨rfl, rfl⟩ := HN.out (List.all_eq_false.2 ⟨_, List.mem_of_getElem? HX.out, by simp [HST.out]⟩)
      go_wp2
      go_ret2
      replace bel_1016 := bH bel_1016 hb_3027
      exact ⟨none, 0, 0, rfl, World.ownsRow_nil _ _ _ _, bel_1016.out⟩
    · obtain ⟨r1, r2, r3⟩ := isStr_ok hst
      have HST := Lib.hid hst; clear hst
      obtain ⟨fn, rfl⟩ : ∃ fn : Nat, f = fn := ⟨f.toNat, by omega⟩
      obtain ⟨tn, rfl⟩ : ∃ tn : Nat, t = tn := ⟨t.toNat, by omega⟩
      have hc := isStretch_is (fn : Int) (tn : Int) (cn : Int) _ HST.out ((wo.alloc (.cells #[.int .i64 (fn : Int), .int .i64 (tn : Int)] 26)))
      have HC := Lib.hid hc; clear hc
      go_wp2_with fail
      refine HC.out.mono ?_
      rintro e w_3026 ⟨rfl, hb⟩
      clear HC
      clear z_2017 z_2018 z_2019 z_2021 z_2022 z_2023 z_2024 z_2025 e0 e1
      have hb_3027 := Lib.hid hb
      clear hb
      replace ba_1015 := kH ba_1015 hb_3027
      obtain ⟨z_3028, z_3029, z_3030⟩ := at3 ba_1015
      replace sb_2020 := kH sb_2020 hb_3027
      obtain ⟨z_3031, z_3032⟩ := at2 sb_2020
      go_wp2
      clear z_3028 z_3029 z_3030 z_3031 z_3032
      replace cv_1014 := kH cv_1014 hb_3027
      replace bel_1016 := bH bel_1016 hb_3027
      go_loopw [10] (fun i wi => ∃ p : Nat, fn ≤ p ∧ p ≤ tn ∧ i = .int .i64 p ∧ Blk wi g 135 (covA (fun z => covL (l.take q) z || (decide ((fn : Int) ≤ z) && decide (z < (p : Int))))) ∧ Blk wi (w.heap.size) 24 #[.int .i64 (cn : Int), .slice A n k, .slice B m j] ∧ Blk wi (wo.heap.size) 26 #[.int .i64 (fn : Int), .int .i64 (tn : Int)] ∧ Below w.heap.size w wi) (fun i _ => tn - (intOf i).toNat)
      case atStart => exact ⟨fn, Nat.le_refl _, by omega, rfl, by rw [show (fun z => covL (l.take q) z || (decide ((fn : Int) ≤ z) && decide (z < (fn : Int)))) = covL (l.take q) from funext fun z => by simp; omega]; exact cv_1014.out, ba_1015.out, sb_2020.out, bel_1016.out⟩
      case round =>
       clear cv_1014 ba_1015 bel_1016 sb_2020
       obtain ⟨p, hp1, hp2, rfl, i1, i2, i4, i3⟩ := hrel
       have cv_4033 := Lib.hid (i1)
       clear i1
       have ba_4034 := Lib.hid (i2)
       clear i2
       have sb_4035 := Lib.hid (i4)
       clear i4
       have bel_4036 := Lib.hid (i3)
       clear i3
       obtain ⟨z_4037, z_4038, z_4039⟩ := at3 ba_4034
       obtain ⟨z_4040, z_4041⟩ := at2 sb_4035
       by_cases hpt : p < tn
       · have hpt' : (p : Int) < tn := by omega
         have hp16 : p < 16 := by omega
         have u0 : wr.cell? ⟨g, p, none⟩ = some (.bool ((fun z => covL (l.take q) z || (decide ((fn : Int) ≤ z) && decide (z < (p : Int)))) p)) := (Blk.cell cv_4033.out p).trans (covA_get _ hp16)
         have u1 : wr.frozen? ⟨g, p, none⟩ = false := Blk.frozen cv_4033.out p
         have hset := Blk.set_ cv_4033.out p (.bool true)
         rw [covA_set _ hp16] at hset
         have HSET := Lib.hid hset; clear hset
         have hgl := Blk.lt sb_4035.out
         go_wp2
         go_roundw
         case rel =>
          refine ⟨p + 1, by omega, by omega, by go_num, ?_, Blk.far ba_4034.out (by dsimp only; omega) _, Blk.far sb_4035.out (by dsimp only; omega) _, Below.setCell bel_4036.out (by dsimp only; omega) _⟩
          rw [show (fun z => covL (l.take q) z || (decide ((fn : Int) ≤ z) && decide (z < ((p + 1 : Nat) : Int)))) = (fun z => decide (z = (p : Int)) || (fun z => covL (l.take q) z || (decide ((fn : Int) ≤ z) && decide (z < (p : Int)))) z) from funext fun z => (by rw [show ((p + 1 : Nat) : Int) = (p : Int) + 1 by omega]; exact cov_step _ _ _ _ (by omega))]
          exact HSET.out
         case measure => simp [intOf]; omega
       · obtain rfl : p = tn := by omega
         go_wp2
         go_roundw
         case rel => exact ⟨q + 1, by omega, by go_num, by rw [List.take_add_one, List.all_append, HA.out, HX.out]; simpa using HST.out, by rw [show covL (l.take (q + 1)) = (fun z => covL (l.take q) z || (decide ((fn : Int) ≤ z) && decide (z < (p : Int)))) from funext fun z => by rw [List.take_add_one, HX.out]; unfold covL; rw [List.any_append]; simp [inS]]; exact cv_4033.out, ba_4034.out, bel_4036.out⟩
         case measure => simp [intOf]; omega
  · obtain rfl : q = sn := by omega
    have hll := HS.out.len
    have HAA := Lib.hid (show l.all (fun s => isStr s.f s.t (cn : Int)) = true by have := HA.out; rwa [List.take_of_length_le (by omega)] at this)
    have hcv := cv_1014.out
    rw [List.take_of_length_le (by omega)] at hcv
    clear cv_1014
    have cv_2017 := Lib.hid (hcv)
    clear hcv hll
    obtain ⟨rfl, rfl⟩ := HQ.out HAA.out
    obtain ⟨z_2018, z_2019, z_2020⟩ := at3 ba_1015
    go_wp2
    clear z_2018 z_2019 z_2020
    go_loopw [45, 11] (fun i v wr => ∃ p : Nat, p ≤ cn ∧ i = .int .i64 p ∧ wr.ownsRow (g + 1) 3 1 v (bareN l p).length ((bareN l p).map (Value.int .i64)) ∧ Blk wr g 135 (covA (covL l)) ∧ Below w.heap.size w wr) (fun i _ _ => cn - (intOf i).toNat)
    case atStart => exact ⟨0, Nat.zero_le _, rfl, World.ownsRow_nil _ _ _ _, cv_2017.out, bel_1016.out⟩
    case round =>
     clear cv_2017 ba_1015 bel_1016
     obtain ⟨p, hp, rfl, hown, hcv, hb⟩ := hrel
     by_cases hpt : p < cn
     · have hpt' : (p : Int) < cn := by omega
       have hp16 : p < 16 := by omega
       have u0 : wr.cell? ⟨g, p, none⟩ = some (.bool (covL l p)) := (Blk.cell hcv p).trans (covA_get _ hp16)
       have hgl := Blk.lt hcv
       have HCV := Lib.hid hcv; clear hcv
       have hsu := bareN_succ l p
       have hbl := bareN_len l p
       cases hc : covL l p
       · rw [hc] at u0 hsu
         simp only [Bool.false_eq_true, if_false] at hsu
         have HSU := Lib.hid hsu; clear hsu hc
         have OW := Lib.hid (hown.alloc (.cells #[.int .i64 p] 3)); clear hown
         have N1 := Lib.hid (Blk.new wr 3 #[.int .i64 p])
         have hbb := hb.alloc hb.size (.cells #[.int .i64 p] 3)
         go_wp2_with (at_builtin; refine wpList_append_own _ rfl (.tmp 52) (.tmp 54) 31 rfl (g + 1) 3 i0 _ 1 8 Tryz.underlying31 HI.out HZ0.out HZ1.out HZ2.out rfl (by omega) u11 _ _ rfl OW.out ⟨wr.heap.size, 0, none⟩ 1 1 [.int .i64 p] rfl rfl (fun j u hu => by rw [Addr.add_lit, Nat.zero_add, N1.out.cell]; simpa using hu) (by simp [Value.oneCell']) (by unfold maxLen; omega) (by omega) (by simp; omega) ?_; intro v' w4 hown4 hg4 _; have HO4 := Lib.hid hown4; have HG4 := Lib.hid (show World.grownBy _ w4 u11.ownBlock from hg4); clear hown4 hg4)
         go_roundw
         case rel => exact ⟨p + 1, by omega, by go_num, (by rw [HSU.out]; simpa using HO4.out), blk_grown (HCV.out.alloc _) HG4.out (fun e => by have := (OW.out.lt _ e).1; omega), hbb.grown HG4.out hbb.size (fun q e => by have := (OW.out.lt q e).1; omega)⟩
         case measure => simp [intOf]; omega
       · rw [hc] at u0 hsu
         simp only [if_true] at hsu
         have HSU := Lib.hid hsu; clear hsu hc
         have HOW := Lib.hid hown; clear hown
         go_wp2
         go_roundw
         case rel => exact ⟨p + 1, by omega, by go_num, by rw [HSU.out]; exact HOW.out, HCV.out, hb⟩
         case measure => simp [intOf]; omega
     · obtain rfl : p = cn := by omega
       obtain ⟨A5, c5, hv5, -⟩ := own_form hown
       subst hv5
       have HOW := Lib.hid (show OwnI wr (g + 1) A5 (bareN l p).length c5 (bareN l p) from hown); clear hown
       go_wp2
       go_ret2
       exact ⟨A5, _, c5, rfl, owns_base HOW.out (by omega), hb⟩
theorem Bare_any (c : Int) (A B : Option Addr) (n k m j : Nat) (ws ts : List Bnd) (w : World) (h1 : RdB w A n k ws) (h2 : RdB w B m j ts) (hn : n ≤ maxLen) (hm : m ≤ maxLen) (S : Option Addr) (sn sk : Nat) (l : List Stc) (hs : RdS w S sn sk l) (hsm : sn ≤ maxLen) :
 Calls Tryz.prog 54 #[.agg #[.int .i64 c, .slice A n k, .slice B m j], .slice S sn sk] w fun e w' => ∃ R rn rk, e = .returned (.tuple #[.slice R rn rk, .int .i64 (barE ⟨c, ws, ts⟩ l)]) ∧ OwnI w' w.heap.size R rn rk (barL ⟨c, ws, ts⟩ l) ∧ Below w.heap.size w w' := by
 have hl := hs.len
 by_cases hq : chkO ⟨c, ws, ts⟩ = 0
 · by_cases h100 : (100 : Int) < sn
   · have e : barE ⟨c, ws, ts⟩ l = 2 := by unfold barE; rw [if_neg (by simpa using hq), if_pos (by omega)]
     unfold barL
     rw [e, if_neg (by omega)]
     exact Bare_far c A B n k m j ws ts w h1 h2 hn hm S sn sk l hs hsm h100 (Lib.hid hq)
   · obtain ⟨c3, c16, -, -⟩ := chkO_ok hq
     dsimp only at c3 c16
     obtain ⟨cn, rfl⟩ : ∃ cn : Nat, c = cn := ⟨c.toNat, by omega⟩
     have e : barE ⟨(cn : Int), ws, ts⟩ l = if l.all (fun s => isStr s.f s.t (cn : Int)) = true then 0 else 1 := by unfold barE; rw [if_neg (by simpa using hq), if_neg (by omega)]
     unfold barL
     rw [e]
     exact Bare_ok cn A B n k m j ws ts w h1 h2 hn hm S sn sk l hs hsm h100 (by omega) (Lib.hid hq) _ _ (Lib.hid fun h => by rw [if_pos h]; exact ⟨rfl, if_pos rfl⟩) (Lib.hid fun h => by rw [if_neg (by rw [h]; simp)]; exact ⟨rfl, if_neg (by omega)⟩)
 · have e : barE ⟨c, ws, ts⟩ l = chkO ⟨c, ws, ts⟩ := by unfold barE; rw [if_pos hq]
   unfold barL
   rw [e, if_neg hq]
   exact Bare_err c A B n k m j ws ts w h1 h2 hn hm S sn sk l hs hsm _ (by simpa using hq) (Lib.hid rfl)
end Go.Proofs.YtaoanagmgheicaaGreat
