import Derived.Test.YtaoanagmgheicaaGreatSEMax
import Derived.IntWalk
set_option linter.unusedSimpArgs false
set_option linter.unusedVariables false
namespace Go.Proofs.YtaoanagmgheicaaGreat
open Go.RowKit
def metL (a b : Otl) : List Prg := allL a b (mostN a b)
theorem mem_metL {a b : Otl} (h : both a b = 0) {p : Prg} : p ∈ metL a b ↔ chkP a b p = 0 ∧ meetsB a b p = true := by
 obtain ⟨h1, h2, -, -⟩ := both_ok h
 unfold metL
 rw [mem_allL h1 h2]
 constructor
 · exact fun hp => ⟨hp.1, hp.2.2⟩
 · rintro ⟨hc, hm⟩
   refine ⟨hc, ?_, hm⟩
   obtain ⟨_, _, s1, s2, hk⟩ := chkP_ok hc
   unfold mostN
   omega
def inside (x p : Prg) : Bool := decide (x.af ≤ p.af) && decide (p.at2 ≤ x.at2) && decide (x.af + x.bt = p.af + p.bt)
theorem inside_refl (p : Prg) : inside p p = true := by simp [inside]
theorem topB_step {a b : Otl} (h : both a b = 0) {p : Prg} (hp : p ∈ metL a b) (ht : topB (metL a b) p = false) : ∃ q ∈ metL a b, q.at2 - q.af = p.at2 - p.af + 1 ∧ ∀ x, inside x q = true → inside x p = true := by
 unfold topB at ht
 rw [Bool.and_eq_false_iff] at ht
 simp only [decide_eq_false_iff_not, Decidable.not_not] at ht
 rcases ht with h1 | h1
 · refine ⟨befP p, h1, by simp only [befP]; omega, fun x hx => ?_⟩
   unfold inside befP at hx
   unfold inside
   simp only [Bool.and_eq_true, decide_eq_true_eq] at hx ⊢
   obtain ⟨⟨h4, h5⟩, h6⟩ := hx
   exact ⟨⟨by omega, by omega⟩, by omega⟩
 · refine ⟨behP p, h1, by simp only [behP]; omega, fun x hx => ?_⟩
   unfold inside behP at hx
   unfold inside
   simp only [Bool.and_eq_true, decide_eq_true_eq] at hx ⊢
   obtain ⟨⟨h4, h5⟩, h6⟩ := hx
   exact ⟨⟨by omega, by omega⟩, by omega⟩
theorem metL_sides {a b : Otl} (h : both a b = 0) {p : Prg} (hp : p ∈ metL a b) : 1 ≤ p.at2 - p.af ∧ p.at2 - p.af ≤ mostN a b := by
 obtain ⟨hc, -⟩ := (mem_metL h).1 hp
 obtain ⟨_, _, s1, s2, hk⟩ := chkP_ok hc
 unfold mostN
 omega
theorem top_of {a b : Otl} (h : both a b = 0) : ∀ (d : Nat) {p : Prg}, p ∈ metL a b → (mostN a b : Int) - (p.at2 - p.af) ≤ d → ∃ x ∈ metL a b, topB (metL a b) x = true ∧ inside x p = true ∧ p.at2 - p.af ≤ x.at2 - x.af
 | d, p, hp, hd => by
  cases ht : topB (metL a b) p
  · obtain ⟨q, hq, hl, hi⟩ := topB_step h hp ht
    have hs := metL_sides h hq
    match d with
    | 0 => omega
    | d + 1 =>
     obtain ⟨x, hx, hxt, hxi, hxl⟩ := top_of h d hq (by omega)
     exact ⟨x, hx, hxt, hi x hxi, by omega⟩
  · exact ⟨p, hp, ht, inside_refl p, Int.le_refl _⟩
theorem longN_ge {a b : Otl} : ∀ (n : Nat) {s : Nat}, s ≤ n → 1 ≤ s → meetL a b (s : Int) ≠ [] → s ≤ longN a b n
 | 0, s, h1, h2, _ => by omega
 | n + 1, s, h1, h2, h3 => by
  unfold longN
  by_cases he : (meetL a b ((n + 1 : Nat) : Int)).isEmpty = true
  · rw [if_pos he]
    have hne : s ≠ n + 1 := fun e => h3 (by rw [e]; exact List.isEmpty_iff.1 he)
    exact longN_ge n (by omega) h2 h3
  · rw [if_neg he]
    omega
theorem longN_at {a b : Otl} : ∀ (n : Nat), longN a b n = 0 ∨ (longN a b n ≤ n ∧ meetL a b (longN a b n : Int) ≠ [])
 | 0 => .inl rfl
 | n + 1 => by
  unfold longN
  by_cases he : (meetL a b ((n + 1 : Nat) : Int)).isEmpty = true
  · rw [if_pos he]
    rcases longN_at n with h | ⟨h1, h2⟩
    · exact .inl h
    · exact .inr ⟨by omega, h2⟩
  · rw [if_neg he]
    exact .inr ⟨Nat.le_refl _, fun e => he (List.isEmpty_iff.2 e)⟩
theorem mem_met_of {a b : Otl} (h : both a b = 0) {s : Nat} (h1 : 1 ≤ s) {p : Prg} (hp : p ∈ meetL a b (s : Int)) : p ∈ metL a b ∧ p.at2 - p.af = s := by
 obtain ⟨o1, o2, -, -⟩ := both_ok h
 obtain ⟨hp1, hm⟩ := mem_meetL.1 hp
 exact ⟨(mem_metL h).2 ⟨pairsL_chkP o1 o2 hp1, hm⟩, by have := mem_pairsL.1 hp1; omega⟩
theorem sides_le {a b : Otl} (h : both a b = 0) {p : Prg} (hp : p ∈ metL a b) : p.at2 - p.af ≤ (longN a b (mostN a b) : Nat) := by
 obtain ⟨hc, hm⟩ := (mem_metL h).1 hp
 have hs := metL_sides h hp
 have hmem : p ∈ meetL a b (((p.at2 - p.af).toNat : Nat) : Int) := by
  rw [mem_meetL, Int.toNat_of_nonneg (by omega)]
  exact ⟨pairsL_of_chkP hc, hm⟩
 have := longN_ge (mostN a b) (s := (p.at2 - p.af).toNat) (by omega) (by omega) (List.ne_nil_of_mem hmem)
 omega
theorem top_long {a b : Otl} (h : both a b = 0) : longN a b (mostN a b) = 0 ∨ ∃ x ∈ metL a b, topB (metL a b) x = true ∧ x.at2 - x.af = (longN a b (mostN a b) : Nat) := by
 rcases longN_at (a := a) (b := b) (mostN a b) with h0 | ⟨h1, h2⟩
 · exact .inl h0
 · by_cases hz : longN a b (mostN a b) = 0
   · exact .inl hz
   · right
     obtain ⟨p, hp⟩ := List.exists_mem_of_ne_nil _ h2
     obtain ⟨hpm, hpl⟩ := mem_met_of h (by omega) hp
     have hs := metL_sides h hpm
     obtain ⟨x, hx, hxt, -, hxl⟩ := top_of h (mostN a b) hpm (by omega)
     have := sides_le h hx
     exact ⟨x, hx, hxt, by omega⟩
theorem Maximal_yes (c : Int) (A B : Option Addr) (n k m j : Nat) (ws ts : List Bnd) (d : Int) (C D : Option Addr) (n2 k2 m2 j2 : Nat) (ws2 ts2 : List Bnd) (w : World) (h1 : RdB w A n k ws) (h2 : RdB w B m j ts) (hn : n ≤ maxLen) (hm : m ≤ maxLen) (h3 : RdB w C n2 k2 ws2) (h4 : RdB w D m2 j2 ts2) (hn2 : n2 ≤ maxLen) (hm2 : m2 ≤ maxLen) (hq : both ⟨c, ws, ts⟩ ⟨d, ws2, ts2⟩ = 0) :
 Calls Tryz.prog 51 #[.agg #[.int .i64 c, .slice A n k, .slice B m j], .agg #[.int .i64 d, .slice C n2 k2, .slice D m2 j2]] w fun e w' => ∃ (R : List Prg) (A9 : Option Addr) (n9 c9 : Nat), e = .returned (.tuple #[.slice A9 n9 c9, .int .i64 0]) ∧ RdB w' A9 n9 c9 (R.map pB) ∧ (∀ p, p ∈ R ↔ p ∈ metL ⟨c, ws, ts⟩ ⟨d, ws2, ts2⟩ ∧ topB (metL ⟨c, ws, ts⟩ ⟨d, ws2, ts2⟩) p = true) ∧ n9 ≤ maxLen ∧ Below w.heap.size w w' := by
 refine (Maximal_any c A B n k m j ws ts d C D n2 k2 m2 j2 ws2 ts2 w h1 h2 hn hm h3 h4 hn2 hm2).mono ?_
 rintro e w' ⟨L, A9, n9, c9, rfl, hr, -, hmem, hn9, hb⟩
 exact ⟨_, A9, n9, c9, by rw [hq], hr, fun p => (hmem p).trans ⟨fun h => h.2, fun h => ⟨hq, h⟩⟩, hn9, hb⟩
theorem Maximal_not (c : Int) (A B : Option Addr) (n k m j : Nat) (ws ts : List Bnd) (d : Int) (C D : Option Addr) (n2 k2 m2 j2 : Nat) (ws2 ts2 : List Bnd) (w : World) (h1 : RdB w A n k ws) (h2 : RdB w B m j ts) (hn : n ≤ maxLen) (hm : m ≤ maxLen) (h3 : RdB w C n2 k2 ws2) (h4 : RdB w D m2 j2 ts2) (hn2 : n2 ≤ maxLen) (hm2 : m2 ≤ maxLen) (q : Int) (hq : both ⟨c, ws, ts⟩ ⟨d, ws2, ts2⟩ = q) (h0 : q ≠ 0) :
 Calls Tryz.prog 51 #[.agg #[.int .i64 c, .slice A n k, .slice B m j], .agg #[.int .i64 d, .slice C n2 k2, .slice D m2 j2]] w fun e w' => ∃ (A9 : Option Addr) (c9 : Nat), e = .returned (.tuple #[.slice A9 0 c9, .int .i64 q]) ∧ Below w.heap.size w w' := by
 refine (Maximal_any c A B n k m j ws ts d C D n2 k2 m2 j2 ws2 ts2 w h1 h2 hn hm h3 h4 hn2 hm2).mono ?_
 rintro e w' ⟨L, A9, n9, c9, rfl, hr, -, hmem, hn9, hb⟩
 have hnil : prs (sortY L) = [] := List.eq_nil_iff_forall_not_mem.2 fun p hp => h0 (hq.symm.trans ((hmem p).1 hp).1)
 rw [hnil] at hr
 obtain rfl : n9 = 0 := hr.len.symm
 exact ⟨A9, c9, by rw [hq], hb⟩
def mostS (R : List Prg) : Int := R.foldl (fun m x => max m (x.at2 - x.af)) 0
def anyIn (R : List Prg) (p : Prg) : Bool := R.any (fun x => inside x p)
theorem mostS_snoc (R : List Prg) (x : Prg) : mostS (R ++ [x]) = max (mostS R) (x.at2 - x.af) := by unfold mostS; rw [List.foldl_append]; rfl
theorem foldl_ge : ∀ (R : List Prg) (m : Int), m ≤ R.foldl (fun m x => max m (x.at2 - x.af)) m
 | [], m => Int.le_refl _
 | x :: R, m => Int.le_trans (by omega) (foldl_ge R (max m (x.at2 - x.af)))
theorem foldl_has : ∀ (R : List Prg) (m : Int) {x : Prg}, x ∈ R → x.at2 - x.af ≤ R.foldl (fun m x => max m (x.at2 - x.af)) m
 | y :: R, m, x, h => by
  rw [List.foldl_cons]
  rcases List.mem_cons.1 h with rfl | h
  · exact Int.le_trans (by omega) (foldl_ge R (max m (x.at2 - x.af)))
  · exact foldl_has R _ h
theorem foldl_le : ∀ (R : List Prg) (m B : Int), m ≤ B → (∀ x ∈ R, x.at2 - x.af ≤ B) → R.foldl (fun m x => max m (x.at2 - x.af)) m ≤ B
 | [], m, B, h, _ => h
 | y :: R, m, B, h, h2 => by
  rw [List.foldl_cons]
  exact foldl_le R _ B (by have := h2 y List.mem_cons_self; omega) fun x hx => h2 x (List.mem_cons_of_mem _ hx)
theorem mostS_eq {a b : Otl} (h : both a b = 0) {R : List Prg} (hR : ∀ p, p ∈ R ↔ p ∈ metL a b ∧ topB (metL a b) p = true) : mostS R = (longN a b (mostN a b) : Nat) := by
 have h1 : mostS R ≤ (longN a b (mostN a b) : Nat) := foldl_le R 0 _ (by omega) fun x hx => sides_le h ((hR x).1 hx).1
 have h0 : 0 ≤ mostS R := foldl_ge R 0
 rcases top_long h with h2 | ⟨x, hx, ht, hl⟩
 · rw [h2] at h1 ⊢; simp at h1 ⊢; omega
 · have := foldl_has R 0 ((hR x).2 ⟨hx, ht⟩)
   unfold mostS at h1 ⊢
   omega
theorem anyIn_yes {a b : Otl} (h : both a b = 0) {R : List Prg} (hR : ∀ p, p ∈ R ↔ p ∈ metL a b ∧ topB (metL a b) p = true) {p : Prg} (hp : p ∈ metL a b) : anyIn R p = true := by
 have hs := metL_sides h hp
 obtain ⟨x, hx, hxt, hxi, -⟩ := top_of h (mostN a b) hp (by omega)
 exact List.any_eq_true.2 ⟨x, (hR x).2 ⟨hx, hxt⟩, hxi⟩
theorem meets_of {a b : Otl} (h : both a b = 0) {x : Prg} (hx : x ∈ metL a b) : meetsV a b x = (true, 0) := by
 obtain ⟨hc, hm⟩ := (mem_metL h).1 hx
 have hl : large a b = false := by
  obtain ⟨-, -, h3, h4⟩ := both_ok h
  simp [large]; omega
 have ha : asked a b x = 0 := by unfold asked; rw [hc, hl]; rfl
 unfold meetsV
 rw [if_pos ha, hm]
theorem met_of_meets {a b : Otl} (h : both a b = 0) {p : Prg} (hp : meetsV a b p = (true, 0)) : p ∈ metL a b := by
 unfold meetsV at hp
 by_cases ha : asked a b p = 0
 · rw [if_pos ha] at hp
   exact (mem_metL h).2 ⟨(asked_ok ha).1, (Prod.mk.inj hp).1⟩
 · rw [if_neg ha] at hp
   cases (Prod.mk.inj hp).1
def inW (x p : Prg) : Bool := decide (x.af ≤ p.af) && decide (p.at2 ≤ x.at2) && decide (x.af + x.bt = IntKind.i64.wrap (p.af + p.bt))
def anyW (R : List Prg) (p : Prg) : Bool := R.any (fun x => inW x p)
theorem anyW_snoc (R : List Prg) (x p : Prg) : anyW (R ++ [x]) p = (anyW R p || inW x p) := by unfold anyW; rw [List.any_append]; simp
theorem anyW_yes {a b : Otl} (h : both a b = 0) {R : List Prg} (hR : ∀ p, p ∈ R ↔ p ∈ metL a b ∧ topB (metL a b) p = true) {p : Prg} (hp : p ∈ metL a b) : anyW R p = true := by
 obtain ⟨hc, -⟩ := (mem_metL h).1 hp
 obtain ⟨oa, ob, s1, s2, hk⟩ := chkP_ok hc
 obtain ⟨a1, a2, -, -⟩ := chkO_ok oa
 obtain ⟨b1, b2, -, -⟩ := chkO_ok ob
 have hw : IntKind.i64.wrap (p.af + p.bt) = p.af + p.bt := IntWalk.i64_in _ (by omega)
 have e : anyW R p = anyIn R p := by
  unfold anyW anyIn
  congr 1
  funext x
  unfold inW inside
  rw [hw]
 rw [e]
 exact anyIn_yes h hR hp
theorem met_range {a b : Otl} (h : both a b = 0) {x : Prg} (hx : x ∈ metL a b) : 0 ≤ x.af ∧ x.af < x.at2 ∧ x.at2 ≤ 16 ∧ 0 ≤ x.bf ∧ x.bf < x.bt ∧ x.bt ≤ 16 := by
 obtain ⟨hc, -⟩ := (mem_metL h).1 hx
 obtain ⟨oa, ob, s1, s2, hk⟩ := chkP_ok hc
 obtain ⟨a1, a2, -, -⟩ := chkO_ok oa
 obtain ⟨b1, b2, -, -⟩ := chkO_ok ob
 omega
end Go.Proofs.YtaoanagmgheicaaGreat
