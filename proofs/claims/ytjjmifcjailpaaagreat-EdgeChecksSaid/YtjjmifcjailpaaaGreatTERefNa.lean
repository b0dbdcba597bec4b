import Derived.Shelf.Slices.Reverse
import Derived.Sort.OwnSortedInts
import Derived.Test.YtjjmifcjailpaaaGreatTNeeded
import Derived.Deep.AppendSrc
import Derived.Laws.AppendOwnNone
import Derived.Lib.SmallJoins
import Derived.Test.YtjjmifcjailpaaaGreatTClosed
import Derived.Test.YtjjmifcjailpaaaGreatTEShared
import Derived.Test.YtjjmifcjailpaaaGreatTERefCac
import Derived.Test.YtjjmifcjailpaaaGreatTRLessa
set_option maxHeartbeats 4000000
set_option linter.unusedSimpArgs false
set_option linter.unusedVariables false
namespace Go.Proofs.YtjjmifcjailpaaaGreat
open Go.RowKit
def allS (l : List Bnd) : List Int := l.foldl (fun acc x => if 0 < x.b then insU x.b acc else acc) []
theorem sorted_ext : ∀ {a b : List Int}, a.Pairwise (· < ·) → b.Pairwise (· < ·) → (∀ x, x ∈ a ↔ x ∈ b) → a = b
 | [], [], _, _, _ => rfl
 | [], y :: b, _, _, h => by have := (h y).2 (List.mem_cons_self ..); cases this
 | x :: a, [], _, _, h => by have := (h x).1 (List.mem_cons_self ..); cases this
 | x :: a, y :: b, ha, hb, h => by
  obtain ⟨hx, ha'⟩ := List.pairwise_cons.1 ha
  obtain ⟨hy, hb'⟩ := List.pairwise_cons.1 hb
  have e : x = y := by
   rcases List.mem_cons.1 ((h x).1 (List.mem_cons_self ..)) with e | e
   · exact e
   · rcases List.mem_cons.1 ((h y).2 (List.mem_cons_self ..)) with e2 | e2
     · exact e2.symm
     · have := hx y e2; have := hy x e; omega
  subst e
  congr 1
  refine sorted_ext ha' hb' (fun z => ⟨fun hz => ?_, fun hz => ?_⟩)
  · rcases List.mem_cons.1 ((h z).1 (List.mem_cons_of_mem _ hz)) with e | e
    · subst e; have := hx z hz; omega
    · exact e
  · rcases List.mem_cons.1 ((h z).2 (List.mem_cons_of_mem _ hz)) with e | e
    · subst e; have := hy z hz; omega
    · exact e
theorem allS_spec : ∀ (l : List Bnd) (acc : List Int), acc.Pairwise (· < ·) → (l.foldl (fun acc x => if 0 < x.b then insU x.b acc else acc) acc).Pairwise (· < ·) ∧ ∀ z, z ∈ l.foldl (fun acc x => if 0 < x.b then insU x.b acc else acc) acc ↔ z ∈ acc ∨ (0 < z ∧ ∃ x ∈ l, x.b = z)
 | [], acc, h => ⟨h, fun z => by simp⟩
 | x :: l, acc, h => by
  rw [List.foldl_cons]
  by_cases hx : 0 < x.b
  · rw [if_pos hx]
    obtain ⟨h1, h2⟩ := allS_spec l (insU x.b acc) (insU_sorted _ _ h)
    refine ⟨h1, fun z => ?_⟩
    rw [h2, mem_insU]
    constructor
    · rintro ((rfl | hz) | ⟨h0, y, hy, rfl⟩)
      · exact .inr ⟨hx, x, List.mem_cons_self .., rfl⟩
      · exact .inl hz
      · exact .inr ⟨h0, y, List.mem_cons_of_mem _ hy, rfl⟩
    · rintro (hz | ⟨h0, y, hy, rfl⟩)
      · exact .inl (.inr hz)
      · rcases List.mem_cons.1 hy with rfl | hy
        · exact .inl (.inl rfl)
        · exact .inr ⟨h0, y, hy, rfl⟩
  · rw [if_neg hx]
    obtain ⟨h1, h2⟩ := allS_spec l acc h
    refine ⟨h1, fun z => ?_⟩
    rw [h2]
    constructor
    · rintro (hz | ⟨h0, y, hy, rfl⟩)
      · exact .inl hz
      · exact .inr ⟨h0, y, List.mem_cons_of_mem _ hy, rfl⟩
    · rintro (hz | ⟨h0, y, hy, rfl⟩)
      · exact .inl hz
      · rcases List.mem_cons.1 hy with rfl | hy
        · exact absurd h0 hx
        · exact .inr ⟨h0, y, hy, rfl⟩
theorem allS_idsL {l : List Bnd} (h : ∀ x ∈ l, 0 ≤ x.b) : allS l = idsL l := by
 obtain ⟨h1, h2⟩ := allS_spec l [] List.Pairwise.nil
 refine sorted_ext h1 (idsL_sorted l) (fun z => ?_)
 show z ∈ l.foldl _ [] ↔ _
 rw [h2, mem_idsL]
 constructor
 · rintro (hz | ⟨h0, y, hy, e⟩)
   · cases hz
   · exact ⟨by omega, y, hy, e⟩
 · rintro ⟨h0, y, hy, e⟩
   have := h y hy
   exact .inr ⟨by omega, y, hy, e⟩
end Go.Proofs.YtjjmifcjailpaaaGreat
set_option linter.unusedSimpArgs false
set_option linter.unusedVariables false
namespace Go.Proofs.YtjjmifcjailpaaaGreat
open Go.RowKit
theorem insU_length (v : Int) : ∀ L : List Int, (insU v L).length ≤ L.length + 1 ∧ 1 ≤ (insU v L).length
 | [] => by simp [insU]
 | y :: r => by
  have := insU_length v r
  unfold insU
  split
  · simp
  · split
    · simp
    · simp only [List.length_cons]; omega
theorem allS_length (l : List Bnd) : (allS l).length ≤ l.length := by
 unfold allS
 have : ∀ (l : List Bnd) (acc : List Int), (l.foldl (fun acc x => if 0 < x.b then insU x.b acc else acc) acc).length ≤ acc.length + l.length := by
  intro l
  induction l with
  | nil => intro acc; simp
  | cons x l ih =>
   intro acc
   rw [List.foldl_cons]
   refine Nat.le_trans (ih _) ?_
   split
   · have := (insU_length x.b acc).1; simp only [List.length_cons]; omega
   · simp only [List.length_cons]; omega
 simpa using this l []
end Go.Proofs.YtjjmifcjailpaaaGreat
set_option linter.unusedSimpArgs false
set_option linter.unusedVariables false
namespace Go.Proofs.YtjjmifcjailpaaaGreat
open Go.RowKit
theorem ids_nonneg {P : Int} {l : List Bnd} {x : List Int} (hk : chk P l = 0) (h : ∀ i ∈ x, 0 ≤ i ∧ i < l.length) : ∀ b ∈ x.map (bnd l), 0 ≤ b.b := by
 intro b hb
 obtain ⟨i, hi, rfl⟩ := List.mem_map.1 hb
 obtain ⟨h0, h1⟩ := h i hi
 have hm : bnd l i ∈ l := by
  unfold bnd
  rw [List.getD_eq_getElem?_getD, List.getElem?_eq_getElem (by omega)]
  exact List.getElem_mem _
 obtain ⟨-, -, -, h4⟩ := chk_ok hk
 have := h4 _ hm
 simp only [okBnd, decide_eq_true_eq] at this
 omega
set_option maxRecDepth 100000 in
theorem rIds_any (P : Int) (A : Option Addr) (n k : Nat) (l : List Bnd) (w : World) (h1 : RdB w A n k l) (hn : n ≤ maxLen) (X : Option Addr) (xn xk : Nat) (x : List Int) (hx : RdI w X xn xk x) (hxm : xn ≤ 1000) :
 Calls Tryz.prog 55 #[.agg #[.int .i64 P, .slice A n k], .slice X xn xk] w (RetLR (idsV P l x) w) := by
 obtain ⟨q, hq⟩ : ∃ q, chk P l = q := ⟨_, rfl⟩
 have E1 := Lib.hid hq
 by_cases h0 : q = 0
 · subst h0
   have HK := Lib.hid hq
   clear hq
   unfold RetLR
   have R0 := Lib.hid h1; have X0 := Lib.hid hx
   go_enter Tryz.func55, Tryz.ntmps55
   obtain ⟨a7, a6⟩ := ent1 w #[.int .i64 P, .slice A n k] 84
   have a9 := rI h1 a6
   clear h1
   obtain ⟨c1, c2⟩ := at2 a7
   clear hx
   have hc := rCheckSystem_any P A n k l _ a9.out hn
   rw [E1.out] at hc
   try dsimp only at hc
   have HC := Lib.hid hc; clear hc
   go_wp2_with fail
   refine HC.out.mono ?_
   rintro e c5 ⟨rfl, hb⟩
   clear HC
   clear c1 c2
   have b2 := Lib.hid hb
   clear hb
   replace a7 := kH a7 b2
   obtain ⟨c3, c4⟩ := at2 a7
   replace a9 := rH a9 b2
   have hl_ := (a9.out).len
   go_wp2
   clear c3 c4
   clear a9
   replace a6 := bH a6 b2
   go_loopw [8, 7] (fun i s wr => ∃ (q : Nat) (Ai : Option Addr) (ni ci : Nat), q ≤ xn ∧ i = .int .i64 q ∧ s = .slice Ai ni ci ∧ OwnI wr (w.heap.size + 1) Ai ni ci (allS ((x.take q).map (bnd l))) ∧ (ni = 0 → Ai = none) ∧ (∀ i ∈ x.take q, 0 ≤ i ∧ i < l.length) ∧ Blk wr (w.heap.size) 84 #[.int .i64 P, .slice A n k] ∧ Below w.heap.size w wr) (fun i s _ => xn - (intOf i).toNat)
   case atStart => exact ⟨0, none, 0, 0, Nat.zero_le _, rfl, rfl, World.ownsRow_nil _ _ _ _, fun _ => rfl, by simp, a7.out, a6.out⟩
   case round =>
    clear a6 a7
    obtain ⟨q, Ai, ni, ci, hq, rfl, rfl, i1, hna, hin, i3, i4⟩ := hrel
    have hni : ni ≤ 1000 := by have h1 := (OwnI.rd i1).1.len; have h2 := allS_length ((x.take q).map (bnd l)); rw [List.length_map, List.length_take] at h2; omega
    have HNA := Lib.hid hna; have HNI := Lib.hid hni; clear hna hni
    have a4 := Lib.hid (i1)
    have a0 := Lib.hid (i3)
    have a1 := Lib.hid (i4)
    clear i1 i3 i4
    have HIN := Lib.hid hin; clear hin
    have hgs := Blk.lt (a0.out)
    by_cases hlt : q < xn
    · have hlt' : (q : Int) < xn := by omega
      obtain ⟨xb, xo, v, hX, xlt, hxq, hxc⟩ := RdI.get (RdI.below X0.out a1.out) hlt
      subst hX
      have htk : x.take (q + 1) = x.take q ++ [v] := by rw [List.take_add_one, hxq]; rfl
      have HTK := Lib.hid htk; clear htk
      have hvm := List.mem_of_getElem? hxq; have HVM := Lib.hid hvm; clear hvm; have HXQ := Lib.hid hxq; clear hxq
      obtain ⟨b0, b1⟩ := at2 a0
      by_cases hv0 : v < 0
      · have hno : idsV P l x = ([], 1) := idsV_no HK.out HVM.out (by omega)
        have HNO := Lib.hid hno; clear hno
        have d1 : decide (v < 0) = true := decide_eq_true hv0
        go_wp2_with fail
        go_quiet (fail)
        obtain ⟨nq0, rfl⟩ : ∃ n, n = nq := ⟨_, rfl⟩
        clear b0 b1
        have hb : Below wr.heap.size wr (wr.drewN (nq0)) := ⟨rfl, rfl, rfl, Nat.le_refl _, fun _ _ => rfl⟩
        have b3 := Lib.hid hb
        clear hb
        go_wp2
        go_ret2
        replace a1 := bH a1 b3
        exact ⟨none, 0, 0, by simp [HNO.out], by rw [HNO.out]; exact RdI.nil_ _, by unfold maxLen; omega, a1.out⟩
      by_cases hv1 : (n : Int) ≤ v
      · have hno : idsV P l x = ([], 1) := idsV_no HK.out HVM.out (by omega)
        have HNO := Lib.hid hno; clear hno
        have d1 : decide (v < 0) = false := decide_eq_false hv0
        have d2 : decide ((n : Int) ≤ v) = true := decide_eq_true hv1
        go_wp2_with fail
        go_quiet (fail)
        obtain ⟨nq0, rfl⟩ : ∃ n, n = nq := ⟨_, rfl⟩
        clear b0 b1
        have hb : Below wr.heap.size wr (wr.drewN (nq0)) := ⟨rfl, rfl, rfl, Nat.le_refl _, fun _ _ => rfl⟩
        have b3 := Lib.hid hb
        clear hb
        go_wp2
        go_ret2
        replace a1 := bH a1 b3
        exact ⟨none, 0, 0, by simp [HNO.out], by rw [HNO.out]; exact RdI.nil_ _, by unfold maxLen; omega, a1.out⟩
      have d1 : decide (v < 0) = false := decide_eq_false hv0
      have d2 : decide ((n : Int) ≤ v) = false := decide_eq_false hv1
      obtain ⟨v, rfl⟩ := Int.eq_ofNat_of_zero_le (show 0 ≤ v by omega)
      have hvn : (v : Int) < (n : Int) := by omega
      obtain ⟨⟨f, t, mm, ib⟩, hx2⟩ : ∃ b, l[v]? = some b := ⟨l[v]'(by omega), List.getElem?_eq_getElem _⟩
      obtain ⟨bb, ob, hBB⟩ := rdB_some R0.out hx2
      subst hBB
      obtain ⟨e0, e1, e2, e3, el⟩ := rdB_at (RdB.below R0.out a1.out) hx2
      clear e0 e1 e2
      have hb2 : bnd l (v : Int) = ⟨f, t, mm, ib⟩ := bnd_at hx2
      have HB2 := Lib.hid hb2; clear hb2; have HX2 := Lib.hid hx2; clear hx2
      have hst : allS ((x.take (q + 1)).map (bnd l)) = if 0 < ib then insU ib (allS ((x.take q).map (bnd l))) else allS ((x.take q).map (bnd l)) := by rw [HTK.out, List.map_append]; unfold allS; rw [List.foldl_append]; simp [HB2.out]
      have HST := Lib.hid hst; clear hst
      have hin2 : ∀ i ∈ x.take (q + 1), 0 ≤ i ∧ i < l.length := by rw [HTK.out]; intro i hi; rcases List.mem_append.1 hi with hi | hi; exact HIN.out i hi; (simp only [List.mem_singleton] at hi; subst hi; omega)
      have HIN2 := Lib.hid hin2; clear hin2
      clear b0 b1
      obtain ⟨b6, b7⟩ := at2 a0
      by_cases hib : 0 < ib
      · have d3 : decide (0 < ib) = true := decide_eq_true hib
        go_wp2_with fail
        go_quiet (fail)
        obtain ⟨nq0, rfl⟩ : ∃ n, n = nq := ⟨_, rfl⟩
        go_wp2_with fail
        go_quiet (fail)
        obtain ⟨nq1, rfl⟩ : ∃ n, n = nq := ⟨_, rfl⟩
        clear b6 b7
        have hb : Below wr.heap.size wr ((wr.drewN nq0).drewN nq1) := ⟨rfl, rfl, rfl, Nat.le_refl _, fun _ _ => rfl⟩
        have a5 := Lib.hid hb
        clear hb
        go_wp2_with fail
        clear d1 d2 d3 hxc e3
        replace a1 := bH a1 a5
        have a2 := Lib.hid (RdI.below X0.out a1.out)
        have a3 := Lib.hid (RdB.below R0.out a1.out)
        replace a4 := Lib.hid (World.ownsRow.drew ((Lib.hid (owns_below (a4.out) a5.out)).out))
        replace a0 := kD (kH a0 a5)
        replace a1 := bD a1
        replace a2 := iD a2
        replace a3 := rD a3
        refine wp_region_held_drew (S := (fun W' => Blk W' (w.heap.size) 84 #[.int .i64 P, .slice (some ⟨bb, ob, none⟩) n k] ∧ RdI W' (some ⟨xb, xo, none⟩) xn xk x ∧ RdB W' (some ⟨bb, ob, none⟩) n k l)) (by kernel_rfl) ⟨a0.out, a2.out, a3.out⟩ (fun _ => ?_)
        obtain ⟨c6, b4⟩ : ∃ w', w' = (((wr.drewN nq0).drewN nq1).drew) := ⟨_, rfl⟩
        rw [← b4] at a4 a0 a1 a2 a3
        rw [← b4]
        clear b4
        refine' twH 0 ⟨a0.out, a2.out, a3.out⟩ ?_
        refine' twH 1 ⟨a0.out, a2.out, a3.out⟩ ?_
        refine' tkH 2 ⟨a0.out, a2.out, a3.out⟩ ?b8 ?_
        case b8 => (rintro W' ⟨hS0, hS1, hS2⟩; have hc0 := Blk.nth hS0 1; clear hS0 hS1 hS2; go_simp; try with_reducible rfl)
        refine' twH 3 ⟨a0.out, a2.out, a3.out⟩ ?_
        try simp only [Act.put, qsA, qsZ, qsS]
        refine' twH 4 ⟨a0.out, a2.out, a3.out⟩ ?_
        refine' twH 5 ⟨a0.out, a2.out, a3.out⟩ ?_
        refine' tkH 6 ⟨a0.out, a2.out, a3.out⟩ ?b9 ?_
        case b9 => (rintro W' ⟨hS0, hS1, hS2⟩; obtain ⟨ca_, cl_⟩ := rdI_at hS1 HXQ.out; clear hS0 hS1 hS2; go_simp; try with_reducible rfl)
        refine' twH 7 ⟨a0.out, a2.out, a3.out⟩ ?_
        try simp only [Act.put, qsA, qsZ, qsS]
        refine' twH 8 ⟨a0.out, a2.out, a3.out⟩ ?_
        refine' tkH 9 ⟨a0.out, a2.out, a3.out⟩ ?c0 ?_
        case c0 => (rintro W' ⟨hS0, hS1, hS2⟩; obtain ⟨c0_, c1_, c2_, c3_, cl_⟩ := rdB_at hS2 HX2.out; clear hS0 hS1 hS2 c0_ c1_ c2_; go_simp; try with_reducible rfl)
        try simp only [Act.put, qsA, qsZ, qsS]
        refine oneH 10 rfl fun K hK => ?_
        have hbs_ := Blk.lt (a0.out)
        go_simp
        go_at_call 99
        refine (with_any (w.heap.size + 1) Ai ni ci (allS ((x.take q).map (bnd l))) ib _ (by omega) a4.out HNA.out HNI.out).mono ?_
        rintro e c7 ⟨B5, m5, d5, rfl, ho5, a8⟩
        dsimp only
        replace a8 := Lib.hid a8
        have b5 := Lib.hid (ho5)
        replace a0 := kH a0 a8
        replace a2 := iH a2 a8
        replace a3 := rH a3 a8
        refine hK.out _ _ ⟨a0.out, a2.out, a3.out⟩ (fun _ => ?_); clear hK K
        try simp only [Act.put, qsA, qsZ, qsS]
        refine' twH 11 ⟨a0.out, a2.out, a3.out⟩ ?_
        try simp only [Act.put, qsA, qsZ, qsS]
        refine wpAnyH_done (by kernel_rfl) ?_ _
        have hl5 := (OwnI.rd b5.out).1.len; have hl6 := (insU_length ib (allS ((x.take q).map (bnd l)))).2
        go_wp2
        replace a4 := Lib.hid (owns_below (a4.out) a8.out)
        replace a1 := bH a1 a8
        go_roundw
        case rel => exact ⟨q + 1, B5, m5, d5, by omega, by go_num, rfl, by rw [HST.out, if_pos hib]; exact b5.out, fun h => by omega, HIN2.out, a0.out, a1.out⟩
        case measure => simp [intOf]; omega
      · have d3 : decide (0 < ib) = false := decide_eq_false hib
        go_wp2_with fail
        go_quiet (fail)
        obtain ⟨nq0, rfl⟩ : ∃ n, n = nq := ⟨_, rfl⟩
        go_wp2_with fail
        go_quiet (fail)
        obtain ⟨nq1, rfl⟩ : ∃ n, n = nq := ⟨_, rfl⟩
        clear b6 b7
        have hb : Below wr.heap.size wr (wr.drewN (nq0 + nq1)) := ⟨rfl, rfl, rfl, Nat.le_refl _, fun _ _ => rfl⟩
        have a5 := Lib.hid hb
        clear hb
        go_wp2
        replace a4 := Lib.hid (owns_below (a4.out) a5.out)
        replace a0 := kH a0 a5
        replace a1 := bH a1 a5
        go_roundw
        case rel => exact ⟨q + 1, Ai, ni, ci, by omega, by go_num, rfl, by rw [HST.out, if_neg (show ¬ 0 < ib by omega)]; exact a4.out, HNA.out, HIN2.out, a0.out, a1.out⟩
        case measure => simp [intOf]; omega
    · obtain rfl : xn = q := by omega
      have hxl := X0.out.len
      have hall := HIN.out; rw [List.take_of_length_le (by omega)] at hall
      have hox := (OwnI.rd a4.out); rw [List.take_of_length_le (by omega)] at hox
      rw [allS_idsL (ids_nonneg HK.out hall)] at hox
      have hok : idsV P l x = (idsL (x.map (bnd l)), 0) := idsV_yes HK.out hall
      have HOK := Lib.hid hok; have HOX := Lib.hid hox; clear hok hox hall hxl
      obtain ⟨b0, b1⟩ := at2 a0
      go_wp2
      go_ret2
      exact ⟨Ai, ni, ci, by simp [HOK.out], by rw [HOK.out]; exact HOX.out.1, Nat.le_trans HOX.out.1.cap HOX.out.2, a1.out⟩
 · have hne : (q != 0) = true := by simpa using h0
   have hV : idsV P l x = ([], q) := by unfold idsV; rw [hq, if_pos h0]
   rw [hV]
   clear hV hq h0
   unfold RetLR
   go_enter Tryz.func55, Tryz.ntmps55
   obtain ⟨a7, a6⟩ := ent1 w #[.int .i64 P, .slice A n k] 84
   have a9 := rI h1 a6
   clear h1
   obtain ⟨c1, c2⟩ := at2 a7
   clear hx
   have hc := rCheckSystem_any P A n k l _ a9.out hn
   rw [E1.out] at hc
   try dsimp only at hc
   have HC := Lib.hid hc; clear hc
   go_wp2_with fail
   refine HC.out.mono ?_
   rintro e c5 ⟨rfl, hb⟩
   clear HC
   clear c1 c2
   have b2 := Lib.hid hb
   clear hb
   replace a7 := kH a7 b2
   obtain ⟨c3, c4⟩ := at2 a7
   go_wp2
   go_ret2
   replace a6 := bH a6 b2
   exact ⟨none, 0, 0, rfl, RdI.nil_ _, by unfold maxLen; omega, a6.out⟩
theorem ccode_zero {p : Int} {l : List Bnd} {x : List Int} (hk : chk p l = 0) : (checkCircleV p l x).2 = 0 := by
 have hg : gcode p l [] = 0 := by unfold gcode; rw [if_pos hk]; rfl
 unfold checkCircleV
 rw [if_pos hg]
 split
 · rfl
 · split <;> rfl
theorem rIds_is (P : Int) (A : Option Addr) (n k : Nat) (l : List Bnd) (w : World) (h1 : RdB w A n k l) (hn : n ≤ maxLen) (X : Option Addr) (xn xk : Nat) (x : List Int) (hx : RdI w X xn xk x) (hxm : xn ≤ 1000) (V : List Int × Int) (hV : idsV P l x = V) :
 Calls Tryz.prog 55 #[.agg #[.int .i64 P, .slice A n k], .slice X xn xk] w (RetLR V w) := by
 subst hV
 exact rIds_any P A n k l w h1 hn X xn xk x hx hxm
section
variable (c : Int) (A B : Option Addr) (n k m j : Nat) (ws ts : List Bnd) (d : Int) (C D : Option Addr) (n2 k2 m2 j2 : Nat) (ws2 ts2 : List Bnd) (p1 p2 p3 p4 : Int) (w : World) (h1 : RdB w A n k ws) (h2 : RdB w B m j ts) (hn : n ≤ maxLen) (hm : m ≤ maxLen) (h3 : RdB w C n2 k2 ws2) (h4 : RdB w D m2 j2 ts2) (hn2 : n2 ≤ maxLen) (hm2 : m2 ≤ maxLen) (u : Bool) (X : Option Addr) (xn xk : Nat) (x : List Int) (hx : RdI w X xn xk x) (hxm : xn ≤ 100)
include c A B n k m j ws ts d C D n2 k2 m2 j2 ws2 ts2 p1 p2 p3 p4 w h1 h2 hn hm h3 h4 hn2 hm2 u X xn xk x hx hxm
theorem rCheckClash_is (V : Bool × Int) (hV : checkClashV u ⟨c, ws, ts⟩ ⟨d, ws2, ts2⟩ ⟨p1, p2, p3, p4⟩ x = V) :
 Calls Tryz.prog 15 #[.agg #[.int .i64 c, .slice A n k, .slice B m j], .agg #[.int .i64 d, .slice C n2 k2, .slice D m2 j2], .agg #[.int .i64 p1, .int .i64 p2, .int .i64 p3, .int .i64 p4], .agg #[.bool u, .slice X xn xk]] w fun e w' => e = .returned (.tuple #[.bool V.1, .int .i64 V.2]) ∧ Below w.heap.size w w' := by
 subst hV
 exact rCheckClash_any c A B n k m j ws ts d C D n2 k2 m2 j2 ws2 ts2 p1 p2 p3 p4 w h1 h2 hn hm h3 h4 hn2 hm2 u X xn xk x hx hxm
set_option maxRecDepth 100000 in
theorem rRests_e (v1 : Bool) (v2 : Int) (hne : (v2 != 0) = true) (EV : Hid (checkClashV u ⟨c, ws, ts⟩ ⟨d, ws2, ts2⟩ ⟨p1, p2, p3, p4⟩ x = (v1, v2))) : Calls Tryz.prog 21 #[.agg #[.int .i64 c, .slice A n k, .slice B m j], .agg #[.int .i64 d, .slice C n2 k2, .slice D m2 j2], .agg #[.int .i64 p1, .int .i64 p2, .int .i64 p3, .int .i64 p4], .agg #[.bool u, .slice X xn xk]] w (RetLR ([], v2) w) := by
 unfold RetLR
 go_enter Tryz.func21, Tryz.ntmps21
 obtain ⟨a2, a3, a4, a5, a0⟩ := ent4 w #[.int .i64 c, .slice A n k, .slice B m j] 24 #[.int .i64 d, .slice C n2 k2, .slice D m2 j2] 24 #[.int .i64 p1, .int .i64 p2, .int .i64 p3, .int .i64 p4] 28 #[.bool u, .slice X xn xk] 40
 have a7 := rI h1 a0
 have a8 := rI h2 a0
 have a9 := rI h3 a0
 have b0 := rI h4 a0
 have a6 := iI hx a0
 clear h1 h2 h3 h4 hx
 obtain ⟨b1, b2, b3⟩ := at3 a2
 obtain ⟨b4, b5, b6⟩ := at3 a3
 obtain ⟨b7, b8, b9, c0⟩ := at4 a4
 obtain ⟨c1, c2⟩ := at2 a5
 have hc := rCheckClash_is c A B n k m j ws ts d C D n2 k2 m2 j2 ws2 ts2 p1 p2 p3 p4 _ a7.out a8.out hn hm a9.out b0.out hn2 hm2 u X xn xk x a6.out hxm _ EV.out
 have HC := Lib.hid hc; clear hc
 go_wp2_with fail
 refine HC.out.mono ?_
 rintro e c3 ⟨rfl, hb⟩
 clear HC
 clear b1 b2 b3 b4 b5 b6 b7 b8 b9 c0 c1 c2
 have a1 := Lib.hid hb
 clear hb
 replace a2 := kH a2 a1
 obtain ⟨c4, c5, c6⟩ := at3 a2
 replace a3 := kH a3 a1
 obtain ⟨c7, c8, c9⟩ := at3 a3
 replace a4 := kH a4 a1
 obtain ⟨d0, d1, d2, d3⟩ := at4 a4
 replace a5 := kH a5 a1
 obtain ⟨d4, d5⟩ := at2 a5
 go_wp2
 go_ret2
 replace a0 := bH a0 a1
 exact ⟨none, 0, 0, rfl, RdI.nil_ _, by unfold maxLen; omega, a0.out⟩
set_option maxRecDepth 100000 in
theorem rRests_n (EV : Hid (checkClashV u ⟨c, ws, ts⟩ ⟨d, ws2, ts2⟩ ⟨p1, p2, p3, p4⟩ x = (false, 0))) : Calls Tryz.prog 21 #[.agg #[.int .i64 c, .slice A n k, .slice B m j], .agg #[.int .i64 d, .slice C n2 k2, .slice D m2 j2], .agg #[.int .i64 p1, .int .i64 p2, .int .i64 p3, .int .i64 p4], .agg #[.bool u, .slice X xn xk]] w (RetLR ([], 1) w) := by
 unfold RetLR
 go_enter Tryz.func21, Tryz.ntmps21
 obtain ⟨a2, a3, a4, a5, a0⟩ := ent4 w #[.int .i64 c, .slice A n k, .slice B m j] 24 #[.int .i64 d, .slice C n2 k2, .slice D m2 j2] 24 #[.int .i64 p1, .int .i64 p2, .int .i64 p3, .int .i64 p4] 28 #[.bool u, .slice X xn xk] 40
 have a7 := rI h1 a0
 have a8 := rI h2 a0
 have a9 := rI h3 a0
 have b0 := rI h4 a0
 have a6 := iI hx a0
 clear h1 h2 h3 h4 hx
 obtain ⟨b1, b2, b3⟩ := at3 a2
 obtain ⟨b4, b5, b6⟩ := at3 a3
 obtain ⟨b7, b8, b9, c0⟩ := at4 a4
 obtain ⟨c1, c2⟩ := at2 a5
 have hc := rCheckClash_is c A B n k m j ws ts d C D n2 k2 m2 j2 ws2 ts2 p1 p2 p3 p4 _ a7.out a8.out hn hm a9.out b0.out hn2 hm2 u X xn xk x a6.out hxm _ EV.out
 have HC := Lib.hid hc; clear hc
 go_wp2_with fail
 refine HC.out.mono ?_
 rintro e c3 ⟨rfl, hb⟩
 clear HC
 clear b1 b2 b3 b4 b5 b6 b7 b8 b9 c0 c1 c2
 have a1 := Lib.hid hb
 clear hb
 replace a2 := kH a2 a1
 obtain ⟨c4, c5, c6⟩ := at3 a2
 replace a3 := kH a3 a1
 obtain ⟨c7, c8, c9⟩ := at3 a3
 replace a4 := kH a4 a1
 obtain ⟨d0, d1, d2, d3⟩ := at4 a4
 replace a5 := kH a5 a1
 obtain ⟨d4, d5⟩ := at2 a5
 go_wp2
 go_ret2
 replace a0 := bH a0 a1
 exact ⟨none, 0, 0, rfl, RdI.nil_ _, by unfold maxLen; omega, a0.out⟩
set_option maxRecDepth 100000 in
theorem rRests_o (EV : Hid (checkClashV u ⟨c, ws, ts⟩ ⟨d, ws2, ts2⟩ ⟨p1, p2, p3, p4⟩ x = (true, 0))) (HQ1 : Hid (chkP ⟨c, ws, ts⟩ ⟨d, ws2, ts2⟩ ⟨p1, p2, p3, p4⟩ = 0)) (HL1 : Hid ((jL u ⟨c, ws, ts⟩ ⟨d, ws2, ts2⟩ ⟨p1, p2, p3, p4⟩).length ≤ 400)) (I1 : List Int) (I2 : Int) (EI : Hid (idsV (jP u ⟨c, ws, ts⟩ ⟨d, ws2, ts2⟩ ⟨p1, p2, p3, p4⟩) (jL u ⟨c, ws, ts⟩ ⟨d, ws2, ts2⟩ ⟨p1, p2, p3, p4⟩) x = (I1, I2))) : Calls Tryz.prog 21 #[.agg #[.int .i64 c, .slice A n k, .slice B m j], .agg #[.int .i64 d, .slice C n2 k2, .slice D m2 j2], .agg #[.int .i64 p1, .int .i64 p2, .int .i64 p3, .int .i64 p4], .agg #[.bool u, .slice X xn xk]] w (RetLR (I1, I2) w) := by
 unfold RetLR
 go_enter Tryz.func21, Tryz.ntmps21
 obtain ⟨a0, a1, a2, a3, a4⟩ := ent4 w #[.int .i64 c, .slice A n k, .slice B m j] 24 #[.int .i64 d, .slice C n2 k2, .slice D m2 j2] 24 #[.int .i64 p1, .int .i64 p2, .int .i64 p3, .int .i64 p4] 28 #[.bool u, .slice X xn xk] 40
 have a9 := rI h1 a4
 have b0 := rI h2 a4
 have b1 := rI h3 a4
 have b2 := rI h4 a4
 have a8 := iI hx a4
 clear h1 h2 h3 h4 hx
 obtain ⟨c1, c2, c3⟩ := at3 a0
 obtain ⟨c4, c5, c6⟩ := at3 a1
 obtain ⟨c7, c8, d0, d1⟩ := at4 a2
 obtain ⟨d2, d3⟩ := at2 a3
 have hc := rCheckClash_is c A B n k m j ws ts d C D n2 k2 m2 j2 ws2 ts2 p1 p2 p3 p4 _ a9.out b0.out hn hm b1.out b2.out hn2 hm2 u X xn xk x a8.out hxm _ EV.out
 have HC := Lib.hid hc; clear hc
 go_wp2_with fail
 refine HC.out.mono ?_
 rintro e d4 ⟨rfl, hb⟩
 clear HC
 clear c1 c2 c3 c4 c5 c6 c7 c8 d0 d1 d2 d3
 have a5 := Lib.hid hb
 clear hb
 replace a0 := kH a0 a5
 obtain ⟨d5, d6, d7⟩ := at3 a0
 replace a1 := kH a1 a5
 obtain ⟨d8, d9, e0⟩ := at3 a1
 replace a2 := kH a2 a5
 obtain ⟨e1, e2, e3, e4⟩ := at4 a2
 replace a3 := kH a3 a5
 obtain ⟨e5, e6⟩ := at2 a3
 go_wp2_with fail
 clear d5 d6 d7 d8 d9 e0 e1 e2 e3 e4 e5 e6
 replace a4 := bD (bH a4 a5)
 replace a9 := rD (rH a9 a5)
 replace b0 := rD (rH b0 a5)
 replace b1 := rD (rH b1 a5)
 replace b2 := rD (rH b2 a5)
 replace a8 := iD (iH a8 a5)
 replace a0 := kD a0
 replace a1 := kD a1
 replace a2 := kD a2
 replace a3 := kD a3
 refine wp_region_held_drew (S := (fun W' => Blk W' (w.heap.size) 24 #[.int .i64 c, .slice A n k, .slice B m j] ∧ Blk W' (w.heap.size + 1) 24 #[.int .i64 d, .slice C n2 k2, .slice D m2 j2] ∧ Blk W' (w.heap.size + 1 + 1) 28 #[.int .i64 p1, .int .i64 p2, .int .i64 p3, .int .i64 p4] ∧ Blk W' (w.heap.size + 1 + 1 + 1) 40 #[.bool u, .slice X xn xk])) (by kernel_rfl) ⟨a0.out, a1.out, a2.out, a3.out⟩ (fun _ => ?_)
 obtain ⟨e7, b3⟩ : ∃ w', w' = (d4.drew) := ⟨_, rfl⟩
 rw [← b3] at a4 a9 b0 b1 b2 a8 a0 a1 a2 a3
 rw [← b3]
 clear b3
 refine' tkH 0 ⟨a0.out, a1.out, a2.out, a3.out⟩ ?b5 ?_
 case b5 => (rintro W' ⟨hS0, hS1, hS2, hS3⟩; have hc0 := Blk.nth hS0 0; have hc1 := Blk.nth hS0 1; have hc2 := Blk.nth hS0 2; clear hS0 hS1 hS2 hS3; go_simp; try with_reducible rfl)
 refine' tkH 1 ⟨a0.out, a1.out, a2.out, a3.out⟩ ?b6 ?_
 case b6 => (rintro W' ⟨hS0, hS1, hS2, hS3⟩; have hc0 := Blk.nth hS1 0; have hc1 := Blk.nth hS1 1; have hc2 := Blk.nth hS1 2; clear hS0 hS1 hS2 hS3; go_simp; try with_reducible rfl)
 refine' tkH 2 ⟨a0.out, a1.out, a2.out, a3.out⟩ ?b7 ?_
 case b7 => (rintro W' ⟨hS0, hS1, hS2, hS3⟩; have hc0 := Blk.nth hS2 0; have hc1 := Blk.nth hS2 1; have hc2 := Blk.nth hS2 2; have hc3 := Blk.nth hS2 3; clear hS0 hS1 hS2 hS3; go_simp; try with_reducible rfl)
 refine' twH 3 ⟨a0.out, a1.out, a2.out, a3.out⟩ ?_
 try simp only [Act.put, qsA, qsZ, qsS]
 refine' tkH 4 ⟨a0.out, a1.out, a2.out, a3.out⟩ ?b8 ?_
 case b8 => (rintro W' ⟨hS0, hS1, hS2, hS3⟩; have hc0 := Blk.nth hS3 0; clear hS0 hS1 hS2 hS3; go_simp; try with_reducible rfl)
 refine' twH 6 ⟨a0.out, a1.out, a2.out, a3.out⟩ ?_
 refine' tkH 7 ⟨a0.out, a1.out, a2.out, a3.out⟩ ?b9 ?_
 case b9 => (rintro W' ⟨hS0, hS1, hS2, hS3⟩; have hc0 := Blk.nth hS3 1; clear hS0 hS1 hS2 hS3; go_simp; try with_reducible rfl)
 try simp only [Act.put, qsA, qsZ, qsS]
 refine oneH 5 rfl fun K hK => ?_
 go_simp
 go_at_call 48
 refine (rjoint_any u c A B n k m j ws ts d C D n2 k2 m2 j2 ws2 ts2 p1 p2 p3 p4 _ a9.out b0.out hn hm b1.out b2.out hn2 hm2 HQ1.out).mono ?_
 rintro e e8 ⟨Ar, nr, kr, rfl, hrl, a6⟩
 dsimp only
 replace a6 := Lib.hid a6
 have b4 := Lib.hid (hrl)
 replace a0 := kH a0 a6
 replace a1 := kH a1 a6
 replace a2 := kH a2 a6
 replace a3 := kH a3 a6
 refine hK.out _ _ ⟨a0.out, a1.out, a2.out, a3.out⟩ (fun _ => ?_); clear hK K
 try simp only [Act.put, qsA, qsZ, qsS]
 refine oneH 8 rfl fun K hK => ?_
 replace a8 := iH a8 a6
 have hl_ : nr ≤ maxLen := by have h1 := (b4.out).len; have h2 := HL1.out; unfold maxLen; omega
 go_simp
 go_at_call 55
 refine (rIds_is _ Ar nr kr _ _ b4.out hl_ X xn xk x a8.out (by omega) _ EI.out).mono ?_
 rintro e e9 ⟨A9, n9, c9, rfl, hr9, hm9, a7⟩
 dsimp only
 replace a7 := Lib.hid a7
 have c0 := Lib.hid (hr9)
 replace a0 := kH a0 a7
 replace a1 := kH a1 a7
 replace a2 := kH a2 a7
 replace a3 := kH a3 a7
 refine hK.out _ _ ⟨a0.out, a1.out, a2.out, a3.out⟩ (fun _ => ?_); clear hK K
 try simp only [Act.put, qsA, qsZ, qsS]
 refine' twH 9 ⟨a0.out, a1.out, a2.out, a3.out⟩ ?_
 refine' twH 10 ⟨a0.out, a1.out, a2.out, a3.out⟩ ?_
 refine' twH 11 ⟨a0.out, a1.out, a2.out, a3.out⟩ ?_
 refine' twH 12 ⟨a0.out, a1.out, a2.out, a3.out⟩ ?_
 try simp only [Act.put, qsA, qsZ, qsS]
 refine wpAnyH_done (by kernel_rfl) ?_ _
 go_wp2
 go_ret2
 replace a4 := bH (bH a4 a6) a7
 exact ⟨A9, n9, c9, rfl, c0.out, hm9, a4.out⟩
theorem rRests_any : Calls Tryz.prog 21 #[.agg #[.int .i64 c, .slice A n k, .slice B m j], .agg #[.int .i64 d, .slice C n2 k2, .slice D m2 j2], .agg #[.int .i64 p1, .int .i64 p2, .int .i64 p3, .int .i64 p4], .agg #[.bool u, .slice X xn xk]] w (RetLR (erestsV u ⟨c, ws, ts⟩ ⟨d, ws2, ts2⟩ ⟨p1, p2, p3, p4⟩ x) w) := by
 unfold erestsV
 by_cases h : asked ⟨c, ws, ts⟩ ⟨d, ws2, ts2⟩ ⟨p1, p2, p3, p4⟩ = 0
 · rw [if_pos h]
   have hc : checkClashV u ⟨c, ws, ts⟩ ⟨d, ws2, ts2⟩ ⟨p1, p2, p3, p4⟩ x = ((checkCircleV (jP u ⟨c, ws, ts⟩ ⟨d, ws2, ts2⟩ ⟨p1, p2, p3, p4⟩) (jL u ⟨c, ws, ts⟩ ⟨d, ws2, ts2⟩ ⟨p1, p2, p3, p4⟩) x).1, 0) := by
    unfold checkClashV
    rw [if_pos h]
    exact Prod.ext rfl (ccode_zero (jL_chk h u))
   cases hb : (checkCircleV (jP u ⟨c, ws, ts⟩ ⟨d, ws2, ts2⟩ ⟨p1, p2, p3, p4⟩) (jL u ⟨c, ws, ts⟩ ⟨d, ws2, ts2⟩ ⟨p1, p2, p3, p4⟩) x).1
   · rw [hb] at hc
     exact rRests_n c A B n k m j ws ts d C D n2 k2 m2 j2 ws2 ts2 p1 p2 p3 p4 w h1 h2 hn hm h3 h4 hn2 hm2 u X xn xk x hx hxm (Lib.hid hc)
   · rw [hb] at hc
     exact rRests_o c A B n k m j ws ts d C D n2 k2 m2 j2 ws2 ts2 p1 p2 p3 p4 w h1 h2 hn hm h3 h4 hn2 hm2 u X xn xk x hx hxm (Lib.hid hc) (Lib.hid (asked_ok h).1) (Lib.hid (jL_len h u)) _ _ (Lib.hid rfl)
 · rw [if_neg h]
   have hc : checkClashV u ⟨c, ws, ts⟩ ⟨d, ws2, ts2⟩ ⟨p1, p2, p3, p4⟩ x = (false, asked ⟨c, ws, ts⟩ ⟨d, ws2, ts2⟩ ⟨p1, p2, p3, p4⟩) := by unfold checkClashV; rw [if_neg h]
   exact rRests_e c A B n k m j ws ts d C D n2 k2 m2 j2 ws2 ts2 p1 p2 p3 p4 w h1 h2 hn hm h3 h4 hn2 hm2 u X xn xk x hx hxm _ _ (by simpa using h) (Lib.hid hc)
end
end Go.Proofs.YtjjmifcjailpaaaGreat
