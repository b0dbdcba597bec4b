/- Doubt and Rests of gauge. -/
import Derived.Test.YthlnialipjihdaaNeeded
set_option linter.unusedSimpArgs false
set_option linter.unusedVariables false
namespace Go.Proofs.Ythlnialipjihdaa
open Go.RowKit

def OkL (l : List Bnd) : Prop := OkB l ∧ (∀ x ∈ l, Wf x.b) ∧ l.length ≤ 400
theorem okL_drop (l : List Bnd) (S : List Int) (h : OkL l) : OkL (dropL l S) :=
  ⟨fun x hx => h.1 x (List.mem_filter.1 hx).1, fun x hx => h.2.1 x (List.mem_filter.1 hx).1, Nat.le_trans (List.length_filter_le _ _) h.2.2⟩
theorem okL_of {p : Int} {l : List Bnd} (hk : chk p l = 0) : OkL l := by
  obtain ⟨_, _, hlen, h⟩ := chk_ok hk
  refine ⟨okB_of hk, fun x hx => ?_, hlen⟩
  have := h x hx
  unfold okBnd at this
  rw [decide_eq_true_eq] at this
  exact wf_of (by omega)

/-- Is there no solution? -/
def holdsD (p : Nat) (l : List Bnd) : Bool := !(settle l p zeros).isSome
/-- An end of a difference, and whether there is one. -/
def endW (l : List Bnd) (p a b : Nat) (u : Bool) : Int × Bool := if u = true then (fin (dist l p a b), isF (dist l p a b)) else (-fin (dist l p b a), isF (dist l p b a))
def holdsR (p a b : Nat) (u : Bool) (N : Int) (l : List Bnd) : Bool := (endW l p a b u).2 && decide ((endW l p a b u).1 = N)

set_option maxHeartbeats 1000000 in
theorem doubt1_any (p : Nat) (A : Option Addr) (n c : Nat) (l : List Bnd) (hp : p ≤ 60) (hn400 : n ≤ 402) (hok : OkB l) (w : World) (hr : RdB w A n c l) :
    Calls Try.prog 93 #[.agg #[.int .i64 (p : Int), .slice A n c]] w fun e w' => e = .returned (.bool (holdsD p l)) ∧ Below w.heap.size w w' := by
  have hB : Below w.heap.size w (w.alloc (.cells #[.int .i64 (p : Int), .slice A n c] 70)) := (Below.refl _ w).alloc (Nat.le_refl _) _
  have hc := solution_any p A n c l hp hn400 hok _ (hr.below hB)
  have hzl := setL_length (l := l) (p := p) zeros_length
  unfold holdsD
  generalize setL l p zeros = z at *
  generalize (settle l p zeros).isSome = q at *
  have HC := Lib.hid hc; have HZL := Lib.hid hzl; clear hc hr hzl
  go_enter Try.func93, Try.ntmps93
  go_wp2_with fail
  refine HC.out.mono ?_
  rintro e w1 ⟨rfl, hb1⟩
  have Z1 := Lib.hid (Blk.new w1 79 (arr zeros))
  have hB1 := hB.trans (hb1.mono hB.size)
  go_wp2_with (first | (refine wpList_alloc_row rfl 79 rfl (arr zeros) zero_sums.1 ?_; simp only [World.size_alloc]) | (refine wpList_store_row rfl 79 (.tmp 3) (.tmp 8) rfl _ (arr z) rfl rfl _ (arr zeros) Z1.out (size_sums HZL.out) ((arr_size _).trans (zeros_length.trans (HZL.out.symm.trans (arr_size _).symm))) (arr_one _) ?_; rw [World.setRow_alloc_new]))
  go_ret
  exact ⟨rfl, hB1.alloc hB1.size _⟩

set_option maxHeartbeats 2000000 in
theorem rests1_any (Bu Ba Bb Bn : Nat) (p a b : Nat) (u : Bool) (N : Int) (A : Option Addr) (n c : Nat) (l : List Bnd) (hp : p ≤ 60) (ha : a < 60) (hb : b < 60) (hn400 : n ≤ 402) (hok : OkB l) (w : World) (hr : RdB w A n c l)
    (h1 : Blk w Bu 4 #[.bool u]) (h2 : Blk w Ba 3 #[.int .i64 (a : Int)]) (h3 : Blk w Bb 3 #[.int .i64 (b : Int)]) (h4 : Blk w Bn 3 #[.int .i64 N]) :
    Calls Try.prog 89 #[.agg #[.int .i64 (p : Int), .slice A n c], .pointer (some ⟨Bu, 0, none⟩), .pointer (some ⟨Ba, 0, none⟩), .pointer (some ⟨Bb, 0, none⟩), .pointer (some ⟨Bn, 0, none⟩)] w fun e w' => e = .returned (.bool (holdsR p a b u N l)) ∧ Below w.heap.size w w' := by
  have hB : Below w.heap.size w (w.alloc (.cells #[.int .i64 (p : Int), .slice A n c] 70)) := (Below.refl _ w).alloc (Nat.le_refl _) _
  have hg := fun w' hw' => greatest_any p a b A n c l hp ha hb hn400 hok w' (hr.below hw')
  have hl := fun w' hw' => least_any p a b A n c l hp ha hb hn400 hok w' (hr.below hw')
  have c1 := (h1.alloc (.cells #[.int .i64 (p : Int), .slice A n c] 70)).cell 0
  have H2 := Lib.hid h2; have H3 := Lib.hid h3; have H4 := Lib.hid h4; have HG := Lib.hid hg; have HL := Lib.hid hl; have HB := Lib.hid hB
  have c1' : (w.alloc (.cells #[.int .i64 (p : Int), .slice A n c] 70)).cell? ⟨Bu, 0, none⟩ = some (.bool u) := c1
  have hz1 := h1.lt
  clear h1 h2 h3 h4 hg hl hB hr hok c1
  unfold holdsR
  cases u
  · unfold endW
    rw [if_neg (by simp)]
    dsimp only
    generalize fin (dist l p b a) = v at *
    generalize isF (dist l p b a) = t at *
    cases t
    · go_enter Try.func89, Try.ntmps89
      go_wp2_with fail
      refine (end_any (p : Int) A n c false _).mono ?_
      rintro e w1 ⟨rfl, hb1⟩
      have hB1 := HB.out.trans (hb1.mono HB.out.size)
      have d2 : w1.cell? ⟨Ba, 0, none⟩ = some (.int .i64 (a : Int)) := (H2.out.keep hB1).cell 0
      have d3 : w1.cell? ⟨Bb, 0, none⟩ = some (.int .i64 (b : Int)) := (H3.out.keep hB1).cell 0
      go_wp2_with fail
      refine (HL.out _ hB1).mono ?_
      rintro e w2 ⟨rfl, hb2⟩
      have hB2 := hB1.trans (hb2.mono hB1.size)
      have d4 : w2.cell? ⟨Bn, 0, none⟩ = some (.int .i64 N) := (H4.out.keep hB2).cell 0
      have hz4 := (H4.out.keep hB2).lt
      go_wp2
      go_ret
      exact ⟨rfl, hB2⟩
    · by_cases hv : -v = N
      · have hvb : (-v == N) = true := by simpa using hv
        have hvd : decide (-v = N) = true := decide_eq_true hv
        rw [hvd]
        clear hv hvd
        go_enter Try.func89, Try.ntmps89
        go_wp2_with fail
        refine (end_any (p : Int) A n c false _).mono ?_
        rintro e w1 ⟨rfl, hb1⟩
        have hB1 := HB.out.trans (hb1.mono HB.out.size)
        have d2 : w1.cell? ⟨Ba, 0, none⟩ = some (.int .i64 (a : Int)) := (H2.out.keep hB1).cell 0
        have d3 : w1.cell? ⟨Bb, 0, none⟩ = some (.int .i64 (b : Int)) := (H3.out.keep hB1).cell 0
        go_wp2_with fail
        refine (HL.out _ hB1).mono ?_
        rintro e w2 ⟨rfl, hb2⟩
        have hB2 := hB1.trans (hb2.mono hB1.size)
        have d4 : w2.cell? ⟨Bn, 0, none⟩ = some (.int .i64 N) := (H4.out.keep hB2).cell 0
        have hz4 := (H4.out.keep hB2).lt
        go_wp2
        go_ret
        exact ⟨rfl, hB2⟩
      · have hvb : (-v == N) = false := by simpa using hv
        have hvd : decide (-v = N) = false := decide_eq_false hv
        rw [hvd]
        clear hv hvd
        go_enter Try.func89, Try.ntmps89
        go_wp2_with fail
        refine (end_any (p : Int) A n c false _).mono ?_
        rintro e w1 ⟨rfl, hb1⟩
        have hB1 := HB.out.trans (hb1.mono HB.out.size)
        have d2 : w1.cell? ⟨Ba, 0, none⟩ = some (.int .i64 (a : Int)) := (H2.out.keep hB1).cell 0
        have d3 : w1.cell? ⟨Bb, 0, none⟩ = some (.int .i64 (b : Int)) := (H3.out.keep hB1).cell 0
        go_wp2_with fail
        refine (HL.out _ hB1).mono ?_
        rintro e w2 ⟨rfl, hb2⟩
        have hB2 := hB1.trans (hb2.mono hB1.size)
        have d4 : w2.cell? ⟨Bn, 0, none⟩ = some (.int .i64 N) := (H4.out.keep hB2).cell 0
        have hz4 := (H4.out.keep hB2).lt
        go_wp2
        go_ret
        exact ⟨rfl, hB2⟩
  · unfold endW
    rw [if_pos rfl]
    dsimp only
    generalize fin (dist l p a b) = v at *
    generalize isF (dist l p a b) = t at *
    cases t
    · go_enter Try.func89, Try.ntmps89
      go_wp2_with fail
      refine (end_any (p : Int) A n c true _).mono ?_
      rintro e w1 ⟨rfl, hb1⟩
      have hB1 := HB.out.trans (hb1.mono HB.out.size)
      have d2 : w1.cell? ⟨Ba, 0, none⟩ = some (.int .i64 (a : Int)) := (H2.out.keep hB1).cell 0
      have d3 : w1.cell? ⟨Bb, 0, none⟩ = some (.int .i64 (b : Int)) := (H3.out.keep hB1).cell 0
      go_wp2_with fail
      refine (HG.out _ hB1).mono ?_
      rintro e w2 ⟨rfl, hb2⟩
      have hB2 := hB1.trans (hb2.mono hB1.size)
      have d4 : w2.cell? ⟨Bn, 0, none⟩ = some (.int .i64 N) := (H4.out.keep hB2).cell 0
      have hz4 := (H4.out.keep hB2).lt
      go_wp2
      go_ret
      exact ⟨rfl, hB2⟩
    · by_cases hv : v = N
      · have hvb : (v == N) = true := by simpa using hv
        have hvd : decide (v = N) = true := decide_eq_true hv
        rw [hvd]
        clear hv hvd
        go_enter Try.func89, Try.ntmps89
        go_wp2_with fail
        refine (end_any (p : Int) A n c true _).mono ?_
        rintro e w1 ⟨rfl, hb1⟩
        have hB1 := HB.out.trans (hb1.mono HB.out.size)
        have d2 : w1.cell? ⟨Ba, 0, none⟩ = some (.int .i64 (a : Int)) := (H2.out.keep hB1).cell 0
        have d3 : w1.cell? ⟨Bb, 0, none⟩ = some (.int .i64 (b : Int)) := (H3.out.keep hB1).cell 0
        go_wp2_with fail
        refine (HG.out _ hB1).mono ?_
        rintro e w2 ⟨rfl, hb2⟩
        have hB2 := hB1.trans (hb2.mono hB1.size)
        have d4 : w2.cell? ⟨Bn, 0, none⟩ = some (.int .i64 N) := (H4.out.keep hB2).cell 0
        have hz4 := (H4.out.keep hB2).lt
        go_wp2
        go_ret
        exact ⟨rfl, hB2⟩
      · have hvb : (v == N) = false := by simpa using hv
        have hvd : decide (v = N) = false := decide_eq_false hv
        rw [hvd]
        clear hv hvd
        go_enter Try.func89, Try.ntmps89
        go_wp2_with fail
        refine (end_any (p : Int) A n c true _).mono ?_
        rintro e w1 ⟨rfl, hb1⟩
        have hB1 := HB.out.trans (hb1.mono HB.out.size)
        have d2 : w1.cell? ⟨Ba, 0, none⟩ = some (.int .i64 (a : Int)) := (H2.out.keep hB1).cell 0
        have d3 : w1.cell? ⟨Bb, 0, none⟩ = some (.int .i64 (b : Int)) := (H3.out.keep hB1).cell 0
        go_wp2_with fail
        refine (HG.out _ hB1).mono ?_
        rintro e w2 ⟨rfl, hb2⟩
        have hB2 := hB1.trans (hb2.mono hB1.size)
        have d4 : w2.cell? ⟨Bn, 0, none⟩ = some (.int .i64 N) := (H4.out.keep hB2).cell 0
        have hz4 := (H4.out.keep hB2).lt
        go_wp2
        go_ret
        exact ⟨rfl, hB2⟩

def doubtV (p : Int) (l : List Bnd) : List Int × Bool × Int :=
  if gcode p l [] = 0 then (if (settle l p.toNat zeros).isSome = true then ([], false, 0) else (neededV (holdsD p.toNat) l, true, 0)) else ([], false, gcode p l [])

set_option maxHeartbeats 2000000 in
theorem Doubt_any (p : Int) (A : Option Addr) (n c : Nat) (l : List Bnd) (w : World) (hr : RdB w A n c l) (hn : n ≤ maxLen) :
    Calls Try.prog 46 #[.agg #[.int .i64 p, .slice A n c]] w (RetI (doubtV p l) w) := by
  have hB : Below w.heap.size w (w.alloc (.cells #[.int .i64 p, .slice A n c] 24)) := (Below.refl _ w).alloc (Nat.le_refl _) _
  have hc := graphOf_any p A none n c 0 0 l [] _ (hr.below hB) hn (RdI.nil_ _) (by omega)
  have HC := Lib.hid hc; have HR := Lib.hid hr; clear hc hr
  unfold doubtV
  by_cases hg : gcode p l [] = 0
  · obtain ⟨hk, -⟩ := gcode_ok hg
    obtain ⟨hp1, hp2, hlen, -⟩ := chk_ok hk
    have hokl := okL_of hk
    rw [if_pos hg]
    rw [hg, sysR_yes] at HC
    clear hg hk
    obtain ⟨p, rfl⟩ := Int.eq_ofNat_of_zero_le (show 0 ≤ p by omega)
    rw [Int.toNat_natCast]
    have hn2 : n ≤ 402 := by have := HR.out.len; omega
    have hd1 := fun w' hw' => doubt1_any p A n c l (by omega) hn2 hokl.1 w' (HR.out.below hw')
    have hnd := fun w' hw' => callsIn_wide.1 (needed_in_doubt (p : Int) A n c l OkL (holdsD p) hokl okL_drop (fun l' h => ⟨h.2.1, by have := h.2.2; omega⟩) w' (fun l' A' n' c' W h1 h2 _ => doubt1_any p A' n' c' l' (by omega) (by have := h1.2.2; have := h2.len; omega) h1.1 W h2) (HR.out.below hw'))
    have hq : holdsD p l = !(settle l p zeros).isSome := rfl
    rw [hq] at hd1
    generalize neededV (holdsD p) l = V at *
    generalize (settle l p zeros).isSome = q at *
    have HD := Lib.hid hd1; have HN := Lib.hid hnd; clear hd1 hnd hq hokl
    cases q
    · rw [if_neg (by simp)]
      go_enter Try.func46, Try.ntmps46
      go_wp2_with fail
      refine HC.out.mono ?_
      rintro e w1 ⟨rfl, hb1⟩
      have hB1 := hB.trans (hb1.mono hB.size)
      go_wp2_with fail
      refine (HD.out _ (hB1.alloc hB1.size _)).mono ?_
      rintro e w2 ⟨rfl, hb2⟩
      have hB2 := (hB1.alloc hB1.size (.cells #[.int .i64 (p : Int), .slice A n c] 70)).trans (hb2.mono (hB1.alloc hB1.size _).size)
      have c2 := (Blk.new w1 70 #[.int .i64 (p : Int), .slice A n c]).keep hb2
      have y0 : w2.cell? ⟨w1.heap.size, 0, none⟩ = some (.int .i64 (p : Int)) := c2.cell 0
      have y1 : w2.cell? ⟨w1.heap.size, 1, none⟩ = some (.slice A n c) := c2.cell 1
      clear c2
      go_wp2_with fail
      refine (HN.out _ hB2).mono ?_
      rintro e w3 ⟨A3, n3, c3, rfl, ho3, hb3⟩
      have HO := Lib.hid ho3; clear ho3
      go_wp2
      go_ret3
      exact ⟨_, _, _, rfl, owns_base HO.out hB2.size, hB2.trans (hb3.mono hB2.size)⟩
    · rw [if_pos rfl]
      go_enter Try.func46, Try.ntmps46
      go_wp2_with fail
      refine HC.out.mono ?_
      rintro e w1 ⟨rfl, hb1⟩
      have hB1 := hB.trans (hb1.mono hB.size)
      go_wp2_with fail
      refine (HD.out _ (hB1.alloc hB1.size _)).mono ?_
      rintro e w2 ⟨rfl, hb2⟩
      have hB2 := (hB1.alloc hB1.size (.cells #[.int .i64 (p : Int), .slice A n c] 70)).trans (hb2.mono (hB1.alloc hB1.size _).size)
      go_wp2
      go_ret3
      exact ⟨none, 0, 0, rfl, OwnI.nil_ _ _, hB2⟩
  · rw [if_neg hg]
    generalize gcode p l [] = q at *
    rw [sysR_no hg] at HC
    have hne : (q != 0) = true := by simpa using hg
    clear hg
    go_enter Try.func46, Try.ntmps46
    go_wp2_with fail
    refine HC.out.mono ?_
    rintro e w1 ⟨rfl, hb1⟩
    have hB1 := hB.trans (hb1.mono hB.size)
    go_wp2
    go_ret3
    exact ⟨none, 0, 0, rfl, OwnI.nil_ _ _, (by have hsz_ := Below.size hB1; repeat' (first | with_reducible exact hB1 | with_reducible exact Below.refl _ _ | with_reducible refine Below.alloc ?_ ?_ _ | with_reducible refine Below.setCell ?_ ?_ _ | with_reducible refine Below.drew ?_ | with_reducible refine below_setRow ?_ ?_ _ | omega | (simp; done) | (simp; omega)))⟩
end Go.Proofs.Ythlnialipjihdaa

/- Rests of gauge. -/
namespace Go.Proofs.Ythlnialipjihdaa
open Go.RowKit

def restsV (p : Int) (l : List Bnd) (a b : Int) (u : Bool) : List Int × Int :=
  if scode p l [a, b] = 0 then (if (endW l p.toNat a.toNat b.toNat u).2 = true then (neededV (holdsR p.toNat a.toNat b.toNat u (endW l p.toNat a.toNat b.toNat u).1) l, 0) else ([], 0)) else ([], scode p l [a, b])

theorem find_any (p a b : Nat) (u : Bool) (A : Option Addr) (n c : Nat) (l : List Bnd) (hp : p ≤ 60) (ha : a < 60) (hb : b < 60) (hn400 : n ≤ 402) (hok : OkB l) (w : World) (hr : RdB w A n c l) :
    Calls Try.prog (if u then 84 else 112) #[.agg #[.int .i64 (p : Int), .slice A n c], .int .i64 (a : Int), .int .i64 (b : Int)] w fun e w' => e = .returned (.tuple #[.int .i64 (endW l p a b u).1, .bool (endW l p a b u).2]) ∧ Below w.heap.size w w' := by
  cases u
  · exact least_any p a b A n c l hp ha hb hn400 hok w hr
  · exact greatest_any p a b A n c l hp ha hb hn400 hok w hr
set_option maxRecDepth 100000 in
set_option maxHeartbeats 4000000 in
theorem Rests_any (p a b : Int) (u : Bool) (A : Option Addr) (n c : Nat) (l : List Bnd) (w : World) (hr : RdB w A n c l) (hn : n ≤ maxLen) :
    Calls Try.prog 44 #[.agg #[.int .i64 p, .slice A n c], .int .i64 a, .int .i64 b, .bool u] w (RetL (restsV p l a b u) w) := by
  have hB : Below w.heap.size w (((((w.alloc (.cells #[.int .i64 p, .slice A n c] 24)).alloc (.cells #[.int .i64 a] 3)).alloc (.cells #[.int .i64 b] 3)).alloc (.cells #[.bool u] 4)).alloc (.cells #[.int .i64 a, .int .i64 b] 3)) := (((((Below.refl _ w).alloc (Nat.le_refl _) _).alloc (by simp) _).alloc (by simp; omega) _).alloc (by simp; omega) _).alloc (by simp; omega) _
  have h2 := rdI_two ((((w.alloc (.cells #[.int .i64 p, .slice A n c] 24)).alloc (.cells #[.int .i64 a] 3)).alloc (.cells #[.int .i64 b] 3)).alloc (.cells #[.bool u] 4)) a b
  simp only [World.size_alloc] at h2
  have hc := solvable_any p A _ n c 2 2 l [a, b] _ (hr.below hB) hn h2 (by omega)
  have b1 := (((Blk.new (w.alloc (.cells #[.int .i64 p, .slice A n c] 24)) 3 #[.int .i64 a]).alloc (.cells #[.int .i64 b] 3)).alloc (.cells #[.bool u] 4)).alloc (.cells #[.int .i64 a, .int .i64 b] 3)
  have b2 := ((Blk.new ((w.alloc (.cells #[.int .i64 p, .slice A n c] 24)).alloc (.cells #[.int .i64 a] 3)) 3 #[.int .i64 b]).alloc (.cells #[.bool u] 4)).alloc (.cells #[.int .i64 a, .int .i64 b] 3)
  have b3 := (Blk.new (((w.alloc (.cells #[.int .i64 p, .slice A n c] 24)).alloc (.cells #[.int .i64 a] 3)).alloc (.cells #[.int .i64 b] 3)) 4 #[.bool u]).alloc (.cells #[.int .i64 a, .int .i64 b] 3)
  simp only [World.size_alloc] at b1 b2 b3
  have HC := Lib.hid hc; have HR := Lib.hid hr; have B1 := Lib.hid b1; have B2 := Lib.hid b2; have B3 := Lib.hid b3; clear hc hr h2 b1 b2 b3
  unfold restsV
  by_cases hs : scode p l [a, b] = 0
  · obtain ⟨hk, hpt, -⟩ := scode_ok hs
    obtain ⟨hp1, hp2, hlen, -⟩ := chk_ok hk
    have hokl := okL_of hk
    rw [if_pos hs]
    rw [hs, sysR_yes] at HC
    simp only [List.all_cons, List.all_nil, Bool.and_true, Bool.and_eq_true, isPt, decide_eq_true_eq] at hpt
    obtain ⟨⟨ha0, ha1⟩, hb0, hb1⟩ := hpt
    clear hs hk
    obtain ⟨p, rfl⟩ := Int.eq_ofNat_of_zero_le (show 0 ≤ p by omega)
    obtain ⟨a, rfl⟩ := Int.eq_ofNat_of_zero_le ha0
    obtain ⟨b, rfl⟩ := Int.eq_ofNat_of_zero_le hb0
    simp only [Int.toNat_natCast]
    have hn2 : n ≤ 402 := by have := HR.out.len; omega
    have hf := fun w' hw' => find_any p a b u A n c l (by omega) (by omega) (by omega) hn2 hokl.1 w' (HR.out.below hw')
    obtain ⟨V, hV⟩ : ∃ V, neededV (holdsR p a b u (endW l p a b u).1) l = V := ⟨_, rfl⟩
    rw [hV]
    obtain ⟨v, hv⟩ : ∃ v, (endW l p a b u).1 = v := ⟨_, rfl⟩
    rw [hv] at hV hf
    clear hv
    generalize (endW l p a b u).2 = t at *
    have HV := Lib.hid hV; have HF := Lib.hid hf; have HOK := Lib.hid hokl; clear hV hf hokl
    cases u
    · simp only [Bool.false_eq_true, if_false] at HF
      cases t
      · rw [if_neg (by simp)]
        go_enter Try.func44, Try.ntmps44
        go_wp2_with fail
        refine HC.out.mono ?_
        rintro e w1 ⟨rfl, hb1⟩
        have hB1 := hB.trans (hb1.mono hB.size)
        have hB1a := hB1.alloc hB1.size (.cells #[.int .i64 (p : Int), .slice A n c] 70)
        have K1 := Lib.hid ((B1.out.keep hb1).alloc (.cells #[.int .i64 (p : Int), .slice A n c] 70))
        have K2 := Lib.hid ((B2.out.keep hb1).alloc (.cells #[.int .i64 (p : Int), .slice A n c] 70))
        have K3 := Lib.hid ((B3.out.keep hb1).alloc (.cells #[.int .i64 (p : Int), .slice A n c] 70))
        have KG := Lib.hid (Blk.new w1 70 #[.int .i64 (p : Int), .slice A n c])
        have v3 : (w1.alloc (.cells #[.int .i64 (p : Int), .slice A n c] 70)).cell? ⟨w.heap.size + 1 + 1 + 1, 0, none⟩ = some (.bool false) := K3.out.cell 0
        have g0 : (w1.alloc (.cells #[.int .i64 (p : Int), .slice A n c] 70)).cell? ⟨w1.heap.size, 0, none⟩ = some (.int .i64 (p : Int)) := KG.out.cell 0
        have g1 : (w1.alloc (.cells #[.int .i64 (p : Int), .slice A n c] 70)).cell? ⟨w1.heap.size, 1, none⟩ = some (.slice A n c) := KG.out.cell 1
        go_wp2_with fail
        refine (end_any (p : Int) A n c false _).mono ?_
        rintro e w2 ⟨rfl, hb2⟩
        have hB2 := hB1a.trans (hb2.mono hB1a.size)
        have v1 : w2.cell? ⟨w.heap.size + 1, 0, none⟩ = some (.int .i64 (a : Int)) := (K1.out.keep hb2).cell 0
        have v2 : w2.cell? ⟨w.heap.size + 1 + 1, 0, none⟩ = some (.int .i64 (b : Int)) := (K2.out.keep hb2).cell 0
        go_wp2_with fail
        refine (HF.out _ hB2).mono ?_
        rintro e w3 ⟨rfl, hb3⟩
        have hB3 := hB2.trans (hb3.mono hB2.size)
        
        go_wp2
        go_ret2
        exact ⟨none, 0, 0, rfl, OwnI.nil_ _ _, (hB3.alloc hB3.size _)⟩
      · rw [if_pos rfl]
        go_enter Try.func44, Try.ntmps44
        go_wp2_with fail
        refine HC.out.mono ?_
        rintro e w1 ⟨rfl, hb1⟩
        have hB1 := hB.trans (hb1.mono hB.size)
        have hB1a := hB1.alloc hB1.size (.cells #[.int .i64 (p : Int), .slice A n c] 70)
        have K1 := Lib.hid ((B1.out.keep hb1).alloc (.cells #[.int .i64 (p : Int), .slice A n c] 70))
        have K2 := Lib.hid ((B2.out.keep hb1).alloc (.cells #[.int .i64 (p : Int), .slice A n c] 70))
        have K3 := Lib.hid ((B3.out.keep hb1).alloc (.cells #[.int .i64 (p : Int), .slice A n c] 70))
        have KG := Lib.hid (Blk.new w1 70 #[.int .i64 (p : Int), .slice A n c])
        have v3 : (w1.alloc (.cells #[.int .i64 (p : Int), .slice A n c] 70)).cell? ⟨w.heap.size + 1 + 1 + 1, 0, none⟩ = some (.bool false) := K3.out.cell 0
        have g0 : (w1.alloc (.cells #[.int .i64 (p : Int), .slice A n c] 70)).cell? ⟨w1.heap.size, 0, none⟩ = some (.int .i64 (p : Int)) := KG.out.cell 0
        have g1 : (w1.alloc (.cells #[.int .i64 (p : Int), .slice A n c] 70)).cell? ⟨w1.heap.size, 1, none⟩ = some (.slice A n c) := KG.out.cell 1
        go_wp2_with fail
        refine (end_any (p : Int) A n c false _).mono ?_
        rintro e w2 ⟨rfl, hb2⟩
        have hB2 := hB1a.trans (hb2.mono hB1a.size)
        have v1 : w2.cell? ⟨w.heap.size + 1, 0, none⟩ = some (.int .i64 (a : Int)) := (K1.out.keep hb2).cell 0
        have v2 : w2.cell? ⟨w.heap.size + 1 + 1, 0, none⟩ = some (.int .i64 (b : Int)) := (K2.out.keep hb2).cell 0
        go_wp2_with fail
        refine (HF.out _ hB2).mono ?_
        rintro e w3 ⟨rfl, hb3⟩
        have hB3 := hB2.trans (hb3.mono hB2.size)
        
        have hb23 := (hb2.trans (hb3.mono hb2.size))
        have q1 := ((K1.out.keep hb23)).alloc (.cells #[.int .i64 v] 3)
        have q2 := ((K2.out.keep hb23)).alloc (.cells #[.int .i64 v] 3)
        have q3 := ((K3.out.keep hb23)).alloc (.cells #[.int .i64 v] 3)
        have qg := ((KG.out.keep hb23)).alloc (.cells #[.int .i64 v] 3)
        have qn := Blk.new w3 3 #[.int .i64 v]
        have hB3a := hB3.alloc hB3.size (.cells #[.int .i64 v] 3)
        have y0 : (w3.alloc (.cells #[.int .i64 v] 3)).cell? ⟨w1.heap.size, 0, none⟩ = some (.int .i64 (p : Int)) := qg.cell 0
        have y1 : (w3.alloc (.cells #[.int .i64 v] 3)).cell? ⟨w1.heap.size, 1, none⟩ = some (.slice A n c) := qg.cell 1
        have hnd := callsIn_wide.1 (needed_in_rests (w.heap.size + 3) (w.heap.size + 1) (w.heap.size + 2) w3.heap.size (p : Int) A n c l OkL (holdsR p a b false v) HOK.out okL_drop (fun l' h => ⟨h.2.1, by have := h.2.2; omega⟩) _ (fun l' A' n' c' W h1 h2 hbW => rests1_any (w.heap.size + 3) (w.heap.size + 1) (w.heap.size + 2) w3.heap.size p a b false v A' n' c' l' (by omega) (by omega) (by omega) (by have := h1.2.2; have := h2.len; omega) h1.1 W h2 (q3.keep hbW) (q1.keep hbW) (q2.keep hbW) (qn.keep hbW)) (HR.out.below hB3a))
        rw [HV.out] at hnd
        have HND := Lib.hid hnd
        clear hnd q1 q2 q3 qg qn hb23
        go_wp2_with fail
        refine HND.out.mono ?_
        rintro e w4 ⟨A4, n4, c4, rfl, ho4, hb4⟩
        have HO := Lib.hid ho4; clear ho4
        go_wp2
        go_ret2
        exact ⟨_, _, _, rfl, owns_base HO.out hB3a.size, hB3a.trans (hb4.mono hB3a.size)⟩
    · simp only [if_true] at HF
      cases t
      · rw [if_neg (by simp)]
        go_enter Try.func44, Try.ntmps44
        go_wp2_with fail
        refine HC.out.mono ?_
        rintro e w1 ⟨rfl, hb1⟩
        have hB1 := hB.trans (hb1.mono hB.size)
        have hB1a := hB1.alloc hB1.size (.cells #[.int .i64 (p : Int), .slice A n c] 70)
        have K1 := Lib.hid ((B1.out.keep hb1).alloc (.cells #[.int .i64 (p : Int), .slice A n c] 70))
        have K2 := Lib.hid ((B2.out.keep hb1).alloc (.cells #[.int .i64 (p : Int), .slice A n c] 70))
        have K3 := Lib.hid ((B3.out.keep hb1).alloc (.cells #[.int .i64 (p : Int), .slice A n c] 70))
        have KG := Lib.hid (Blk.new w1 70 #[.int .i64 (p : Int), .slice A n c])
        have v3 : (w1.alloc (.cells #[.int .i64 (p : Int), .slice A n c] 70)).cell? ⟨w.heap.size + 1 + 1 + 1, 0, none⟩ = some (.bool true) := K3.out.cell 0
        have g0 : (w1.alloc (.cells #[.int .i64 (p : Int), .slice A n c] 70)).cell? ⟨w1.heap.size, 0, none⟩ = some (.int .i64 (p : Int)) := KG.out.cell 0
        have g1 : (w1.alloc (.cells #[.int .i64 (p : Int), .slice A n c] 70)).cell? ⟨w1.heap.size, 1, none⟩ = some (.slice A n c) := KG.out.cell 1
        go_wp2_with fail
        refine (end_any (p : Int) A n c true _).mono ?_
        rintro e w2 ⟨rfl, hb2⟩
        have hB2 := hB1a.trans (hb2.mono hB1a.size)
        have v1 : w2.cell? ⟨w.heap.size + 1, 0, none⟩ = some (.int .i64 (a : Int)) := (K1.out.keep hb2).cell 0
        have v2 : w2.cell? ⟨w.heap.size + 1 + 1, 0, none⟩ = some (.int .i64 (b : Int)) := (K2.out.keep hb2).cell 0
        go_wp2_with fail
        refine (HF.out _ hB2).mono ?_
        rintro e w3 ⟨rfl, hb3⟩
        have hB3 := hB2.trans (hb3.mono hB2.size)
        
        go_wp2
        go_ret2
        exact ⟨none, 0, 0, rfl, OwnI.nil_ _ _, (hB3.alloc hB3.size _)⟩
      · rw [if_pos rfl]
        go_enter Try.func44, Try.ntmps44
        go_wp2_with fail
        refine HC.out.mono ?_
        rintro e w1 ⟨rfl, hb1⟩
        have hB1 := hB.trans (hb1.mono hB.size)
        have hB1a := hB1.alloc hB1.size (.cells #[.int .i64 (p : Int), .slice A n c] 70)
        have K1 := Lib.hid ((B1.out.keep hb1).alloc (.cells #[.int .i64 (p : Int), .slice A n c] 70))
        have K2 := Lib.hid ((B2.out.keep hb1).alloc (.cells #[.int .i64 (p : Int), .slice A n c] 70))
        have K3 := Lib.hid ((B3.out.keep hb1).alloc (.cells #[.int .i64 (p : Int), .slice A n c] 70))
        have KG := Lib.hid (Blk.new w1 70 #[.int .i64 (p : Int), .slice A n c])
        have v3 : (w1.alloc (.cells #[.int .i64 (p : Int), .slice A n c] 70)).cell? ⟨w.heap.size + 1 + 1 + 1, 0, none⟩ = some (.bool true) := K3.out.cell 0
        have g0 : (w1.alloc (.cells #[.int .i64 (p : Int), .slice A n c] 70)).cell? ⟨w1.heap.size, 0, none⟩ = some (.int .i64 (p : Int)) := KG.out.cell 0
        have g1 : (w1.alloc (.cells #[.int .i64 (p : Int), .slice A n c] 70)).cell? ⟨w1.heap.size, 1, none⟩ = some (.slice A n c) := KG.out.cell 1
        go_wp2_with fail
        refine (end_any (p : Int) A n c true _).mono ?_
        rintro e w2 ⟨rfl, hb2⟩
        have hB2 := hB1a.trans (hb2.mono hB1a.size)
        have v1 : w2.cell? ⟨w.heap.size + 1, 0, none⟩ = some (.int .i64 (a : Int)) := (K1.out.keep hb2).cell 0
        have v2 : w2.cell? ⟨w.heap.size + 1 + 1, 0, none⟩ = some (.int .i64 (b : Int)) := (K2.out.keep hb2).cell 0
        go_wp2_with fail
        refine (HF.out _ hB2).mono ?_
        rintro e w3 ⟨rfl, hb3⟩
        have hB3 := hB2.trans (hb3.mono hB2.size)
        
        have hb23 := (hb2.trans (hb3.mono hb2.size))
        have q1 := ((K1.out.keep hb23)).alloc (.cells #[.int .i64 v] 3)
        have q2 := ((K2.out.keep hb23)).alloc (.cells #[.int .i64 v] 3)
        have q3 := ((K3.out.keep hb23)).alloc (.cells #[.int .i64 v] 3)
        have qg := ((KG.out.keep hb23)).alloc (.cells #[.int .i64 v] 3)
        have qn := Blk.new w3 3 #[.int .i64 v]
        have hB3a := hB3.alloc hB3.size (.cells #[.int .i64 v] 3)
        have y0 : (w3.alloc (.cells #[.int .i64 v] 3)).cell? ⟨w1.heap.size, 0, none⟩ = some (.int .i64 (p : Int)) := qg.cell 0
        have y1 : (w3.alloc (.cells #[.int .i64 v] 3)).cell? ⟨w1.heap.size, 1, none⟩ = some (.slice A n c) := qg.cell 1
        have hnd := callsIn_wide.1 (needed_in_rests (w.heap.size + 3) (w.heap.size + 1) (w.heap.size + 2) w3.heap.size (p : Int) A n c l OkL (holdsR p a b true v) HOK.out okL_drop (fun l' h => ⟨h.2.1, by have := h.2.2; omega⟩) _ (fun l' A' n' c' W h1 h2 hbW => rests1_any (w.heap.size + 3) (w.heap.size + 1) (w.heap.size + 2) w3.heap.size p a b true v A' n' c' l' (by omega) (by omega) (by omega) (by have := h1.2.2; have := h2.len; omega) h1.1 W h2 (q3.keep hbW) (q1.keep hbW) (q2.keep hbW) (qn.keep hbW)) (HR.out.below hB3a))
        rw [HV.out] at hnd
        have HND := Lib.hid hnd
        clear hnd q1 q2 q3 qg qn hb23
        go_wp2_with fail
        refine HND.out.mono ?_
        rintro e w4 ⟨A4, n4, c4, rfl, ho4, hb4⟩
        have HO := Lib.hid ho4; clear ho4
        go_wp2
        go_ret2
        exact ⟨_, _, _, rfl, owns_base HO.out hB3a.size, hB3a.trans (hb4.mono hB3a.size)⟩
  · rw [if_neg hs]
    generalize scode p l [a, b] = q at *
    rw [sysR_no hs] at HC
    have hne : (q != 0) = true := by simpa using hs
    clear hs
    go_enter Try.func44, Try.ntmps44
    go_wp2_with fail
    refine HC.out.mono ?_
    rintro e w1 ⟨rfl, hb1⟩
    have hB1 := hB.trans (hb1.mono hB.size)
    go_wp2
    go_ret2
    exact ⟨none, 0, 0, rfl, OwnI.nil_ _ _, (by have hsz_ := Below.size hB1; repeat' (first | with_reducible exact hB1 | with_reducible exact Below.refl _ _ | with_reducible refine Below.alloc ?_ ?_ _ | with_reducible refine Below.setCell ?_ ?_ _ | with_reducible refine Below.drew ?_ | with_reducible refine below_setRow ?_ ?_ _ | omega | (simp; done) | (simp; omega)))⟩
end Go.Proofs.Ythlnialipjihdaa
