/- The reference's all and only: the Ids of a system, and the bounds of some. -/
import Derived.Test.YthlnialipjihdaaRLess
import Derived.Test.YthlnialipjihdaaNeedM
import Derived.Test.YthlnialipjihdaaApp2
import Derived.Test.YthlnialipjihdaaRWalk
import Derived.Test.YthlnialipjihdaaRTied
set_option linter.unusedSimpArgs false
set_option linter.unusedVariables false
namespace Go.Proofs.Ythlnialipjihdaa
open Go.RowKit

theorem allL_take {l : List Bnd} {q : Nat} {x : Bnd} (h : l[q]? = some x) : allL (l.take (q + 1)) = if 0 < x.b then insU x.b (allL (l.take q)) else allL (l.take q) := by
  unfold allL
  rw [List.take_add_one, h, List.foldl_append]
  rfl
theorem insU_length (v : Int) : ∀ L : List Int, (insU v L).length ≤ L.length + 1 ∧ 1 ≤ (insU v L).length
  | [] => by simp [insU]
  | y :: r => by
    have := insU_length v r
    unfold insU
    split
    · simp
    · split
      · simp
      · simp only [List.length_cons]; omega
theorem allL_length (l : List Bnd) : (allL l).length ≤ l.length := by
  unfold allL
  have : ∀ (l : List Bnd) (acc : List Int), (l.foldl (fun acc x => if 0 < x.b then insU x.b acc else acc) acc).length ≤ acc.length + l.length := by
    intro l
    induction l with
    | nil => intro acc; simp
    | cons x l ih =>
      intro acc
      rw [List.foldl_cons]
      refine Nat.le_trans (ih _) ?_
      split
      · have := (insU_length x.b acc).1; simp only [List.length_cons]; omega
      · simp only [List.length_cons]; omega
  simpa using this l []
theorem onlyL_take {l : List Bnd} {S : List Int} {q : Nat} {x : Bnd} (h : l[q]? = some x) : onlyL (l.take (q + 1)) S = if (S.contains x.b || decide (x.b = 0)) = true then onlyL (l.take q) S ++ [x] else onlyL (l.take q) S := by
  unfold onlyL
  rw [List.take_add_one, h, List.filter_append]
  cases hx : (S.contains x.b || decide (x.b = 0)) with
  | true => rw [if_pos rfl]; simp only [Option.toList_some, List.filter, hx]
  | false => rw [if_neg (by simp)]; simp only [Option.toList_some, List.filter, hx, List.append_nil]

set_option maxRecDepth 100000 in
set_option maxHeartbeats 4000000 in
theorem all_any (p : Int) (A : Option Addr) (n c : Nat) (l : List Bnd) (w : World) (hr : RdB w A n c l) (hn : n ≤ 400) :
    Calls Try.prog 90 #[.agg #[.int .i64 p, .slice A n c]] w fun e w' => ∃ B m d, e = .returned (.slice B m d) ∧ OwnI w' w.heap.size B m d (allL l) ∧ Below w.heap.size w w' := by
  have hln := hr.len
  have HR := Lib.hid hr; clear hr
  go_enter Try.func90, Try.ntmps90
  go_wp2
  go_loopw [4, 3] (fun i v wr => ∃ (q : Nat) (A' : Option Addr) (n' c' : Nat), q ≤ n ∧ i = .int .i64 q ∧ v = .slice A' n' c' ∧ OwnI wr (w.heap.size + 1) A' n' c' (allL (l.take q)) ∧ (n' = 0 → A' = none) ∧ Blk wr w.heap.size 24 #[.int .i64 p, .slice A n c] ∧ Below w.heap.size w wr) (fun i _ _ => n - (intOf i).toNat)
  case atStart => exact ⟨0, none, 0, 0, Nat.zero_le _, rfl, rfl, World.ownsRow_nil _ _ _ _, fun _ => rfl, Blk.new w 24 #[.int .i64 p, .slice A n c], (Below.refl _ w).alloc (Nat.le_refl _) _⟩
  case round =>
    obtain ⟨q, A', n', c', hq, rfl, rfl, how, hna, hbs, hbe⟩ := hrel
    have HOW := Lib.hid how; have HNA := Lib.hid hna; have HBS := Lib.hid hbs; have HBE := Lib.hid hbe; clear how hna hbs hbe
    have hn' : n' = (allL (l.take q)).length := (OwnI.rd HOW.out).1.len.symm
    have hle := allL_length (l.take q)
    rw [List.length_take] at hle
    have y0 : wr.cell? ⟨w.heap.size, 1, none⟩ = some (.slice A n c) := Blk.cell HBS.out 1
    have hlt0 := HBS.out.lt
    by_cases hqn : q < n
    · have hqn' : (q : Int) < n := by omega
      obtain ⟨⟨f, t, mm, i⟩, hx⟩ : ∃ b, l[q]? = some b := ⟨l[q]'(by omega), List.getElem?_eq_getElem _⟩
      obtain ⟨ba, oa, hA⟩ := rdB_some HR.out hx
      subst hA
      obtain ⟨e0, e1, e2, e3, el⟩ := rdB_at (RdB.below HR.out HBE.out) hx
      have hstep := allL_take hx
      have HSTEP := Lib.hid hstep; clear hstep hx e0 e1 e2
      by_cases hi : 0 < i
      · have d1 : decide (0 < i) = true := decide_eq_true hi
        have hc := with_any (w.heap.size + 1) A' n' c' (allL (l.take q)) i wr (by omega) HOW.out HNA.out (by omega)
        have HC := Lib.hid hc; clear hc
        have HN' := Lib.hid hn'; clear hn' hle
        go_wp2_with fail
        refine HC.out.mono ?_
        rintro e w5 ⟨B5, m5, d5, rfl, ho5, hb5⟩
        have h1 := (insU_length i (allL (l.take q))).2
        have h2 := (OwnI.rd ho5).1.len
        have HO5 := Lib.hid ho5; clear ho5
        clear y0 e3 d1
        go_wp2
        go_roundw
        case rel => exact ⟨q + 1, B5, m5, d5, by omega, by go_num, rfl, by rw [HSTEP.out, if_pos hi]; exact HO5.out, fun h => by omega, Blk.keep HBS.out hb5, HBE.out.trans (hb5.mono HBE.out.size)⟩
        case measure => simp [intOf]; omega
      · have d1 : decide (0 < i) = false := decide_eq_false hi
        go_wp2
        go_roundw
        case rel => exact ⟨q + 1, A', n', c', by omega, by go_num, rfl, by rw [HSTEP.out, if_neg hi]; exact HOW.out, HNA.out, HBS.out, HBE.out⟩
        case measure => simp [intOf]; omega
    · obtain rfl : q = n := by omega
      have ho := HOW.out
      rw [List.take_of_length_le (by omega)] at ho
      have HO := Lib.hid (owns_base ho (Nat.le_succ _)); clear ho HOW
      go_wp2
      go_ret
      exact ⟨A', n', c', rfl, HO.out, HBE.out⟩

set_option maxRecDepth 100000 in
set_option maxHeartbeats 8000000 in
theorem only_any (p : Int) (A B : Option Addr) (n c m d : Nat) (l : List Bnd) (S : List Int) (w : World) (hr : RdB w A n c l) (hn : n ≤ 400) (hs : RdI w B m d S) (hm : m ≤ maxLen) :
    Calls Try.prog 91 #[.agg #[.int .i64 p, .slice A n c], .slice B m d] w fun e w' => ∃ A' n' c', e = .returned (.agg #[.int .i64 p, .slice A' n' c']) ∧ OwnB w' w.heap.size A' n' c' (onlyL l S) ∧ Below w.heap.size w w' := by
  have hln := hr.len
  have HR := Lib.hid hr; have HS := Lib.hid hs; clear hr hs
  obtain ⟨i0, hi0, hz0, hz1, hz2⟩ := info_parts infoB
  have HI := Lib.hid hi0; have HZ0 := Lib.hid hz0; have HZ1 := Lib.hid hz1; have HZ2 := Lib.hid hz2; clear hi0 hz0 hz1 hz2
  go_enter Try.func91, Try.ntmps91
  go_wp2
  go_loopw [6] (fun i wr => ∃ (q : Nat) (A' : Option Addr) (n' c' : Nat), q ≤ n ∧ i = .int .i64 q ∧ Blk wr (w.heap.size + 1 + 1) 24 #[.int .i64 p, .slice A' n' c'] ∧ wr.ownsRow (w.heap.size + 1 + 1 + 1) 54 4 (.slice A' n' c') n' (bcells (onlyL (l.take q) S)) ∧ Blk wr w.heap.size 24 #[.int .i64 p, .slice A n c] ∧ Blk wr (w.heap.size + 1) 24 #[.int .i64 0, .slice none 0 0] ∧ Below w.heap.size w wr) (fun i _ => n - (intOf i).toNat)
  case atStart =>
    have b0 := ((Blk.new w 24 #[.int .i64 p, .slice A n c]).alloc (.cells #[.int .i64 0, .slice none 0 0] 24)).alloc (.cells #[.int .i64 p, .slice none 0 0] 24)
    have b1 := (Blk.new (w.alloc (.cells #[.int .i64 p, .slice A n c] 24)) 24 #[.int .i64 0, .slice none 0 0]).alloc (.cells #[.int .i64 p, .slice none 0 0] 24)
    have b2 := Blk.new ((w.alloc (.cells #[.int .i64 p, .slice A n c] 24)).alloc (.cells #[.int .i64 0, .slice none 0 0] 24)) 24 #[.int .i64 p, .slice none 0 0]
    simp only [World.size_alloc] at b1 b2
    exact ⟨0, none, 0, 0, Nat.zero_le _, rfl, b2, World.ownsRow_nil _ _ _ _, b0, b1, (((Below.refl _ w).alloc (Nat.le_refl _) _).alloc (by simp) _).alloc (by simp; omega) _⟩
  case round =>
    obtain ⟨q, A', n', c', hq, rfl, hbt, how, hb0, hbr, hbe⟩ := hrel
    have HBT := Lib.hid hbt; have HOW := Lib.hid how; have HB0 := Lib.hid hb0; have HBR := Lib.hid hbr; have HBE := Lib.hid hbe; clear hbt how hb0 hbr hbe
    have hn' : n' = (onlyL (l.take q) S).length := (OwnB.rd (show OwnB wr (w.heap.size + 1 + 1 + 1) A' n' c' _ from HOW.out)).1.len.symm
    have hle : (onlyL (l.take q) S).length ≤ q := by have := List.length_filter_le (fun x : Bnd => S.contains x.b || decide (x.b = 0)) (l.take q); rw [List.length_take] at this; unfold onlyL; omega
    have hnq : n' ≤ q := by omega
    clear hn' hle
    have y0 : wr.cell? ⟨w.heap.size, 1, none⟩ = some (.slice A n c) := Blk.cell HB0.out 1
    have y1 : wr.cell? ⟨w.heap.size + 1 + 1, 0, none⟩ = some (.int .i64 p) := Blk.cell HBT.out 0
    have y2 : wr.cell? ⟨w.heap.size + 1 + 1, 1, none⟩ = some (.slice A' n' c') := Blk.cell HBT.out 1
    have hlt0 := HB0.out.lt; have hlt2 := HBT.out.lt
    by_cases hqn : q < n
    · have hqn' : (q : Int) < n := by omega
      obtain ⟨⟨f, t, mm, i⟩, hx⟩ : ∃ b, l[q]? = some b := ⟨l[q]'(by omega), List.getElem?_eq_getElem _⟩
      obtain ⟨ba, oa, hA⟩ := rdB_some HR.out hx
      subst hA
      obtain ⟨e0, e1, e2, e3, el⟩ := rdB_at (RdB.below HR.out HBE.out) hx
      have hstep := onlyL_take (S := S) hx
      have HX := Lib.hid hx; clear hx
      have hc := has_any B m d S i wr (HS.out.below HBE.out) hm
      by_cases hin : S.contains i = true
      · rw [hin] at hc
        have HC := Lib.hid hc; clear hc
        rw [if_pos (by simp only [hin, Bool.true_or])] at hstep
        have HYES := Lib.hid hstep; clear hstep hin
        go_wp2_with fail
        refine HC.out.mono ?_
        rintro e w5 ⟨rfl, rfl⟩
        clear HC
        go_wp2_with fail
        clear y0 y1 y2 e0 e1 e2 e3
        have K0 := Lib.hid (Blk.drew HB0.out); have KR := Lib.hid (Blk.drew HBR.out); have KT := Lib.hid (Blk.drew HBT.out); have KE := Lib.hid (Below.drew HBE.out); have KO := Lib.hid (World.ownsRow.drew HOW.out)
        clear HB0 HBR HBT HBE HOW
        refine wp_region_held_drew (S := (fun W' => Blk W' w.heap.size 24 #[.int .i64 p, .slice (some ⟨ba, oa, none⟩) n c])) (by kernel_rfl) K0.out (fun _ => ?_)
        obtain ⟨w1, hw2⟩ : ∃ w', w' = wr.drew := ⟨_, rfl⟩
        rw [← hw2] at K0 KR KT KE KO
        rw [← hw2]
        clear hw2
        refine' wpAnyH_take (i := 0) (oi := { dst := some 36, op := Go.Op.fieldAddr 24 (Go.Operand.tmp 5) 1, type := 0, pos := "ref.go:116", after := #[], guard := none }) (v := _) rfl (by kernel_rfl) (by kernel_rfl) (by kernel_rfl) (fun _ _ _ h => h) (Or.inl ⟨by rfl, ?hyR3⟩) K0.out ?reR3
        case hyR3 => (rintro W' hS0; clear hS0; go_simp; try with_reducible rfl)
        try simp only [Act.put, List.setIfInBounds_toArray, List.set_cons_zero, List.set_cons_succ]
        refine' wpAnyH_take (i := 2) (oi := { dst := some 38, op := Go.Op.fieldAddr 24 (Go.Operand.tmp 2) 1, type := 0, pos := "ref.go:116", after := #[], guard := none }) (v := _) rfl (by kernel_rfl) (by kernel_rfl) (by kernel_rfl) (fun _ _ _ h => h) (Or.inl ⟨by rfl, ?hyR4⟩) K0.out ?reR4
        case hyR4 => (rintro W' hS0; clear hS0; go_simp; try with_reducible rfl)
        try simp only [Act.put, List.setIfInBounds_toArray, List.set_cons_zero, List.set_cons_succ]
        refine' wpAnyH_take (i := 3) (oi := { dst := some 39, op := Go.Op.load 22 (Go.Operand.tmp 38), type := 22, pos := "ref.go:116", after := #[{ on := 2, ground := Go.Ground.data }], guard := none }) (v := _) rfl (by kernel_rfl) (by kernel_rfl) (by kernel_rfl) (fun _ _ _ h => h) (Or.inl ⟨by rfl, ?hyR5⟩) K0.out ?reR5
        case hyR5 => (rintro W' hS0; have hc0 : W'.cell? ⟨w.heap.size, 1, none⟩ = some (.slice (some ⟨ba, oa, none⟩) n c) := Blk.cell hS0 1; clear hS0; go_simp; try with_reducible rfl)
        try simp only [Act.put, List.setIfInBounds_toArray, List.set_cons_zero, List.set_cons_succ]
        refine' wpAnyH_take (i := 4) (oi := { dst := some 40, op := Go.Op.move (Go.Operand.tmp 6), type := 3, pos := "ref.go:116", after := #[], guard := none }) (v := _) rfl (by kernel_rfl) (by kernel_rfl) (by kernel_rfl) (fun _ _ _ h => h) (Or.inl ⟨by rfl, ?hyR6⟩) K0.out ?reR6
        case hyR6 => (rintro W' hS0; clear hS0; go_simp; try with_reducible rfl)
        try simp only [Act.put, List.setIfInBounds_toArray, List.set_cons_zero, List.set_cons_succ]
        refine' wpAnyH_take (i := 5) (oi := { dst := some 41, op := Go.Op.indexAddr 22 (Go.Operand.tmp 39) (Go.Operand.tmp 40), type := 0, pos := "ref.go:116", after := #[{ on := 3, ground := Go.Ground.data }, { on := 4, ground := Go.Ground.data }], guard := none }) (v := _) rfl (by kernel_rfl) (by kernel_rfl) (by kernel_rfl) (fun _ _ _ h => h) (Or.inl ⟨by rfl, ?hyR7⟩) K0.out ?reR7
        case hyR7 => (rintro W' hS0; clear hS0; go_simp; try with_reducible rfl)
        try simp only [Act.put, List.setIfInBounds_toArray, List.set_cons_zero, List.set_cons_succ]
        refine wpAnyH_ready (rs := [1, 6]) (by kernel_rfl) (by simp) ?_
        refine AllReadyH.cons (o := { dst := some 37, op := Go.Op.load 22 (Go.Operand.tmp 36), type := 22, pos := "ref.go:116", after := #[{ on := 0, ground := Go.Ground.data }], guard := none }) rfl (fun K hK => ?_) ?_
        · -- 1: load
          have v1 : w1.cell? ⟨w.heap.size + 1 + 1, 1, none⟩ = some (.slice A' n' c') := Blk.cell KT.out 1
          go_simp
          clear v1
          refine hK.out _ _ K0.out (fun _ => ?_); clear hK K
          try simp only [Act.put, List.setIfInBounds_toArray, List.set_cons_zero, List.set_cons_succ]
          refine wpAnyH_ready (rs := [6]) (by kernel_rfl) (by simp) ?_
          refine AllReadyH.cons (o := { dst := some 42, op := Go.Op.load 54 (Go.Operand.tmp 41), type := 54, pos := "ref.go:116", after := #[{ on := 5, ground := Go.Ground.data }], guard := none }) rfl (fun K hK => ?_) ?_
          · -- 6: load
            obtain ⟨q0, q1, q2, q3, q4⟩ := rdB_at (RdB.below HR.out KE.out) HX.out
            go_simp
            clear q0 q1 q2 q3 q4
            refine hK.out _ _ K0.out (fun _ => ?_); clear hK K
            try simp only [Act.put, List.setIfInBounds_toArray, List.set_cons_zero, List.set_cons_succ]
            refine wpAnyH_ready (rs := [7]) (by kernel_rfl) (by simp) ?_
            refine AllReadyH.cons (o := { dst := some 43, op := Go.Op.buildSlice 22 1 #[(0, Go.Operand.tmp 42)], type := 22, pos := "ref.go:116", after := #[{ on := 6, ground := Go.Ground.data }], guard := none }) rfl (fun K hK => ?_) ?_
            · -- 7: buildSlice
              go_simp
              have b0_12 := Lib.hid (Blk.alloc (K0.out) (.cells #[.int .i64 f, .int .i64 t, .int .i64 mm, .int .i64 i] 54))
              have br_13 := Lib.hid (Blk.alloc (KR.out) (.cells #[.int .i64 f, .int .i64 t, .int .i64 mm, .int .i64 i] 54))
              have bt_14 := Lib.hid (Blk.alloc (KT.out) (.cells #[.int .i64 f, .int .i64 t, .int .i64 mm, .int .i64 i] 54))
              have bel_15 := Lib.hid (Below.alloc (KE.out) ((KE.out).size) (.cells #[.int .i64 f, .int .i64 t, .int .i64 mm, .int .i64 i] 54))
              have cp_16 := Lib.hid (World.ownsRow.alloc (KO.out) (.cells #[.int .i64 f, .int .i64 t, .int .i64 mm, .int .i64 i] 54))
              have ne17 := Lib.hid (Nat.ne_of_lt (Blk.lt K0.out))
              have ne18 := Lib.hid (Nat.ne_of_lt (Blk.lt KR.out))
              have ne19 := Lib.hid (Nat.ne_of_lt (Blk.lt KT.out))
              have lb20 := Lib.hid (KE.out.size)
              have nb_21 := Lib.hid (Blk.new (w1) 54 #[.int .i64 f, .int .i64 t, .int .i64 mm, .int .i64 i])
              obtain ⟨g8, hg9⟩ : ∃ g, g = (w1).heap.size := ⟨_, rfl⟩
              obtain ⟨w10, hw11⟩ : ∃ w', w' = (w1).alloc (.cells #[.int .i64 f, .int .i64 t, .int .i64 mm, .int .i64 i] 54) := ⟨_, rfl⟩
              rw [← hw11] at b0_12 br_13 bt_14 bel_15 cp_16 nb_21
              rw [← hg9] at ne17 ne18 ne19 lb20 nb_21
              rw [← hg9, ← hw11]
              clear hg9 hw11
              refine hK.out _ _ b0_12.out (fun _ => ?_); clear hK K
              try simp only [Act.put, List.setIfInBounds_toArray, List.set_cons_zero, List.set_cons_succ]
              refine wpAnyH_ready (rs := [8]) (by kernel_rfl) (by simp) ?_
              refine AllReadyH.cons (o := { dst := some 44, op := Go.Op.call { callee := Go.Callee.builtin Go.Builtin.append, args := #[Go.Operand.tmp 37, Go.Operand.tmp 43], argTypes := #[22, 22] }, type := 22, pos := "ref.go:116", after := #[{ on := 1, ground := Go.Ground.data }, { on := 7, ground := Go.Ground.data }], guard := none }) rfl (fun K hK => ?_) ?_
              · -- 8: call
                have hcell := cells_add (cs := bcells [⟨f, t, mm, i⟩]) (show Blk _ _ _ (bcells [⟨f, t, mm, i⟩]).toArray from nb_21.out)
                have hlr := World.ownsRow.lt cp_16.out
                have hsz := Blk.lt bt_14.out
                refine wp_append_own _ (.tmp 37) (.tmp 43) 22 rfl (w.heap.size + 1 + 1 + 1) 54 i0 _ 4 32 Try.underlying22 HI.out HZ0.out HZ1.out HZ2.out rfl (by omega) (.slice A' n' c') n' (bcells (onlyL (l.take q) S)) rfl cp_16.out ⟨g8, 0, none⟩ 1 1 (bcells [⟨f, t, mm, i⟩]) rfl rfl hcell (bcells_one _) (by unfold maxLen; omega) (by omega) (by omega) ?_
                intro v5 w5 hown5 hg5 _
                obtain ⟨B5, c5, rfl, -⟩ := own_form hown5
                have k22 := Lib.hid (blk_grown b0_12.out hg5 (fun e => by have := (hlr _ e).1; omega))
                have k23 := Lib.hid (blk_grown br_13.out hg5 (fun e => by have := (hlr _ e).1; omega))
                have k24 := Lib.hid (blk_grown bt_14.out hg5 (fun e => by have := (hlr _ e).1; omega))
                have k25 := Lib.hid (Below.grown bel_15.out hg5 (Below.size bel_15.out) (fun q e => by have := (hlr q e).1; omega))
                have HO5 := Lib.hid (show World.ownsRow w5 (w.heap.size + 1 + 1 + 1) 54 4 (.slice B5 (n' + 1) c5) (n' + 1) (bcells (onlyL (l.take q) S ++ [⟨f, t, mm, i⟩])) from by rw [bcells_append]; exact hown5)
                clear hown5 hg5 hcell hsz hlr
                refine hK.out _ _ k22.out (fun _ => ?_); clear hK K
                try simp only [Act.put, List.setIfInBounds_toArray, List.set_cons_zero, List.set_cons_succ]
                refine' wpAnyH_take (i := 9) (oi := { dst := some 45, op := Go.Op.fieldAddr 24 (Go.Operand.tmp 5) 1, type := 0, pos := "ref.go:116", after := #[{ on := 0, ground := Go.Ground.phase }, { on := 1, ground := Go.Ground.phase }, { on := 2, ground := Go.Ground.phase }, { on := 3, ground := Go.Ground.phase }, { on := 4, ground := Go.Ground.phase }, { on := 5, ground := Go.Ground.phase }, { on := 6, ground := Go.Ground.phase }, { on := 7, ground := Go.Ground.phase }, { on := 8, ground := Go.Ground.phase }], guard := none }) (v := _) rfl (by kernel_rfl) (by kernel_rfl) (by kernel_rfl) (fun _ _ _ h => h) (Or.inl ⟨by rfl, ?hyR26⟩) k22.out ?reR26
                case hyR26 => (rintro W' hS0; clear hS0; go_simp; try with_reducible rfl)
                try simp only [Act.put, List.setIfInBounds_toArray, List.set_cons_zero, List.set_cons_succ]
                refine wpAnyH_ready (rs := [10]) (by kernel_rfl) (by simp) ?_
                refine AllReadyH.cons (o := { dst := none, op := Go.Op.store 22 (Go.Operand.tmp 45) (Go.Operand.tmp 44), type := 0, pos := "ref.go:116", after := #[{ on := 9, ground := Go.Ground.data }, { on := 8, ground := Go.Ground.data }, { on := 8, ground := Go.Ground.chain }, { on := 0, ground := Go.Ground.phase }, { on := 1, ground := Go.Ground.phase }, { on := 2, ground := Go.Ground.phase }, { on := 3, ground := Go.Ground.phase }, { on := 4, ground := Go.Ground.phase }, { on := 5, ground := Go.Ground.phase }, { on := 6, ground := Go.Ground.phase }, { on := 7, ground := Go.Ground.phase }, { on := 8, ground := Go.Ground.phase }], guard := none }) rfl (fun K hK => ?_) ?_
                · -- 10: store
                  have v1 : w5.cell? ⟨w.heap.size + 1 + 1, 1, none⟩ = some (.slice A' n' c') := Blk.cell k24.out 1
                  have f1 : w5.frozen? ⟨w.heap.size + 1 + 1, 1, none⟩ = false := Blk.frozen k24.out 1
                  go_simp
                  have k27 := Lib.hid (Blk.far (k22.out) (p := ⟨w.heap.size + 1 + 1, 1, none⟩) (by simp; try omega) (.slice B5 (n' + 1) c5))
                  have k28 := Lib.hid (Blk.far (k23.out) (p := ⟨w.heap.size + 1 + 1, 1, none⟩) (by simp; try omega) (.slice B5 (n' + 1) c5))
                  have k29 := Lib.hid (Blk.set_ (k24.out) 1 (.slice B5 (n' + 1) c5))
                  have k30 := Lib.hid (Below.setCell (k25.out) (p := ⟨w.heap.size + 1 + 1, 1, none⟩) (by simp; omega) (.slice B5 (n' + 1) c5))
                  have k31 := Lib.hid (ownsRow_setCell_below (HO5.out) (a := ⟨w.heap.size + 1 + 1, 1, none⟩) (by simp) (.slice B5 (n' + 1) c5))
                  obtain ⟨w32, hw33⟩ : ∃ w', w' = w5.setCell ⟨w.heap.size + 1 + 1, 1, none⟩ (.slice B5 (n' + 1) c5) := ⟨_, rfl⟩
                  rw [← hw33] at k27 k28 k29 k30 k31
                  rw [← hw33]
                  clear hw33 v1 f1
                  refine hK.out _ _ k27.out (fun _ => ?_); clear hK K
                  try simp only [Act.put, List.setIfInBounds_toArray, List.set_cons_zero, List.set_cons_succ]
                  refine wpAnyH_done (by kernel_rfl) ?_ _
                  go_wp2
                  go_roundw
                  case rel => exact ⟨q + 1, B5, n' + 1, c5, by omega, by go_num, k29.out, by rw [HYES.out]; exact k31.out, k27.out, k28.out, k30.out⟩
                  case measure => (simp [intOf]; omega)
                exact AllReadyH.nil
              exact AllReadyH.nil
            exact AllReadyH.nil
          exact AllReadyH.nil
        refine AllReadyH.cons (o := { dst := some 42, op := Go.Op.load 54 (Go.Operand.tmp 41), type := 54, pos := "ref.go:116", after := #[{ on := 5, ground := Go.Ground.data }], guard := none }) rfl (fun K hK => ?_) ?_
        · -- 6: load
          obtain ⟨q0, q1, q2, q3, q4⟩ := rdB_at (RdB.below HR.out KE.out) HX.out
          go_simp
          clear q0 q1 q2 q3 q4
          refine hK.out _ _ K0.out (fun _ => ?_); clear hK K
          try simp only [Act.put, List.setIfInBounds_toArray, List.set_cons_zero, List.set_cons_succ]
          refine wpAnyH_ready (rs := [1, 7]) (by kernel_rfl) (by simp) ?_
          refine AllReadyH.cons (o := { dst := some 37, op := Go.Op.load 22 (Go.Operand.tmp 36), type := 22, pos := "ref.go:116", after := #[{ on := 0, ground := Go.Ground.data }], guard := none }) rfl (fun K hK => ?_) ?_
          · -- 1: load
            have v1 : w1.cell? ⟨w.heap.size + 1 + 1, 1, none⟩ = some (.slice A' n' c') := Blk.cell KT.out 1
            go_simp
            clear v1
            refine hK.out _ _ K0.out (fun _ => ?_); clear hK K
            try simp only [Act.put, List.setIfInBounds_toArray, List.set_cons_zero, List.set_cons_succ]
            refine wpAnyH_ready (rs := [7]) (by kernel_rfl) (by simp) ?_
            refine AllReadyH.cons (o := { dst := some 43, op := Go.Op.buildSlice 22 1 #[(0, Go.Operand.tmp 42)], type := 22, pos := "ref.go:116", after := #[{ on := 6, ground := Go.Ground.data }], guard := none }) rfl (fun K hK => ?_) ?_
            · -- 7: buildSlice
              go_simp
              have b0_38 := Lib.hid (Blk.alloc (K0.out) (.cells #[.int .i64 f, .int .i64 t, .int .i64 mm, .int .i64 i] 54))
              have br_39 := Lib.hid (Blk.alloc (KR.out) (.cells #[.int .i64 f, .int .i64 t, .int .i64 mm, .int .i64 i] 54))
              have bt_40 := Lib.hid (Blk.alloc (KT.out) (.cells #[.int .i64 f, .int .i64 t, .int .i64 mm, .int .i64 i] 54))
              have bel_41 := Lib.hid (Below.alloc (KE.out) ((KE.out).size) (.cells #[.int .i64 f, .int .i64 t, .int .i64 mm, .int .i64 i] 54))
              have cp_42 := Lib.hid (World.ownsRow.alloc (KO.out) (.cells #[.int .i64 f, .int .i64 t, .int .i64 mm, .int .i64 i] 54))
              have ne43 := Lib.hid (Nat.ne_of_lt (Blk.lt K0.out))
              have ne44 := Lib.hid (Nat.ne_of_lt (Blk.lt KR.out))
              have ne45 := Lib.hid (Nat.ne_of_lt (Blk.lt KT.out))
              have lb46 := Lib.hid (KE.out.size)
              have nb_47 := Lib.hid (Blk.new (w1) 54 #[.int .i64 f, .int .i64 t, .int .i64 mm, .int .i64 i])
              obtain ⟨g34, hg35⟩ : ∃ g, g = (w1).heap.size := ⟨_, rfl⟩
              obtain ⟨w36, hw37⟩ : ∃ w', w' = (w1).alloc (.cells #[.int .i64 f, .int .i64 t, .int .i64 mm, .int .i64 i] 54) := ⟨_, rfl⟩
              rw [← hw37] at b0_38 br_39 bt_40 bel_41 cp_42 nb_47
              rw [← hg35] at ne43 ne44 ne45 lb46 nb_47
              rw [← hg35, ← hw37]
              clear hg35 hw37
              refine hK.out _ _ b0_38.out (fun _ => ?_); clear hK K
              try simp only [Act.put, List.setIfInBounds_toArray, List.set_cons_zero, List.set_cons_succ]
              refine wpAnyH_ready (rs := [8]) (by kernel_rfl) (by simp) ?_
              refine AllReadyH.cons (o := { dst := some 44, op := Go.Op.call { callee := Go.Callee.builtin Go.Builtin.append, args := #[Go.Operand.tmp 37, Go.Operand.tmp 43], argTypes := #[22, 22] }, type := 22, pos := "ref.go:116", after := #[{ on := 1, ground := Go.Ground.data }, { on := 7, ground := Go.Ground.data }], guard := none }) rfl (fun K hK => ?_) ?_
              · -- 8: call
                have hcell := cells_add (cs := bcells [⟨f, t, mm, i⟩]) (show Blk _ _ _ (bcells [⟨f, t, mm, i⟩]).toArray from nb_47.out)
                have hlr := World.ownsRow.lt cp_42.out
                have hsz := Blk.lt bt_40.out
                refine wp_append_own _ (.tmp 37) (.tmp 43) 22 rfl (w.heap.size + 1 + 1 + 1) 54 i0 _ 4 32 Try.underlying22 HI.out HZ0.out HZ1.out HZ2.out rfl (by omega) (.slice A' n' c') n' (bcells (onlyL (l.take q) S)) rfl cp_42.out ⟨g34, 0, none⟩ 1 1 (bcells [⟨f, t, mm, i⟩]) rfl rfl hcell (bcells_one _) (by unfold maxLen; omega) (by omega) (by omega) ?_
                intro v5 w5 hown5 hg5 _
                obtain ⟨B5, c5, rfl, -⟩ := own_form hown5
                have k48 := Lib.hid (blk_grown b0_38.out hg5 (fun e => by have := (hlr _ e).1; omega))
                have k49 := Lib.hid (blk_grown br_39.out hg5 (fun e => by have := (hlr _ e).1; omega))
                have k50 := Lib.hid (blk_grown bt_40.out hg5 (fun e => by have := (hlr _ e).1; omega))
                have k51 := Lib.hid (Below.grown bel_41.out hg5 (Below.size bel_41.out) (fun q e => by have := (hlr q e).1; omega))
                have HO5 := Lib.hid (show World.ownsRow w5 (w.heap.size + 1 + 1 + 1) 54 4 (.slice B5 (n' + 1) c5) (n' + 1) (bcells (onlyL (l.take q) S ++ [⟨f, t, mm, i⟩])) from by rw [bcells_append]; exact hown5)
                clear hown5 hg5 hcell hsz hlr
                refine hK.out _ _ k48.out (fun _ => ?_); clear hK K
                try simp only [Act.put, List.setIfInBounds_toArray, List.set_cons_zero, List.set_cons_succ]
                refine' wpAnyH_take (i := 9) (oi := { dst := some 45, op := Go.Op.fieldAddr 24 (Go.Operand.tmp 5) 1, type := 0, pos := "ref.go:116", after := #[{ on := 0, ground := Go.Ground.phase }, { on := 1, ground := Go.Ground.phase }, { on := 2, ground := Go.Ground.phase }, { on := 3, ground := Go.Ground.phase }, { on := 4, ground := Go.Ground.phase }, { on := 5, ground := Go.Ground.phase }, { on := 6, ground := Go.Ground.phase }, { on := 7, ground := Go.Ground.phase }, { on := 8, ground := Go.Ground.phase }], guard := none }) (v := _) rfl (by kernel_rfl) (by kernel_rfl) (by kernel_rfl) (fun _ _ _ h => h) (Or.inl ⟨by rfl, ?hyR52⟩) k48.out ?reR52
                case hyR52 => (rintro W' hS0; clear hS0; go_simp; try with_reducible rfl)
                try simp only [Act.put, List.setIfInBounds_toArray, List.set_cons_zero, List.set_cons_succ]
                refine wpAnyH_ready (rs := [10]) (by kernel_rfl) (by simp) ?_
                refine AllReadyH.cons (o := { dst := none, op := Go.Op.store 22 (Go.Operand.tmp 45) (Go.Operand.tmp 44), type := 0, pos := "ref.go:116", after := #[{ on := 9, ground := Go.Ground.data }, { on := 8, ground := Go.Ground.data }, { on := 8, ground := Go.Ground.chain }, { on := 0, ground := Go.Ground.phase }, { on := 1, ground := Go.Ground.phase }, { on := 2, ground := Go.Ground.phase }, { on := 3, ground := Go.Ground.phase }, { on := 4, ground := Go.Ground.phase }, { on := 5, ground := Go.Ground.phase }, { on := 6, ground := Go.Ground.phase }, { on := 7, ground := Go.Ground.phase }, { on := 8, ground := Go.Ground.phase }], guard := none }) rfl (fun K hK => ?_) ?_
                · -- 10: store
                  have v1 : w5.cell? ⟨w.heap.size + 1 + 1, 1, none⟩ = some (.slice A' n' c') := Blk.cell k50.out 1
                  have f1 : w5.frozen? ⟨w.heap.size + 1 + 1, 1, none⟩ = false := Blk.frozen k50.out 1
                  go_simp
                  have k53 := Lib.hid (Blk.far (k48.out) (p := ⟨w.heap.size + 1 + 1, 1, none⟩) (by simp; try omega) (.slice B5 (n' + 1) c5))
                  have k54 := Lib.hid (Blk.far (k49.out) (p := ⟨w.heap.size + 1 + 1, 1, none⟩) (by simp; try omega) (.slice B5 (n' + 1) c5))
                  have k55 := Lib.hid (Blk.set_ (k50.out) 1 (.slice B5 (n' + 1) c5))
                  have k56 := Lib.hid (Below.setCell (k51.out) (p := ⟨w.heap.size + 1 + 1, 1, none⟩) (by simp; omega) (.slice B5 (n' + 1) c5))
                  have k57 := Lib.hid (ownsRow_setCell_below (HO5.out) (a := ⟨w.heap.size + 1 + 1, 1, none⟩) (by simp) (.slice B5 (n' + 1) c5))
                  obtain ⟨w58, hw59⟩ : ∃ w', w' = w5.setCell ⟨w.heap.size + 1 + 1, 1, none⟩ (.slice B5 (n' + 1) c5) := ⟨_, rfl⟩
                  rw [← hw59] at k53 k54 k55 k56 k57
                  rw [← hw59]
                  clear hw59 v1 f1
                  refine hK.out _ _ k53.out (fun _ => ?_); clear hK K
                  try simp only [Act.put, List.setIfInBounds_toArray, List.set_cons_zero, List.set_cons_succ]
                  refine wpAnyH_done (by kernel_rfl) ?_ _
                  go_wp2
                  go_roundw
                  case rel => exact ⟨q + 1, B5, n' + 1, c5, by omega, by go_num, k55.out, by rw [HYES.out]; exact k57.out, k53.out, k54.out, k56.out⟩
                  case measure => (simp [intOf]; omega)
                exact AllReadyH.nil
              exact AllReadyH.nil
            exact AllReadyH.nil
          refine AllReadyH.cons (o := { dst := some 43, op := Go.Op.buildSlice 22 1 #[(0, Go.Operand.tmp 42)], type := 22, pos := "ref.go:116", after := #[{ on := 6, ground := Go.Ground.data }], guard := none }) rfl (fun K hK => ?_) ?_
          · -- 7: buildSlice
            go_simp
            have b0_64 := Lib.hid (Blk.alloc (K0.out) (.cells #[.int .i64 f, .int .i64 t, .int .i64 mm, .int .i64 i] 54))
            have br_65 := Lib.hid (Blk.alloc (KR.out) (.cells #[.int .i64 f, .int .i64 t, .int .i64 mm, .int .i64 i] 54))
            have bt_66 := Lib.hid (Blk.alloc (KT.out) (.cells #[.int .i64 f, .int .i64 t, .int .i64 mm, .int .i64 i] 54))
            have bel_67 := Lib.hid (Below.alloc (KE.out) ((KE.out).size) (.cells #[.int .i64 f, .int .i64 t, .int .i64 mm, .int .i64 i] 54))
            have cp_68 := Lib.hid (World.ownsRow.alloc (KO.out) (.cells #[.int .i64 f, .int .i64 t, .int .i64 mm, .int .i64 i] 54))
            have ne69 := Lib.hid (Nat.ne_of_lt (Blk.lt K0.out))
            have ne70 := Lib.hid (Nat.ne_of_lt (Blk.lt KR.out))
            have ne71 := Lib.hid (Nat.ne_of_lt (Blk.lt KT.out))
            have lb72 := Lib.hid (KE.out.size)
            have nb_73 := Lib.hid (Blk.new (w1) 54 #[.int .i64 f, .int .i64 t, .int .i64 mm, .int .i64 i])
            obtain ⟨g60, hg61⟩ : ∃ g, g = (w1).heap.size := ⟨_, rfl⟩
            obtain ⟨w62, hw63⟩ : ∃ w', w' = (w1).alloc (.cells #[.int .i64 f, .int .i64 t, .int .i64 mm, .int .i64 i] 54) := ⟨_, rfl⟩
            rw [← hw63] at b0_64 br_65 bt_66 bel_67 cp_68 nb_73
            rw [← hg61] at ne69 ne70 ne71 lb72 nb_73
            rw [← hg61, ← hw63]
            clear hg61 hw63
            refine hK.out _ _ b0_64.out (fun _ => ?_); clear hK K
            try simp only [Act.put, List.setIfInBounds_toArray, List.set_cons_zero, List.set_cons_succ]
            refine wpAnyH_ready (rs := [1]) (by kernel_rfl) (by simp) ?_
            refine AllReadyH.cons (o := { dst := some 37, op := Go.Op.load 22 (Go.Operand.tmp 36), type := 22, pos := "ref.go:116", after := #[{ on := 0, ground := Go.Ground.data }], guard := none }) rfl (fun K hK => ?_) ?_
            · -- 1: load
              have v1 : w62.cell? ⟨w.heap.size + 1 + 1, 1, none⟩ = some (.slice A' n' c') := Blk.cell bt_66.out 1
              go_simp
              clear v1
              refine hK.out _ _ b0_64.out (fun _ => ?_); clear hK K
              try simp only [Act.put, List.setIfInBounds_toArray, List.set_cons_zero, List.set_cons_succ]
              refine wpAnyH_ready (rs := [8]) (by kernel_rfl) (by simp) ?_
              refine AllReadyH.cons (o := { dst := some 44, op := Go.Op.call { callee := Go.Callee.builtin Go.Builtin.append, args := #[Go.Operand.tmp 37, Go.Operand.tmp 43], argTypes := #[22, 22] }, type := 22, pos := "ref.go:116", after := #[{ on := 1, ground := Go.Ground.data }, { on := 7, ground := Go.Ground.data }], guard := none }) rfl (fun K hK => ?_) ?_
              · -- 8: call
                have hcell := cells_add (cs := bcells [⟨f, t, mm, i⟩]) (show Blk _ _ _ (bcells [⟨f, t, mm, i⟩]).toArray from nb_73.out)
                have hlr := World.ownsRow.lt cp_68.out
                have hsz := Blk.lt bt_66.out
                refine wp_append_own _ (.tmp 37) (.tmp 43) 22 rfl (w.heap.size + 1 + 1 + 1) 54 i0 _ 4 32 Try.underlying22 HI.out HZ0.out HZ1.out HZ2.out rfl (by omega) (.slice A' n' c') n' (bcells (onlyL (l.take q) S)) rfl cp_68.out ⟨g60, 0, none⟩ 1 1 (bcells [⟨f, t, mm, i⟩]) rfl rfl hcell (bcells_one _) (by unfold maxLen; omega) (by omega) (by omega) ?_
                intro v5 w5 hown5 hg5 _
                obtain ⟨B5, c5, rfl, -⟩ := own_form hown5
                have k74 := Lib.hid (blk_grown b0_64.out hg5 (fun e => by have := (hlr _ e).1; omega))
                have k75 := Lib.hid (blk_grown br_65.out hg5 (fun e => by have := (hlr _ e).1; omega))
                have k76 := Lib.hid (blk_grown bt_66.out hg5 (fun e => by have := (hlr _ e).1; omega))
                have k77 := Lib.hid (Below.grown bel_67.out hg5 (Below.size bel_67.out) (fun q e => by have := (hlr q e).1; omega))
                have HO5 := Lib.hid (show World.ownsRow w5 (w.heap.size + 1 + 1 + 1) 54 4 (.slice B5 (n' + 1) c5) (n' + 1) (bcells (onlyL (l.take q) S ++ [⟨f, t, mm, i⟩])) from by rw [bcells_append]; exact hown5)
                clear hown5 hg5 hcell hsz hlr
                refine hK.out _ _ k74.out (fun _ => ?_); clear hK K
                try simp only [Act.put, List.setIfInBounds_toArray, List.set_cons_zero, List.set_cons_succ]
                refine' wpAnyH_take (i := 9) (oi := { dst := some 45, op := Go.Op.fieldAddr 24 (Go.Operand.tmp 5) 1, type := 0, pos := "ref.go:116", after := #[{ on := 0, ground := Go.Ground.phase }, { on := 1, ground := Go.Ground.phase }, { on := 2, ground := Go.Ground.phase }, { on := 3, ground := Go.Ground.phase }, { on := 4, ground := Go.Ground.phase }, { on := 5, ground := Go.Ground.phase }, { on := 6, ground := Go.Ground.phase }, { on := 7, ground := Go.Ground.phase }, { on := 8, ground := Go.Ground.phase }], guard := none }) (v := _) rfl (by kernel_rfl) (by kernel_rfl) (by kernel_rfl) (fun _ _ _ h => h) (Or.inl ⟨by rfl, ?hyR78⟩) k74.out ?reR78
                case hyR78 => (rintro W' hS0; clear hS0; go_simp; try with_reducible rfl)
                try simp only [Act.put, List.setIfInBounds_toArray, List.set_cons_zero, List.set_cons_succ]
                refine wpAnyH_ready (rs := [10]) (by kernel_rfl) (by simp) ?_
                refine AllReadyH.cons (o := { dst := none, op := Go.Op.store 22 (Go.Operand.tmp 45) (Go.Operand.tmp 44), type := 0, pos := "ref.go:116", after := #[{ on := 9, ground := Go.Ground.data }, { on := 8, ground := Go.Ground.data }, { on := 8, ground := Go.Ground.chain }, { on := 0, ground := Go.Ground.phase }, { on := 1, ground := Go.Ground.phase }, { on := 2, ground := Go.Ground.phase }, { on := 3, ground := Go.Ground.phase }, { on := 4, ground := Go.Ground.phase }, { on := 5, ground := Go.Ground.phase }, { on := 6, ground := Go.Ground.phase }, { on := 7, ground := Go.Ground.phase }, { on := 8, ground := Go.Ground.phase }], guard := none }) rfl (fun K hK => ?_) ?_
                · -- 10: store
                  have v1 : w5.cell? ⟨w.heap.size + 1 + 1, 1, none⟩ = some (.slice A' n' c') := Blk.cell k76.out 1
                  have f1 : w5.frozen? ⟨w.heap.size + 1 + 1, 1, none⟩ = false := Blk.frozen k76.out 1
                  go_simp
                  have k79 := Lib.hid (Blk.far (k74.out) (p := ⟨w.heap.size + 1 + 1, 1, none⟩) (by simp; try omega) (.slice B5 (n' + 1) c5))
                  have k80 := Lib.hid (Blk.far (k75.out) (p := ⟨w.heap.size + 1 + 1, 1, none⟩) (by simp; try omega) (.slice B5 (n' + 1) c5))
                  have k81 := Lib.hid (Blk.set_ (k76.out) 1 (.slice B5 (n' + 1) c5))
                  have k82 := Lib.hid (Below.setCell (k77.out) (p := ⟨w.heap.size + 1 + 1, 1, none⟩) (by simp; omega) (.slice B5 (n' + 1) c5))
                  have k83 := Lib.hid (ownsRow_setCell_below (HO5.out) (a := ⟨w.heap.size + 1 + 1, 1, none⟩) (by simp) (.slice B5 (n' + 1) c5))
                  obtain ⟨w84, hw85⟩ : ∃ w', w' = w5.setCell ⟨w.heap.size + 1 + 1, 1, none⟩ (.slice B5 (n' + 1) c5) := ⟨_, rfl⟩
                  rw [← hw85] at k79 k80 k81 k82 k83
                  rw [← hw85]
                  clear hw85 v1 f1
                  refine hK.out _ _ k79.out (fun _ => ?_); clear hK K
                  try simp only [Act.put, List.setIfInBounds_toArray, List.set_cons_zero, List.set_cons_succ]
                  refine wpAnyH_done (by kernel_rfl) ?_ _
                  go_wp2
                  go_roundw
                  case rel => exact ⟨q + 1, B5, n' + 1, c5, by omega, by go_num, k81.out, by rw [HYES.out]; exact k83.out, k79.out, k80.out, k82.out⟩
                  case measure => (simp [intOf]; omega)
                exact AllReadyH.nil
              exact AllReadyH.nil
            exact AllReadyH.nil
          exact AllReadyH.nil
        exact AllReadyH.nil
      · have hin' : S.contains i = false := by simpa using hin
        rw [hin'] at hc
        have HC := Lib.hid hc; clear hc
        by_cases hi0 : i = 0
        · subst hi0
          rw [if_pos (by simp)] at hstep
          have HYES := Lib.hid hstep; clear hstep hin hin'
          go_wp2_with fail
          refine HC.out.mono ?_
          rintro e w5 ⟨rfl, rfl⟩
          clear HC
          go_wp2_with fail
          clear y0 y1 y2 e0 e1 e2 e3
          have K0 := Lib.hid (Blk.drew HB0.out); have KR := Lib.hid (Blk.drew HBR.out); have KT := Lib.hid (Blk.drew HBT.out); have KE := Lib.hid (Below.drew HBE.out); have KO := Lib.hid (World.ownsRow.drew HOW.out)
          clear HB0 HBR HBT HBE HOW
          refine wp_region_held_drew (S := (fun W' => Blk W' w.heap.size 24 #[.int .i64 p, .slice (some ⟨ba, oa, none⟩) n c])) (by kernel_rfl) K0.out (fun _ => ?_)
          obtain ⟨w86, hw87⟩ : ∃ w', w' = wr.drew := ⟨_, rfl⟩
          rw [← hw87] at K0 KR KT KE KO
          rw [← hw87]
          clear hw87
          refine' wpAnyH_take (i := 0) (oi := { dst := some 36, op := Go.Op.fieldAddr 24 (Go.Operand.tmp 5) 1, type := 0, pos := "ref.go:116", after := #[], guard := none }) (v := _) rfl (by kernel_rfl) (by kernel_rfl) (by kernel_rfl) (fun _ _ _ h => h) (Or.inl ⟨by rfl, ?hyR88⟩) K0.out ?reR88
          case hyR88 => (rintro W' hS0; clear hS0; go_simp; try with_reducible rfl)
          try simp only [Act.put, List.setIfInBounds_toArray, List.set_cons_zero, List.set_cons_succ]
          refine' wpAnyH_take (i := 2) (oi := { dst := some 38, op := Go.Op.fieldAddr 24 (Go.Operand.tmp 2) 1, type := 0, pos := "ref.go:116", after := #[], guard := none }) (v := _) rfl (by kernel_rfl) (by kernel_rfl) (by kernel_rfl) (fun _ _ _ h => h) (Or.inl ⟨by rfl, ?hyR89⟩) K0.out ?reR89
          case hyR89 => (rintro W' hS0; clear hS0; go_simp; try with_reducible rfl)
          try simp only [Act.put, List.setIfInBounds_toArray, List.set_cons_zero, List.set_cons_succ]
          refine' wpAnyH_take (i := 3) (oi := { dst := some 39, op := Go.Op.load 22 (Go.Operand.tmp 38), type := 22, pos := "ref.go:116", after := #[{ on := 2, ground := Go.Ground.data }], guard := none }) (v := _) rfl (by kernel_rfl) (by kernel_rfl) (by kernel_rfl) (fun _ _ _ h => h) (Or.inl ⟨by rfl, ?hyR90⟩) K0.out ?reR90
          case hyR90 => (rintro W' hS0; have hc0 : W'.cell? ⟨w.heap.size, 1, none⟩ = some (.slice (some ⟨ba, oa, none⟩) n c) := Blk.cell hS0 1; clear hS0; go_simp; try with_reducible rfl)
          try simp only [Act.put, List.setIfInBounds_toArray, List.set_cons_zero, List.set_cons_succ]
          refine' wpAnyH_take (i := 4) (oi := { dst := some 40, op := Go.Op.move (Go.Operand.tmp 6), type := 3, pos := "ref.go:116", after := #[], guard := none }) (v := _) rfl (by kernel_rfl) (by kernel_rfl) (by kernel_rfl) (fun _ _ _ h => h) (Or.inl ⟨by rfl, ?hyR91⟩) K0.out ?reR91
          case hyR91 => (rintro W' hS0; clear hS0; go_simp; try with_reducible rfl)
          try simp only [Act.put, List.setIfInBounds_toArray, List.set_cons_zero, List.set_cons_succ]
          refine' wpAnyH_take (i := 5) (oi := { dst := some 41, op := Go.Op.indexAddr 22 (Go.Operand.tmp 39) (Go.Operand.tmp 40), type := 0, pos := "ref.go:116", after := #[{ on := 3, ground := Go.Ground.data }, { on := 4, ground := Go.Ground.data }], guard := none }) (v := _) rfl (by kernel_rfl) (by kernel_rfl) (by kernel_rfl) (fun _ _ _ h => h) (Or.inl ⟨by rfl, ?hyR92⟩) K0.out ?reR92
          case hyR92 => (rintro W' hS0; clear hS0; go_simp; try with_reducible rfl)
          try simp only [Act.put, List.setIfInBounds_toArray, List.set_cons_zero, List.set_cons_succ]
          refine wpAnyH_ready (rs := [1, 6]) (by kernel_rfl) (by simp) ?_
          refine AllReadyH.cons (o := { dst := some 37, op := Go.Op.load 22 (Go.Operand.tmp 36), type := 22, pos := "ref.go:116", after := #[{ on := 0, ground := Go.Ground.data }], guard := none }) rfl (fun K hK => ?_) ?_
          · -- 1: load
            have v1 : w86.cell? ⟨w.heap.size + 1 + 1, 1, none⟩ = some (.slice A' n' c') := Blk.cell KT.out 1
            go_simp
            clear v1
            refine hK.out _ _ K0.out (fun _ => ?_); clear hK K
            try simp only [Act.put, List.setIfInBounds_toArray, List.set_cons_zero, List.set_cons_succ]
            refine wpAnyH_ready (rs := [6]) (by kernel_rfl) (by simp) ?_
            refine AllReadyH.cons (o := { dst := some 42, op := Go.Op.load 54 (Go.Operand.tmp 41), type := 54, pos := "ref.go:116", after := #[{ on := 5, ground := Go.Ground.data }], guard := none }) rfl (fun K hK => ?_) ?_
            · -- 6: load
              obtain ⟨q0, q1, q2, q3, q4⟩ := rdB_at (RdB.below HR.out KE.out) HX.out
              go_simp
              clear q0 q1 q2 q3 q4
              refine hK.out _ _ K0.out (fun _ => ?_); clear hK K
              try simp only [Act.put, List.setIfInBounds_toArray, List.set_cons_zero, List.set_cons_succ]
              refine wpAnyH_ready (rs := [7]) (by kernel_rfl) (by simp) ?_
              refine AllReadyH.cons (o := { dst := some 43, op := Go.Op.buildSlice 22 1 #[(0, Go.Operand.tmp 42)], type := 22, pos := "ref.go:116", after := #[{ on := 6, ground := Go.Ground.data }], guard := none }) rfl (fun K hK => ?_) ?_
              · -- 7: buildSlice
                go_simp
                have b0_97 := Lib.hid (Blk.alloc (K0.out) (.cells #[.int .i64 f, .int .i64 t, .int .i64 mm, .int .i64 0] 54))
                have br_98 := Lib.hid (Blk.alloc (KR.out) (.cells #[.int .i64 f, .int .i64 t, .int .i64 mm, .int .i64 0] 54))
                have bt_99 := Lib.hid (Blk.alloc (KT.out) (.cells #[.int .i64 f, .int .i64 t, .int .i64 mm, .int .i64 0] 54))
                have bel_100 := Lib.hid (Below.alloc (KE.out) ((KE.out).size) (.cells #[.int .i64 f, .int .i64 t, .int .i64 mm, .int .i64 0] 54))
                have cp_101 := Lib.hid (World.ownsRow.alloc (KO.out) (.cells #[.int .i64 f, .int .i64 t, .int .i64 mm, .int .i64 0] 54))
                have ne102 := Lib.hid (Nat.ne_of_lt (Blk.lt K0.out))
                have ne103 := Lib.hid (Nat.ne_of_lt (Blk.lt KR.out))
                have ne104 := Lib.hid (Nat.ne_of_lt (Blk.lt KT.out))
                have lb105 := Lib.hid (KE.out.size)
                have nb_106 := Lib.hid (Blk.new (w86) 54 #[.int .i64 f, .int .i64 t, .int .i64 mm, .int .i64 0])
                obtain ⟨g93, hg94⟩ : ∃ g, g = (w86).heap.size := ⟨_, rfl⟩
                obtain ⟨w95, hw96⟩ : ∃ w', w' = (w86).alloc (.cells #[.int .i64 f, .int .i64 t, .int .i64 mm, .int .i64 0] 54) := ⟨_, rfl⟩
                rw [← hw96] at b0_97 br_98 bt_99 bel_100 cp_101 nb_106
                rw [← hg94] at ne102 ne103 ne104 lb105 nb_106
                rw [← hg94, ← hw96]
                clear hg94 hw96
                refine hK.out _ _ b0_97.out (fun _ => ?_); clear hK K
                try simp only [Act.put, List.setIfInBounds_toArray, List.set_cons_zero, List.set_cons_succ]
                refine wpAnyH_ready (rs := [8]) (by kernel_rfl) (by simp) ?_
                refine AllReadyH.cons (o := { dst := some 44, op := Go.Op.call { callee := Go.Callee.builtin Go.Builtin.append, args := #[Go.Operand.tmp 37, Go.Operand.tmp 43], argTypes := #[22, 22] }, type := 22, pos := "ref.go:116", after := #[{ on := 1, ground := Go.Ground.data }, { on := 7, ground := Go.Ground.data }], guard := none }) rfl (fun K hK => ?_) ?_
                · -- 8: call
                  have hcell := cells_add (cs := bcells [⟨f, t, mm, 0⟩]) (show Blk _ _ _ (bcells [⟨f, t, mm, 0⟩]).toArray from nb_106.out)
                  have hlr := World.ownsRow.lt cp_101.out
                  have hsz := Blk.lt bt_99.out
                  refine wp_append_own _ (.tmp 37) (.tmp 43) 22 rfl (w.heap.size + 1 + 1 + 1) 54 i0 _ 4 32 Try.underlying22 HI.out HZ0.out HZ1.out HZ2.out rfl (by omega) (.slice A' n' c') n' (bcells (onlyL (l.take q) S)) rfl cp_101.out ⟨g93, 0, none⟩ 1 1 (bcells [⟨f, t, mm, 0⟩]) rfl rfl hcell (bcells_one _) (by unfold maxLen; omega) (by omega) (by omega) ?_
                  intro v5 w5 hown5 hg5 _
                  obtain ⟨B5, c5, rfl, -⟩ := own_form hown5
                  have k107 := Lib.hid (blk_grown b0_97.out hg5 (fun e => by have := (hlr _ e).1; omega))
                  have k108 := Lib.hid (blk_grown br_98.out hg5 (fun e => by have := (hlr _ e).1; omega))
                  have k109 := Lib.hid (blk_grown bt_99.out hg5 (fun e => by have := (hlr _ e).1; omega))
                  have k110 := Lib.hid (Below.grown bel_100.out hg5 (Below.size bel_100.out) (fun q e => by have := (hlr q e).1; omega))
                  have HO5 := Lib.hid (show World.ownsRow w5 (w.heap.size + 1 + 1 + 1) 54 4 (.slice B5 (n' + 1) c5) (n' + 1) (bcells (onlyL (l.take q) S ++ [⟨f, t, mm, 0⟩])) from by rw [bcells_append]; exact hown5)
                  clear hown5 hg5 hcell hsz hlr
                  refine hK.out _ _ k107.out (fun _ => ?_); clear hK K
                  try simp only [Act.put, List.setIfInBounds_toArray, List.set_cons_zero, List.set_cons_succ]
                  refine' wpAnyH_take (i := 9) (oi := { dst := some 45, op := Go.Op.fieldAddr 24 (Go.Operand.tmp 5) 1, type := 0, pos := "ref.go:116", after := #[{ on := 0, ground := Go.Ground.phase }, { on := 1, ground := Go.Ground.phase }, { on := 2, ground := Go.Ground.phase }, { on := 3, ground := Go.Ground.phase }, { on := 4, ground := Go.Ground.phase }, { on := 5, ground := Go.Ground.phase }, { on := 6, ground := Go.Ground.phase }, { on := 7, ground := Go.Ground.phase }, { on := 8, ground := Go.Ground.phase }], guard := none }) (v := _) rfl (by kernel_rfl) (by kernel_rfl) (by kernel_rfl) (fun _ _ _ h => h) (Or.inl ⟨by rfl, ?hyR111⟩) k107.out ?reR111
                  case hyR111 => (rintro W' hS0; clear hS0; go_simp; try with_reducible rfl)
                  try simp only [Act.put, List.setIfInBounds_toArray, List.set_cons_zero, List.set_cons_succ]
                  refine wpAnyH_ready (rs := [10]) (by kernel_rfl) (by simp) ?_
                  refine AllReadyH.cons (o := { dst := none, op := Go.Op.store 22 (Go.Operand.tmp 45) (Go.Operand.tmp 44), type := 0, pos := "ref.go:116", after := #[{ on := 9, ground := Go.Ground.data }, { on := 8, ground := Go.Ground.data }, { on := 8, ground := Go.Ground.chain }, { on := 0, ground := Go.Ground.phase }, { on := 1, ground := Go.Ground.phase }, { on := 2, ground := Go.Ground.phase }, { on := 3, ground := Go.Ground.phase }, { on := 4, ground := Go.Ground.phase }, { on := 5, ground := Go.Ground.phase }, { on := 6, ground := Go.Ground.phase }, { on := 7, ground := Go.Ground.phase }, { on := 8, ground := Go.Ground.phase }], guard := none }) rfl (fun K hK => ?_) ?_
                  · -- 10: store
                    have v1 : w5.cell? ⟨w.heap.size + 1 + 1, 1, none⟩ = some (.slice A' n' c') := Blk.cell k109.out 1
                    have f1 : w5.frozen? ⟨w.heap.size + 1 + 1, 1, none⟩ = false := Blk.frozen k109.out 1
                    go_simp
                    have k112 := Lib.hid (Blk.far (k107.out) (p := ⟨w.heap.size + 1 + 1, 1, none⟩) (by simp; try omega) (.slice B5 (n' + 1) c5))
                    have k113 := Lib.hid (Blk.far (k108.out) (p := ⟨w.heap.size + 1 + 1, 1, none⟩) (by simp; try omega) (.slice B5 (n' + 1) c5))
                    have k114 := Lib.hid (Blk.set_ (k109.out) 1 (.slice B5 (n' + 1) c5))
                    have k115 := Lib.hid (Below.setCell (k110.out) (p := ⟨w.heap.size + 1 + 1, 1, none⟩) (by simp; omega) (.slice B5 (n' + 1) c5))
                    have k116 := Lib.hid (ownsRow_setCell_below (HO5.out) (a := ⟨w.heap.size + 1 + 1, 1, none⟩) (by simp) (.slice B5 (n' + 1) c5))
                    obtain ⟨w117, hw118⟩ : ∃ w', w' = w5.setCell ⟨w.heap.size + 1 + 1, 1, none⟩ (.slice B5 (n' + 1) c5) := ⟨_, rfl⟩
                    rw [← hw118] at k112 k113 k114 k115 k116
                    rw [← hw118]
                    clear hw118 v1 f1
                    refine hK.out _ _ k112.out (fun _ => ?_); clear hK K
                    try simp only [Act.put, List.setIfInBounds_toArray, List.set_cons_zero, List.set_cons_succ]
                    refine wpAnyH_done (by kernel_rfl) ?_ _
                    go_wp2
                    go_roundw
                    case rel => exact ⟨q + 1, B5, n' + 1, c5, by omega, by go_num, k114.out, by rw [HYES.out]; exact k116.out, k112.out, k113.out, k115.out⟩
                    case measure => (simp [intOf]; omega)
                  exact AllReadyH.nil
                exact AllReadyH.nil
              exact AllReadyH.nil
            exact AllReadyH.nil
          refine AllReadyH.cons (o := { dst := some 42, op := Go.Op.load 54 (Go.Operand.tmp 41), type := 54, pos := "ref.go:116", after := #[{ on := 5, ground := Go.Ground.data }], guard := none }) rfl (fun K hK => ?_) ?_
          · -- 6: load
            obtain ⟨q0, q1, q2, q3, q4⟩ := rdB_at (RdB.below HR.out KE.out) HX.out
            go_simp
            clear q0 q1 q2 q3 q4
            refine hK.out _ _ K0.out (fun _ => ?_); clear hK K
            try simp only [Act.put, List.setIfInBounds_toArray, List.set_cons_zero, List.set_cons_succ]
            refine wpAnyH_ready (rs := [1, 7]) (by kernel_rfl) (by simp) ?_
            refine AllReadyH.cons (o := { dst := some 37, op := Go.Op.load 22 (Go.Operand.tmp 36), type := 22, pos := "ref.go:116", after := #[{ on := 0, ground := Go.Ground.data }], guard := none }) rfl (fun K hK => ?_) ?_
            · -- 1: load
              have v1 : w86.cell? ⟨w.heap.size + 1 + 1, 1, none⟩ = some (.slice A' n' c') := Blk.cell KT.out 1
              go_simp
              clear v1
              refine hK.out _ _ K0.out (fun _ => ?_); clear hK K
              try simp only [Act.put, List.setIfInBounds_toArray, List.set_cons_zero, List.set_cons_succ]
              refine wpAnyH_ready (rs := [7]) (by kernel_rfl) (by simp) ?_
              refine AllReadyH.cons (o := { dst := some 43, op := Go.Op.buildSlice 22 1 #[(0, Go.Operand.tmp 42)], type := 22, pos := "ref.go:116", after := #[{ on := 6, ground := Go.Ground.data }], guard := none }) rfl (fun K hK => ?_) ?_
              · -- 7: buildSlice
                go_simp
                have b0_123 := Lib.hid (Blk.alloc (K0.out) (.cells #[.int .i64 f, .int .i64 t, .int .i64 mm, .int .i64 0] 54))
                have br_124 := Lib.hid (Blk.alloc (KR.out) (.cells #[.int .i64 f, .int .i64 t, .int .i64 mm, .int .i64 0] 54))
                have bt_125 := Lib.hid (Blk.alloc (KT.out) (.cells #[.int .i64 f, .int .i64 t, .int .i64 mm, .int .i64 0] 54))
                have bel_126 := Lib.hid (Below.alloc (KE.out) ((KE.out).size) (.cells #[.int .i64 f, .int .i64 t, .int .i64 mm, .int .i64 0] 54))
                have cp_127 := Lib.hid (World.ownsRow.alloc (KO.out) (.cells #[.int .i64 f, .int .i64 t, .int .i64 mm, .int .i64 0] 54))
                have ne128 := Lib.hid (Nat.ne_of_lt (Blk.lt K0.out))
                have ne129 := Lib.hid (Nat.ne_of_lt (Blk.lt KR.out))
                have ne130 := Lib.hid (Nat.ne_of_lt (Blk.lt KT.out))
                have lb131 := Lib.hid (KE.out.size)
                have nb_132 := Lib.hid (Blk.new (w86) 54 #[.int .i64 f, .int .i64 t, .int .i64 mm, .int .i64 0])
                obtain ⟨g119, hg120⟩ : ∃ g, g = (w86).heap.size := ⟨_, rfl⟩
                obtain ⟨w121, hw122⟩ : ∃ w', w' = (w86).alloc (.cells #[.int .i64 f, .int .i64 t, .int .i64 mm, .int .i64 0] 54) := ⟨_, rfl⟩
                rw [← hw122] at b0_123 br_124 bt_125 bel_126 cp_127 nb_132
                rw [← hg120] at ne128 ne129 ne130 lb131 nb_132
                rw [← hg120, ← hw122]
                clear hg120 hw122
                refine hK.out _ _ b0_123.out (fun _ => ?_); clear hK K
                try simp only [Act.put, List.setIfInBounds_toArray, List.set_cons_zero, List.set_cons_succ]
                refine wpAnyH_ready (rs := [8]) (by kernel_rfl) (by simp) ?_
                refine AllReadyH.cons (o := { dst := some 44, op := Go.Op.call { callee := Go.Callee.builtin Go.Builtin.append, args := #[Go.Operand.tmp 37, Go.Operand.tmp 43], argTypes := #[22, 22] }, type := 22, pos := "ref.go:116", after := #[{ on := 1, ground := Go.Ground.data }, { on := 7, ground := Go.Ground.data }], guard := none }) rfl (fun K hK => ?_) ?_
                · -- 8: call
                  have hcell := cells_add (cs := bcells [⟨f, t, mm, 0⟩]) (show Blk _ _ _ (bcells [⟨f, t, mm, 0⟩]).toArray from nb_132.out)
                  have hlr := World.ownsRow.lt cp_127.out
                  have hsz := Blk.lt bt_125.out
                  refine wp_append_own _ (.tmp 37) (.tmp 43) 22 rfl (w.heap.size + 1 + 1 + 1) 54 i0 _ 4 32 Try.underlying22 HI.out HZ0.out HZ1.out HZ2.out rfl (by omega) (.slice A' n' c') n' (bcells (onlyL (l.take q) S)) rfl cp_127.out ⟨g119, 0, none⟩ 1 1 (bcells [⟨f, t, mm, 0⟩]) rfl rfl hcell (bcells_one _) (by unfold maxLen; omega) (by omega) (by omega) ?_
                  intro v5 w5 hown5 hg5 _
                  obtain ⟨B5, c5, rfl, -⟩ := own_form hown5
                  have k133 := Lib.hid (blk_grown b0_123.out hg5 (fun e => by have := (hlr _ e).1; omega))
                  have k134 := Lib.hid (blk_grown br_124.out hg5 (fun e => by have := (hlr _ e).1; omega))
                  have k135 := Lib.hid (blk_grown bt_125.out hg5 (fun e => by have := (hlr _ e).1; omega))
                  have k136 := Lib.hid (Below.grown bel_126.out hg5 (Below.size bel_126.out) (fun q e => by have := (hlr q e).1; omega))
                  have HO5 := Lib.hid (show World.ownsRow w5 (w.heap.size + 1 + 1 + 1) 54 4 (.slice B5 (n' + 1) c5) (n' + 1) (bcells (onlyL (l.take q) S ++ [⟨f, t, mm, 0⟩])) from by rw [bcells_append]; exact hown5)
                  clear hown5 hg5 hcell hsz hlr
                  refine hK.out _ _ k133.out (fun _ => ?_); clear hK K
                  try simp only [Act.put, List.setIfInBounds_toArray, List.set_cons_zero, List.set_cons_succ]
                  refine' wpAnyH_take (i := 9) (oi := { dst := some 45, op := Go.Op.fieldAddr 24 (Go.Operand.tmp 5) 1, type := 0, pos := "ref.go:116", after := #[{ on := 0, ground := Go.Ground.phase }, { on := 1, ground := Go.Ground.phase }, { on := 2, ground := Go.Ground.phase }, { on := 3, ground := Go.Ground.phase }, { on := 4, ground := Go.Ground.phase }, { on := 5, ground := Go.Ground.phase }, { on := 6, ground := Go.Ground.phase }, { on := 7, ground := Go.Ground.phase }, { on := 8, ground := Go.Ground.phase }], guard := none }) (v := _) rfl (by kernel_rfl) (by kernel_rfl) (by kernel_rfl) (fun _ _ _ h => h) (Or.inl ⟨by rfl, ?hyR137⟩) k133.out ?reR137
                  case hyR137 => (rintro W' hS0; clear hS0; go_simp; try with_reducible rfl)
                  try simp only [Act.put, List.setIfInBounds_toArray, List.set_cons_zero, List.set_cons_succ]
                  refine wpAnyH_ready (rs := [10]) (by kernel_rfl) (by simp) ?_
                  refine AllReadyH.cons (o := { dst := none, op := Go.Op.store 22 (Go.Operand.tmp 45) (Go.Operand.tmp 44), type := 0, pos := "ref.go:116", after := #[{ on := 9, ground := Go.Ground.data }, { on := 8, ground := Go.Ground.data }, { on := 8, ground := Go.Ground.chain }, { on := 0, ground := Go.Ground.phase }, { on := 1, ground := Go.Ground.phase }, { on := 2, ground := Go.Ground.phase }, { on := 3, ground := Go.Ground.phase }, { on := 4, ground := Go.Ground.phase }, { on := 5, ground := Go.Ground.phase }, { on := 6, ground := Go.Ground.phase }, { on := 7, ground := Go.Ground.phase }, { on := 8, ground := Go.Ground.phase }], guard := none }) rfl (fun K hK => ?_) ?_
                  · -- 10: store
                    have v1 : w5.cell? ⟨w.heap.size + 1 + 1, 1, none⟩ = some (.slice A' n' c') := Blk.cell k135.out 1
                    have f1 : w5.frozen? ⟨w.heap.size + 1 + 1, 1, none⟩ = false := Blk.frozen k135.out 1
                    go_simp
                    have k138 := Lib.hid (Blk.far (k133.out) (p := ⟨w.heap.size + 1 + 1, 1, none⟩) (by simp; try omega) (.slice B5 (n' + 1) c5))
                    have k139 := Lib.hid (Blk.far (k134.out) (p := ⟨w.heap.size + 1 + 1, 1, none⟩) (by simp; try omega) (.slice B5 (n' + 1) c5))
                    have k140 := Lib.hid (Blk.set_ (k135.out) 1 (.slice B5 (n' + 1) c5))
                    have k141 := Lib.hid (Below.setCell (k136.out) (p := ⟨w.heap.size + 1 + 1, 1, none⟩) (by simp; omega) (.slice B5 (n' + 1) c5))
                    have k142 := Lib.hid (ownsRow_setCell_below (HO5.out) (a := ⟨w.heap.size + 1 + 1, 1, none⟩) (by simp) (.slice B5 (n' + 1) c5))
                    obtain ⟨w143, hw144⟩ : ∃ w', w' = w5.setCell ⟨w.heap.size + 1 + 1, 1, none⟩ (.slice B5 (n' + 1) c5) := ⟨_, rfl⟩
                    rw [← hw144] at k138 k139 k140 k141 k142
                    rw [← hw144]
                    clear hw144 v1 f1
                    refine hK.out _ _ k138.out (fun _ => ?_); clear hK K
                    try simp only [Act.put, List.setIfInBounds_toArray, List.set_cons_zero, List.set_cons_succ]
                    refine wpAnyH_done (by kernel_rfl) ?_ _
                    go_wp2
                    go_roundw
                    case rel => exact ⟨q + 1, B5, n' + 1, c5, by omega, by go_num, k140.out, by rw [HYES.out]; exact k142.out, k138.out, k139.out, k141.out⟩
                    case measure => (simp [intOf]; omega)
                  exact AllReadyH.nil
                exact AllReadyH.nil
              exact AllReadyH.nil
            refine AllReadyH.cons (o := { dst := some 43, op := Go.Op.buildSlice 22 1 #[(0, Go.Operand.tmp 42)], type := 22, pos := "ref.go:116", after := #[{ on := 6, ground := Go.Ground.data }], guard := none }) rfl (fun K hK => ?_) ?_
            · -- 7: buildSlice
              go_simp
              have b0_149 := Lib.hid (Blk.alloc (K0.out) (.cells #[.int .i64 f, .int .i64 t, .int .i64 mm, .int .i64 0] 54))
              have br_150 := Lib.hid (Blk.alloc (KR.out) (.cells #[.int .i64 f, .int .i64 t, .int .i64 mm, .int .i64 0] 54))
              have bt_151 := Lib.hid (Blk.alloc (KT.out) (.cells #[.int .i64 f, .int .i64 t, .int .i64 mm, .int .i64 0] 54))
              have bel_152 := Lib.hid (Below.alloc (KE.out) ((KE.out).size) (.cells #[.int .i64 f, .int .i64 t, .int .i64 mm, .int .i64 0] 54))
              have cp_153 := Lib.hid (World.ownsRow.alloc (KO.out) (.cells #[.int .i64 f, .int .i64 t, .int .i64 mm, .int .i64 0] 54))
              have ne154 := Lib.hid (Nat.ne_of_lt (Blk.lt K0.out))
              have ne155 := Lib.hid (Nat.ne_of_lt (Blk.lt KR.out))
              have ne156 := Lib.hid (Nat.ne_of_lt (Blk.lt KT.out))
              have lb157 := Lib.hid (KE.out.size)
              have nb_158 := Lib.hid (Blk.new (w86) 54 #[.int .i64 f, .int .i64 t, .int .i64 mm, .int .i64 0])
              obtain ⟨g145, hg146⟩ : ∃ g, g = (w86).heap.size := ⟨_, rfl⟩
              obtain ⟨w147, hw148⟩ : ∃ w', w' = (w86).alloc (.cells #[.int .i64 f, .int .i64 t, .int .i64 mm, .int .i64 0] 54) := ⟨_, rfl⟩
              rw [← hw148] at b0_149 br_150 bt_151 bel_152 cp_153 nb_158
              rw [← hg146] at ne154 ne155 ne156 lb157 nb_158
              rw [← hg146, ← hw148]
              clear hg146 hw148
              refine hK.out _ _ b0_149.out (fun _ => ?_); clear hK K
              try simp only [Act.put, List.setIfInBounds_toArray, List.set_cons_zero, List.set_cons_succ]
              refine wpAnyH_ready (rs := [1]) (by kernel_rfl) (by simp) ?_
              refine AllReadyH.cons (o := { dst := some 37, op := Go.Op.load 22 (Go.Operand.tmp 36), type := 22, pos := "ref.go:116", after := #[{ on := 0, ground := Go.Ground.data }], guard := none }) rfl (fun K hK => ?_) ?_
              · -- 1: load
                have v1 : w147.cell? ⟨w.heap.size + 1 + 1, 1, none⟩ = some (.slice A' n' c') := Blk.cell bt_151.out 1
                go_simp
                clear v1
                refine hK.out _ _ b0_149.out (fun _ => ?_); clear hK K
                try simp only [Act.put, List.setIfInBounds_toArray, List.set_cons_zero, List.set_cons_succ]
                refine wpAnyH_ready (rs := [8]) (by kernel_rfl) (by simp) ?_
                refine AllReadyH.cons (o := { dst := some 44, op := Go.Op.call { callee := Go.Callee.builtin Go.Builtin.append, args := #[Go.Operand.tmp 37, Go.Operand.tmp 43], argTypes := #[22, 22] }, type := 22, pos := "ref.go:116", after := #[{ on := 1, ground := Go.Ground.data }, { on := 7, ground := Go.Ground.data }], guard := none }) rfl (fun K hK => ?_) ?_
                · -- 8: call
                  have hcell := cells_add (cs := bcells [⟨f, t, mm, 0⟩]) (show Blk _ _ _ (bcells [⟨f, t, mm, 0⟩]).toArray from nb_158.out)
                  have hlr := World.ownsRow.lt cp_153.out
                  have hsz := Blk.lt bt_151.out
                  refine wp_append_own _ (.tmp 37) (.tmp 43) 22 rfl (w.heap.size + 1 + 1 + 1) 54 i0 _ 4 32 Try.underlying22 HI.out HZ0.out HZ1.out HZ2.out rfl (by omega) (.slice A' n' c') n' (bcells (onlyL (l.take q) S)) rfl cp_153.out ⟨g145, 0, none⟩ 1 1 (bcells [⟨f, t, mm, 0⟩]) rfl rfl hcell (bcells_one _) (by unfold maxLen; omega) (by omega) (by omega) ?_
                  intro v5 w5 hown5 hg5 _
                  obtain ⟨B5, c5, rfl, -⟩ := own_form hown5
                  have k159 := Lib.hid (blk_grown b0_149.out hg5 (fun e => by have := (hlr _ e).1; omega))
                  have k160 := Lib.hid (blk_grown br_150.out hg5 (fun e => by have := (hlr _ e).1; omega))
                  have k161 := Lib.hid (blk_grown bt_151.out hg5 (fun e => by have := (hlr _ e).1; omega))
                  have k162 := Lib.hid (Below.grown bel_152.out hg5 (Below.size bel_152.out) (fun q e => by have := (hlr q e).1; omega))
                  have HO5 := Lib.hid (show World.ownsRow w5 (w.heap.size + 1 + 1 + 1) 54 4 (.slice B5 (n' + 1) c5) (n' + 1) (bcells (onlyL (l.take q) S ++ [⟨f, t, mm, 0⟩])) from by rw [bcells_append]; exact hown5)
                  clear hown5 hg5 hcell hsz hlr
                  refine hK.out _ _ k159.out (fun _ => ?_); clear hK K
                  try simp only [Act.put, List.setIfInBounds_toArray, List.set_cons_zero, List.set_cons_succ]
                  refine' wpAnyH_take (i := 9) (oi := { dst := some 45, op := Go.Op.fieldAddr 24 (Go.Operand.tmp 5) 1, type := 0, pos := "ref.go:116", after := #[{ on := 0, ground := Go.Ground.phase }, { on := 1, ground := Go.Ground.phase }, { on := 2, ground := Go.Ground.phase }, { on := 3, ground := Go.Ground.phase }, { on := 4, ground := Go.Ground.phase }, { on := 5, ground := Go.Ground.phase }, { on := 6, ground := Go.Ground.phase }, { on := 7, ground := Go.Ground.phase }, { on := 8, ground := Go.Ground.phase }], guard := none }) (v := _) rfl (by kernel_rfl) (by kernel_rfl) (by kernel_rfl) (fun _ _ _ h => h) (Or.inl ⟨by rfl, ?hyR163⟩) k159.out ?reR163
                  case hyR163 => (rintro W' hS0; clear hS0; go_simp; try with_reducible rfl)
                  try simp only [Act.put, List.setIfInBounds_toArray, List.set_cons_zero, List.set_cons_succ]
                  refine wpAnyH_ready (rs := [10]) (by kernel_rfl) (by simp) ?_
                  refine AllReadyH.cons (o := { dst := none, op := Go.Op.store 22 (Go.Operand.tmp 45) (Go.Operand.tmp 44), type := 0, pos := "ref.go:116", after := #[{ on := 9, ground := Go.Ground.data }, { on := 8, ground := Go.Ground.data }, { on := 8, ground := Go.Ground.chain }, { on := 0, ground := Go.Ground.phase }, { on := 1, ground := Go.Ground.phase }, { on := 2, ground := Go.Ground.phase }, { on := 3, ground := Go.Ground.phase }, { on := 4, ground := Go.Ground.phase }, { on := 5, ground := Go.Ground.phase }, { on := 6, ground := Go.Ground.phase }, { on := 7, ground := Go.Ground.phase }, { on := 8, ground := Go.Ground.phase }], guard := none }) rfl (fun K hK => ?_) ?_
                  · -- 10: store
                    have v1 : w5.cell? ⟨w.heap.size + 1 + 1, 1, none⟩ = some (.slice A' n' c') := Blk.cell k161.out 1
                    have f1 : w5.frozen? ⟨w.heap.size + 1 + 1, 1, none⟩ = false := Blk.frozen k161.out 1
                    go_simp
                    have k164 := Lib.hid (Blk.far (k159.out) (p := ⟨w.heap.size + 1 + 1, 1, none⟩) (by simp; try omega) (.slice B5 (n' + 1) c5))
                    have k165 := Lib.hid (Blk.far (k160.out) (p := ⟨w.heap.size + 1 + 1, 1, none⟩) (by simp; try omega) (.slice B5 (n' + 1) c5))
                    have k166 := Lib.hid (Blk.set_ (k161.out) 1 (.slice B5 (n' + 1) c5))
                    have k167 := Lib.hid (Below.setCell (k162.out) (p := ⟨w.heap.size + 1 + 1, 1, none⟩) (by simp; omega) (.slice B5 (n' + 1) c5))
                    have k168 := Lib.hid (ownsRow_setCell_below (HO5.out) (a := ⟨w.heap.size + 1 + 1, 1, none⟩) (by simp) (.slice B5 (n' + 1) c5))
                    obtain ⟨w169, hw170⟩ : ∃ w', w' = w5.setCell ⟨w.heap.size + 1 + 1, 1, none⟩ (.slice B5 (n' + 1) c5) := ⟨_, rfl⟩
                    rw [← hw170] at k164 k165 k166 k167 k168
                    rw [← hw170]
                    clear hw170 v1 f1
                    refine hK.out _ _ k164.out (fun _ => ?_); clear hK K
                    try simp only [Act.put, List.setIfInBounds_toArray, List.set_cons_zero, List.set_cons_succ]
                    refine wpAnyH_done (by kernel_rfl) ?_ _
                    go_wp2
                    go_roundw
                    case rel => exact ⟨q + 1, B5, n' + 1, c5, by omega, by go_num, k166.out, by rw [HYES.out]; exact k168.out, k164.out, k165.out, k167.out⟩
                    case measure => (simp [intOf]; omega)
                  exact AllReadyH.nil
                exact AllReadyH.nil
              exact AllReadyH.nil
            exact AllReadyH.nil
          exact AllReadyH.nil
        · have d1 : (i == 0) = false := beq_eq_false_iff_ne.2 hi0
          have d2 : decide (i = 0) = false := decide_eq_false hi0
          rw [if_neg (by simp only [hin', d2, Bool.or_false]; simp)] at hstep
          have HNO := Lib.hid hstep; clear hstep hin hin'
          go_wp2_with fail
          refine HC.out.mono ?_
          rintro e w5 ⟨rfl, rfl⟩
          clear HC
          go_wp2
          go_roundw
          case rel => exact ⟨q + 1, A', n', c', by omega, by go_num, HBT.out, by rw [HNO.out]; exact HOW.out, HB0.out, HBR.out, HBE.out⟩
          case measure => simp [intOf]; omega
    · obtain rfl : q = n := by omega
      have ho := HOW.out
      rw [List.take_of_length_le (by omega)] at ho
      have HO := Lib.hid ho; clear ho HOW
      have v0 : wr.cell? ⟨w.heap.size + 1, 0, none⟩ = some (.int .i64 0) := Blk.cell HBR.out 0
      have v1 : wr.cell? ⟨w.heap.size + 1, 1, none⟩ = some (.slice none 0 0) := Blk.cell HBR.out 1
      have f0 : wr.frozen? ⟨w.heap.size + 1, 0, none⟩ = false := Blk.frozen HBR.out 0
      have f1 : wr.frozen? ⟨w.heap.size + 1, 1, none⟩ = false := Blk.frozen HBR.out 1
      go_wp2
      refine bodyPost_ret (v := .agg #[.int .i64 p, .slice A' n' c']) (by simp [results, Try.results91, go_sem, v0, v1]) rfl ?_
      refine ⟨A', n', c', rfl, ?_, (HBE.out.setCell (p := ⟨w.heap.size + 1, 0, none⟩) (by simp) _).setCell (p := ⟨w.heap.size + 1, 1, none⟩) (by simp) _⟩
      exact owns_base (ownsRow_setCell_below (ownsRow_setCell_below HO.out (a := ⟨w.heap.size + 1, 0, none⟩) (by simp; try omega) _) (a := ⟨w.heap.size + 1, 1, none⟩) (by simp; try omega) _) (by omega)
end Go.Proofs.Ythlnialipjihdaa
