/- For every system, list of numbers and number GaugeHighest returns true: no solution whose numbers are at most 0 has a greater one than that of Solve, and the same number added to all gives a solution. No condition. -/
import Derived.Test.YthlnialipjihdaaRows
import Derived.Test.YthlnialipjihdaaShz
import Derived.Test.YthlnialipjihdaaSharpM
set_option linter.unusedSimpArgs false
set_option linter.unusedVariables false
namespace Go.Proofs.Ythlnialipjihdaa
open Go.ChangeShapes Go.WideShapes Go.ChangeAt Go.RowKit

/-- The first k numbers with M more. -/
def upL (Z : List Int) (M : Int) (k : Nat) : List Int := (Z.take k).map (· + M) ++ Z.drop k
theorem upL_length (Z : List Int) (M : Int) (k : Nat) : (upL Z M k).length = Z.length := by simp [upL]; omega
theorem upL_zero (Z : List Int) (M : Int) : upL Z M 0 = Z := by simp [upL]
theorem upL_all (Z : List Int) (M : Int) : upL Z M Z.length = Z.map (· + M) := by simp [upL]
theorem upL_at {Z : List Int} {M : Int} {k : Nat} {v : Int} (h : Z[k]? = some v) : (upL Z M k)[k]? = some v := by
  have hk := (List.getElem?_eq_some_iff.1 h).1
  unfold upL
  rw [List.getElem?_append_right (by simp; omega), List.getElem?_drop, List.length_map, List.length_take, show k + (k - min k Z.length) = k from by omega, h]
theorem upL_set {Z : List Int} {M : Int} {k : Nat} {v : Int} (h : Z[k]? = some v) : (upL Z M k).set k (v + M) = upL Z M (k + 1) := by
  have hk := (List.getElem?_eq_some_iff.1 h).1
  have hd : Z.drop k = v :: Z.drop (k + 1) := drop_at h
  unfold upL
  rw [hd, List.set_append_right _ _ (by simp; omega), List.length_map, List.length_take, show k - min k Z.length = 0 from by omega, List.set_cons_zero, List.take_add_one, h]
  simp
theorem upL_setV {Z : List Int} {M : Int} {k : Nat} {v : Int} (h : Z[k]? = some v) : ((upL Z M k).map (Value.int .i64)).set k (.int .i64 (v + M)) = (upL Z M (k + 1)).map (Value.int .i64) := by
  rw [← upL_set h, List.map_set]

/-- With the same number more in all, a solution is kept. -/
theorem up_kept {p : Int} {l : List Bnd} {z : List Int} {M : Int} (hk : chk p l = 0) (hz : settle l p.toNat zeros = some z) (hM : -1000 ≤ M ∧ M ≤ 1000) : keepsV p l ((z.take p.toNat).map (· + M)) = (true, 0) := by
  obtain ⟨hp1, hp2, -, -⟩ := chk_ok hk
  obtain ⟨z1, z2, z3, z4⟩ := sol_spec hk hz
  have he := edges60 hk
  have e : (z.take p.toNat).map (· + M) = (vec (fun v => at_ z v + M)).take p.toNat := by
    apply List.ext_getElem?
    intro i
    by_cases hi : i < p.toNat
    · rw [List.getElem?_map, take_at' z1 hi (by omega), take_at' (vec_length _) hi (by omega), at_vec _ (by omega)]
      rfl
    · rw [List.getElem?_eq_none (by simp; omega), List.getElem?_eq_none (by simp; omega)]
  rw [e]
  refine kept_of hk (vec_length _) (fun c hc => ?_) (fun v hv => ?_)
  · have h1 := z2 c hc
    have h2 := he c hc
    rw [look_eq, look_eq] at h1 ⊢
    rw [at_vec _ (by omega), at_vec _ (by omega)]
    omega
  · rw [at_vec _ hv]
    have := z3 v; have := z4 v
    omega

/-- No solution at most 0 has a greater number. -/
theorem highest {p : Int} {l : List Bnd} {z x : List Int} {q : Int} (hz : settle l p.toNat zeros = some z) (h : keepsV p l x = (true, q)) (hx : ∀ v ∈ x, v ≤ 0) {i : Nat} {v u : Int} (hv : x[i]? = some v) (hu : (z.take p.toNat)[i]? = some u) : v ≤ u := by
  obtain ⟨hk, hn, hst⟩ := kept_spec h
  obtain ⟨hp1, hp2, -, -⟩ := chk_ok hk
  obtain ⟨z1, -⟩ := sol_spec hk hz
  have he := edges60 hk
  obtain ⟨k, -, e, -⟩ := settle_some hz
  have hle : ∀ v, at_ x v ≤ 0 := fun v => by
    by_cases hv : v < x.length
    · exact hx _ (List.mem_of_getElem? (get_at' hv))
    · rw [at_out (by omega)]; exact Int.le_refl _
  have := rounds_ge (l := l) (x := zeros) (y := x) (fun c hc _ => hst c hc) (fun v => by rw [at_zeros]; exact hle v) (fun v => by rw [at_zeros]; unfold Inf; omega) k i
  rw [← e] at this
  have hi : i < p.toNat := by have := (List.getElem?_eq_some_iff.1 hu).1; rw [List.length_take] at this; omega
  rw [take_at' z1 hi (by omega)] at hu
  injection hu with hu
  have : at_ x i = v := by simp [at_, hv]
  omega

theorem own_some {w : World} {base : Nat} {e : TypeId} {size : Nat} {A : Option Addr} {n c m : Nat} {xs : List Value} (h : w.ownsRow base e size (.slice A n c) m xs) (hn : 1 ≤ n) : ∃ g, A = some ⟨g, 0, none⟩ ∧ base ≤ g := by
  rcases h.2 with ⟨h1, _⟩ | ⟨g, cap, cur, h1, hb, _⟩
  · injection h1 with _ h1 _; omega
  · injection h1 with h1 _ _
    exact ⟨g, h1, hb⟩
theorem ints_one (Z : List Int) : ∀ v ∈ Z.map (Value.int .i64), v.oneCell' = true := fun v hv => by
  obtain ⟨z, _, rfl⟩ := List.mem_map.1 hv
  rfl

set_option maxRecDepth 100000 in
set_option maxHeartbeats 4000000 in
theorem hi_w1 (P : Int) (A : Option Addr) (n k : Nat) (l : List Bnd) (w : World) (hr : RdB w A n k l) (hn : n ≤ maxLen) (B : Option Addr) (m d : Nat) (x : List Int) (hx : RdI w B m d x) (hm : m ≤ maxLen) (M : Int) (hw : ¬ n ≤ 403) :
    Calls Try.prog 17 #[.agg #[.int .i64 P, .slice A n k], .slice B m d, .int .i64 M] w fun e w' => e = .returned (.bool true) ∧ Below w.heap.size w w' := by
  go_enter Try.func17, Try.ntmps17
  have bel_1 := Lib.hid (show Below w.heap.size w w from Below.refl _ w)
  have x_2 := Lib.hid (hx)
  clear hx
  have rd_3 := Lib.hid (hr)
  clear hr
  have bel_4 := Lib.hid (Below.alloc bel_1.out (bel_1.out.size) (.cells #[.int .i64 P, .slice A n k] 24))
  clear bel_1
  have x_5 := Lib.hid (RdI.alloc x_2.out (.cells #[.int .i64 P, .slice A n k] 24))
  clear x_2
  have rd_6 := Lib.hid (RdB.alloc rd_3.out (.cells #[.int .i64 P, .slice A n k] 24))
  clear rd_3
  have srd_7 := Lib.hid (Blk.new w 24 #[.int .i64 P, .slice A n k])
  have hc := (show Calls Try.prog 18 #[.agg #[.int .i64 P, .slice A n k]] ((w.alloc (.cells #[.int .i64 P, .slice A n k] 24))) fun e w' => e = .returned (.bool false) ∧ Below ((w.alloc (.cells #[.int .i64 P, .slice A n k] 24))).heap.size ((w.alloc (.cells #[.int .i64 P, .slice A n k] 24))) w' from by have h := wide_any P A n k ((w.alloc (.cells #[.int .i64 P, .slice A n k] 24))); rw [show decide (n ≤ 403) = false from by simpa using hw] at h; exact h)
  have HC := Lib.hid hc; clear hc
  go_wp2_with fail
  refine HC.out.mono ?_
  rintro e w_8 ⟨rfl, hb⟩
  clear HC
  have bel_9 := Lib.hid (Below.trans bel_4.out (Below.mono hb (bel_4.out.size)))
  clear bel_4
  have x_10 := Lib.hid (RdI.below x_5.out hb)
  clear x_5
  have rd_11 := Lib.hid (RdB.below rd_6.out hb)
  clear rd_6
  have srd_12 := Lib.hid (Blk.keep srd_7.out hb)
  clear srd_7
  clear hb
  have z_13 : (w_8).cell? ⟨w.heap.size, 0, none⟩ = some (.int .i64 P) := Blk.cell srd_12.out 0
  have z_14 : (w_8).cell? ⟨w.heap.size, 1, none⟩ = some (.slice A n k) := Blk.cell srd_12.out 1
  go_wp2_with fail
  refine (alive_ok _).mono ?_
  rintro e w_15 ⟨rfl, hb⟩
  clear z_13 z_14
  have bel_16 := Lib.hid (Below.trans bel_9.out (Below.mono hb (bel_9.out.size)))
  clear bel_9
  have x_17 := Lib.hid (RdI.below x_10.out hb)
  clear x_10
  have rd_18 := Lib.hid (RdB.below rd_11.out hb)
  clear rd_11
  have srd_19 := Lib.hid (Blk.keep srd_12.out hb)
  clear srd_12
  clear hb
  go_wp2
  go_ret
  exact ⟨rfl, bel_16.out⟩

set_option maxRecDepth 100000 in
set_option maxHeartbeats 4000000 in
theorem hi_w2 (P : Int) (A : Option Addr) (n k : Nat) (l : List Bnd) (w : World) (hr : RdB w A n k l) (hn : n ≤ maxLen) (B : Option Addr) (m d : Nat) (x : List Int) (hx : RdI w B m d x) (hm : m ≤ maxLen) (M : Int) (hw : n ≤ 403) (h7 : 70 < m) :
    Calls Try.prog 17 #[.agg #[.int .i64 P, .slice A n k], .slice B m d, .int .i64 M] w fun e w' => e = .returned (.bool true) ∧ Below w.heap.size w w' := by
  go_enter Try.func17, Try.ntmps17
  have bel_1 := Lib.hid (show Below w.heap.size w w from Below.refl _ w)
  have x_2 := Lib.hid (hx)
  clear hx
  have rd_3 := Lib.hid (hr)
  clear hr
  have bel_4 := Lib.hid (Below.alloc bel_1.out (bel_1.out.size) (.cells #[.int .i64 P, .slice A n k] 24))
  clear bel_1
  have x_5 := Lib.hid (RdI.alloc x_2.out (.cells #[.int .i64 P, .slice A n k] 24))
  clear x_2
  have rd_6 := Lib.hid (RdB.alloc rd_3.out (.cells #[.int .i64 P, .slice A n k] 24))
  clear rd_3
  have srd_7 := Lib.hid (Blk.new w 24 #[.int .i64 P, .slice A n k])
  have hc := (show Calls Try.prog 18 #[.agg #[.int .i64 P, .slice A n k]] ((w.alloc (.cells #[.int .i64 P, .slice A n k] 24))) fun e w' => e = .returned (.bool true) ∧ Below ((w.alloc (.cells #[.int .i64 P, .slice A n k] 24))).heap.size ((w.alloc (.cells #[.int .i64 P, .slice A n k] 24))) w' from by have h := wide_any P A n k ((w.alloc (.cells #[.int .i64 P, .slice A n k] 24))); rw [show decide (n ≤ 403) = true from by simpa using hw] at h; exact h)
  have HC := Lib.hid hc; clear hc
  go_wp2_with fail
  refine HC.out.mono ?_
  rintro e w_8 ⟨rfl, hb⟩
  clear HC
  have bel_9 := Lib.hid (Below.trans bel_4.out (Below.mono hb (bel_4.out.size)))
  clear bel_4
  have x_10 := Lib.hid (RdI.below x_5.out hb)
  clear x_5
  have rd_11 := Lib.hid (RdB.below rd_6.out hb)
  clear rd_6
  have srd_12 := Lib.hid (Blk.keep srd_7.out hb)
  clear srd_7
  clear hb
  have z_13 : (w_8).cell? ⟨w.heap.size, 0, none⟩ = some (.int .i64 P) := Blk.cell srd_12.out 0
  have z_14 : (w_8).cell? ⟨w.heap.size, 1, none⟩ = some (.slice A n k) := Blk.cell srd_12.out 1
  go_wp2_with fail
  refine (alive_ok _).mono ?_
  rintro e w_15 ⟨rfl, hb⟩
  clear z_13 z_14
  have bel_16 := Lib.hid (Below.trans bel_9.out (Below.mono hb (bel_9.out.size)))
  clear bel_9
  have x_17 := Lib.hid (RdI.below x_10.out hb)
  clear x_10
  have rd_18 := Lib.hid (RdB.below rd_11.out hb)
  clear rd_11
  have srd_19 := Lib.hid (Blk.keep srd_12.out hb)
  clear srd_12
  clear hb
  go_wp2
  go_ret
  exact ⟨rfl, bel_16.out⟩

set_option maxRecDepth 100000 in
set_option maxHeartbeats 4000000 in
theorem hi_w3 (P : Int) (A : Option Addr) (n k : Nat) (l : List Bnd) (w : World) (hr : RdB w A n k l) (hn : n ≤ maxLen) (B : Option Addr) (m d : Nat) (x : List Int) (hx : RdI w B m d x) (hm : m ≤ maxLen) (M : Int) (hw : n ≤ 403) (h7 : m ≤ 70) (h8 : M < -1000) :
    Calls Try.prog 17 #[.agg #[.int .i64 P, .slice A n k], .slice B m d, .int .i64 M] w fun e w' => e = .returned (.bool true) ∧ Below w.heap.size w w' := by
  go_enter Try.func17, Try.ntmps17
  have bel_1 := Lib.hid (show Below w.heap.size w w from Below.refl _ w)
  have x_2 := Lib.hid (hx)
  clear hx
  have rd_3 := Lib.hid (hr)
  clear hr
  have bel_4 := Lib.hid (Below.alloc bel_1.out (bel_1.out.size) (.cells #[.int .i64 P, .slice A n k] 24))
  clear bel_1
  have x_5 := Lib.hid (RdI.alloc x_2.out (.cells #[.int .i64 P, .slice A n k] 24))
  clear x_2
  have rd_6 := Lib.hid (RdB.alloc rd_3.out (.cells #[.int .i64 P, .slice A n k] 24))
  clear rd_3
  have srd_7 := Lib.hid (Blk.new w 24 #[.int .i64 P, .slice A n k])
  have hc := (show Calls Try.prog 18 #[.agg #[.int .i64 P, .slice A n k]] ((w.alloc (.cells #[.int .i64 P, .slice A n k] 24))) fun e w' => e = .returned (.bool true) ∧ Below ((w.alloc (.cells #[.int .i64 P, .slice A n k] 24))).heap.size ((w.alloc (.cells #[.int .i64 P, .slice A n k] 24))) w' from by have h := wide_any P A n k ((w.alloc (.cells #[.int .i64 P, .slice A n k] 24))); rw [show decide (n ≤ 403) = true from by simpa using hw] at h; exact h)
  have HC := Lib.hid hc; clear hc
  go_wp2_with fail
  refine HC.out.mono ?_
  rintro e w_8 ⟨rfl, hb⟩
  clear HC
  have bel_9 := Lib.hid (Below.trans bel_4.out (Below.mono hb (bel_4.out.size)))
  clear bel_4
  have x_10 := Lib.hid (RdI.below x_5.out hb)
  clear x_5
  have rd_11 := Lib.hid (RdB.below rd_6.out hb)
  clear rd_6
  have srd_12 := Lib.hid (Blk.keep srd_7.out hb)
  clear srd_7
  clear hb
  have z_13 : (w_8).cell? ⟨w.heap.size, 0, none⟩ = some (.int .i64 P) := Blk.cell srd_12.out 0
  have z_14 : (w_8).cell? ⟨w.heap.size, 1, none⟩ = some (.slice A n k) := Blk.cell srd_12.out 1
  go_wp2_with fail
  refine (alive_ok _).mono ?_
  rintro e w_15 ⟨rfl, hb⟩
  clear z_13 z_14
  have bel_16 := Lib.hid (Below.trans bel_9.out (Below.mono hb (bel_9.out.size)))
  clear bel_9
  have x_17 := Lib.hid (RdI.below x_10.out hb)
  clear x_10
  have rd_18 := Lib.hid (RdB.below rd_11.out hb)
  clear rd_11
  have srd_19 := Lib.hid (Blk.keep srd_12.out hb)
  clear srd_12
  clear hb
  go_wp2
  go_ret
  exact ⟨rfl, bel_16.out⟩

set_option maxRecDepth 100000 in
set_option maxHeartbeats 4000000 in
theorem hi_w4 (P : Int) (A : Option Addr) (n k : Nat) (l : List Bnd) (w : World) (hr : RdB w A n k l) (hn : n ≤ maxLen) (B : Option Addr) (m d : Nat) (x : List Int) (hx : RdI w B m d x) (hm : m ≤ maxLen) (M : Int) (hw : n ≤ 403) (h7 : m ≤ 70) (h8 : -1000 ≤ M) (h9 : 1000 < M) :
    Calls Try.prog 17 #[.agg #[.int .i64 P, .slice A n k], .slice B m d, .int .i64 M] w fun e w' => e = .returned (.bool true) ∧ Below w.heap.size w w' := by
  go_enter Try.func17, Try.ntmps17
  have bel_1 := Lib.hid (show Below w.heap.size w w from Below.refl _ w)
  have x_2 := Lib.hid (hx)
  clear hx
  have rd_3 := Lib.hid (hr)
  clear hr
  have bel_4 := Lib.hid (Below.alloc bel_1.out (bel_1.out.size) (.cells #[.int .i64 P, .slice A n k] 24))
  clear bel_1
  have x_5 := Lib.hid (RdI.alloc x_2.out (.cells #[.int .i64 P, .slice A n k] 24))
  clear x_2
  have rd_6 := Lib.hid (RdB.alloc rd_3.out (.cells #[.int .i64 P, .slice A n k] 24))
  clear rd_3
  have srd_7 := Lib.hid (Blk.new w 24 #[.int .i64 P, .slice A n k])
  have hc := (show Calls Try.prog 18 #[.agg #[.int .i64 P, .slice A n k]] ((w.alloc (.cells #[.int .i64 P, .slice A n k] 24))) fun e w' => e = .returned (.bool true) ∧ Below ((w.alloc (.cells #[.int .i64 P, .slice A n k] 24))).heap.size ((w.alloc (.cells #[.int .i64 P, .slice A n k] 24))) w' from by have h := wide_any P A n k ((w.alloc (.cells #[.int .i64 P, .slice A n k] 24))); rw [show decide (n ≤ 403) = true from by simpa using hw] at h; exact h)
  have HC := Lib.hid hc; clear hc
  go_wp2_with fail
  refine HC.out.mono ?_
  rintro e w_8 ⟨rfl, hb⟩
  clear HC
  have bel_9 := Lib.hid (Below.trans bel_4.out (Below.mono hb (bel_4.out.size)))
  clear bel_4
  have x_10 := Lib.hid (RdI.below x_5.out hb)
  clear x_5
  have rd_11 := Lib.hid (RdB.below rd_6.out hb)
  clear rd_6
  have srd_12 := Lib.hid (Blk.keep srd_7.out hb)
  clear srd_7
  clear hb
  have z_13 : (w_8).cell? ⟨w.heap.size, 0, none⟩ = some (.int .i64 P) := Blk.cell srd_12.out 0
  have z_14 : (w_8).cell? ⟨w.heap.size, 1, none⟩ = some (.slice A n k) := Blk.cell srd_12.out 1
  go_wp2_with fail
  refine (alive_ok _).mono ?_
  rintro e w_15 ⟨rfl, hb⟩
  clear z_13 z_14
  have bel_16 := Lib.hid (Below.trans bel_9.out (Below.mono hb (bel_9.out.size)))
  clear bel_9
  have x_17 := Lib.hid (RdI.below x_10.out hb)
  clear x_10
  have rd_18 := Lib.hid (RdB.below rd_11.out hb)
  clear rd_11
  have srd_19 := Lib.hid (Blk.keep srd_12.out hb)
  clear srd_12
  clear hb
  go_wp2
  go_ret
  exact ⟨rfl, bel_16.out⟩

set_option maxRecDepth 100000 in
set_option maxHeartbeats 4000000 in
theorem hi_err (P : Int) (A : Option Addr) (n k : Nat) (l : List Bnd) (w : World) (hr : RdB w A n k l) (hn : n ≤ maxLen) (B : Option Addr) (m d : Nat) (x : List Int) (hx : RdI w B m d x) (hm : m ≤ maxLen) (M : Int) (hw : n ≤ 403) (h7 : m ≤ 70) (h8 : -1000 ≤ M) (h9 : M ≤ 1000) (q : Int) (hq : (q != 0) = true) (E1 : Hid (solveV P l = ([], false, q))) :
    Calls Try.prog 17 #[.agg #[.int .i64 P, .slice A n k], .slice B m d, .int .i64 M] w fun e w' => e = .returned (.bool true) ∧ Below w.heap.size w w' := by
  go_enter Try.func17, Try.ntmps17
  have bel_1 := Lib.hid (show Below w.heap.size w w from Below.refl _ w)
  have x_2 := Lib.hid (hx)
  clear hx
  have rd_3 := Lib.hid (hr)
  clear hr
  have bel_4 := Lib.hid (Below.alloc bel_1.out (bel_1.out.size) (.cells #[.int .i64 P, .slice A n k] 24))
  clear bel_1
  have x_5 := Lib.hid (RdI.alloc x_2.out (.cells #[.int .i64 P, .slice A n k] 24))
  clear x_2
  have rd_6 := Lib.hid (RdB.alloc rd_3.out (.cells #[.int .i64 P, .slice A n k] 24))
  clear rd_3
  have srd_7 := Lib.hid (Blk.new w 24 #[.int .i64 P, .slice A n k])
  have hc := (show Calls Try.prog 18 #[.agg #[.int .i64 P, .slice A n k]] ((w.alloc (.cells #[.int .i64 P, .slice A n k] 24))) fun e w' => e = .returned (.bool true) ∧ Below ((w.alloc (.cells #[.int .i64 P, .slice A n k] 24))).heap.size ((w.alloc (.cells #[.int .i64 P, .slice A n k] 24))) w' from by have h := wide_any P A n k ((w.alloc (.cells #[.int .i64 P, .slice A n k] 24))); rw [show decide (n ≤ 403) = true from by simpa using hw] at h; exact h)
  have HC := Lib.hid hc; clear hc
  go_wp2_with fail
  refine HC.out.mono ?_
  rintro e w_8 ⟨rfl, hb⟩
  clear HC
  have bel_9 := Lib.hid (Below.trans bel_4.out (Below.mono hb (bel_4.out.size)))
  clear bel_4
  have x_10 := Lib.hid (RdI.below x_5.out hb)
  clear x_5
  have rd_11 := Lib.hid (RdB.below rd_6.out hb)
  clear rd_6
  have srd_12 := Lib.hid (Blk.keep srd_7.out hb)
  clear srd_7
  clear hb
  have z_13 : (w_8).cell? ⟨w.heap.size, 0, none⟩ = some (.int .i64 P) := Blk.cell srd_12.out 0
  have z_14 : (w_8).cell? ⟨w.heap.size, 1, none⟩ = some (.slice A n k) := Blk.cell srd_12.out 1
  have hc := Solve_any P A n k l _ rd_11.out hn
  rw [E1.out] at hc
  unfold RetI at hc; dsimp only at hc
  have HC := Lib.hid hc; clear hc
  go_wp2_with fail
  refine HC.out.mono ?_
  rintro e w_15 ⟨Az, nz, cz, rfl, ho, hb⟩
  clear HC
  clear z_13 z_14
  have bel_16 := Lib.hid (Below.trans bel_9.out (Below.mono hb (bel_9.out.size)))
  clear bel_9
  have x_17 := Lib.hid (RdI.below x_10.out hb)
  clear x_10
  have rd_18 := Lib.hid (RdB.below rd_11.out hb)
  clear rd_11
  have srd_19 := Lib.hid (Blk.keep srd_12.out hb)
  clear srd_12
  have z_20 := Lib.hid ((OwnI.rd ho).1)
  obtain rfl : nz = 0 := z_20.out.len.symm
  clear ho hb
  have z_21 : (w_15).cell? ⟨w.heap.size, 0, none⟩ = some (.int .i64 P) := Blk.cell srd_19.out 0
  have z_22 : (w_15).cell? ⟨w.heap.size, 1, none⟩ = some (.slice A n k) := Blk.cell srd_19.out 1
  go_wp2_with fail
  refine (alive_ok _).mono ?_
  rintro e w_23 ⟨rfl, hb⟩
  clear z_21 z_22
  have bel_24 := Lib.hid (Below.trans bel_16.out (Below.mono hb (bel_16.out.size)))
  clear bel_16
  have x_25 := Lib.hid (RdI.below x_17.out hb)
  clear x_17
  have rd_26 := Lib.hid (RdB.below rd_18.out hb)
  clear rd_18
  have srd_27 := Lib.hid (Blk.keep srd_19.out hb)
  clear srd_19
  have z_28 := Lib.hid (RdI.below z_20.out hb)
  clear z_20
  clear hb
  go_wp2
  go_ret
  exact ⟨rfl, bel_24.out⟩

set_option maxRecDepth 100000 in
set_option maxHeartbeats 4000000 in
theorem hi_no (P : Int) (A : Option Addr) (n k : Nat) (l : List Bnd) (w : World) (hr : RdB w A n k l) (hn : n ≤ maxLen) (B : Option Addr) (m d : Nat) (x : List Int) (hx : RdI w B m d x) (hm : m ≤ maxLen) (M : Int) (hw : n ≤ 403) (h7 : m ≤ 70) (h8 : -1000 ≤ M) (h9 : M ≤ 1000) (E1 : Hid (solveV P l = ([], false, 0))) :
    Calls Try.prog 17 #[.agg #[.int .i64 P, .slice A n k], .slice B m d, .int .i64 M] w fun e w' => e = .returned (.bool true) ∧ Below w.heap.size w w' := by
  go_enter Try.func17, Try.ntmps17
  have bel_1 := Lib.hid (show Below w.heap.size w w from Below.refl _ w)
  have x_2 := Lib.hid (hx)
  clear hx
  have rd_3 := Lib.hid (hr)
  clear hr
  have bel_4 := Lib.hid (Below.alloc bel_1.out (bel_1.out.size) (.cells #[.int .i64 P, .slice A n k] 24))
  clear bel_1
  have x_5 := Lib.hid (RdI.alloc x_2.out (.cells #[.int .i64 P, .slice A n k] 24))
  clear x_2
  have rd_6 := Lib.hid (RdB.alloc rd_3.out (.cells #[.int .i64 P, .slice A n k] 24))
  clear rd_3
  have srd_7 := Lib.hid (Blk.new w 24 #[.int .i64 P, .slice A n k])
  have hc := (show Calls Try.prog 18 #[.agg #[.int .i64 P, .slice A n k]] ((w.alloc (.cells #[.int .i64 P, .slice A n k] 24))) fun e w' => e = .returned (.bool true) ∧ Below ((w.alloc (.cells #[.int .i64 P, .slice A n k] 24))).heap.size ((w.alloc (.cells #[.int .i64 P, .slice A n k] 24))) w' from by have h := wide_any P A n k ((w.alloc (.cells #[.int .i64 P, .slice A n k] 24))); rw [show decide (n ≤ 403) = true from by simpa using hw] at h; exact h)
  have HC := Lib.hid hc; clear hc
  go_wp2_with fail
  refine HC.out.mono ?_
  rintro e w_8 ⟨rfl, hb⟩
  clear HC
  have bel_9 := Lib.hid (Below.trans bel_4.out (Below.mono hb (bel_4.out.size)))
  clear bel_4
  have x_10 := Lib.hid (RdI.below x_5.out hb)
  clear x_5
  have rd_11 := Lib.hid (RdB.below rd_6.out hb)
  clear rd_6
  have srd_12 := Lib.hid (Blk.keep srd_7.out hb)
  clear srd_7
  clear hb
  have z_13 : (w_8).cell? ⟨w.heap.size, 0, none⟩ = some (.int .i64 P) := Blk.cell srd_12.out 0
  have z_14 : (w_8).cell? ⟨w.heap.size, 1, none⟩ = some (.slice A n k) := Blk.cell srd_12.out 1
  have hc := Solve_any P A n k l _ rd_11.out hn
  rw [E1.out] at hc
  unfold RetI at hc; dsimp only at hc
  have HC := Lib.hid hc; clear hc
  go_wp2_with fail
  refine HC.out.mono ?_
  rintro e w_15 ⟨Az, nz, cz, rfl, ho, hb⟩
  clear HC
  clear z_13 z_14
  have bel_16 := Lib.hid (Below.trans bel_9.out (Below.mono hb (bel_9.out.size)))
  clear bel_9
  have x_17 := Lib.hid (RdI.below x_10.out hb)
  clear x_10
  have rd_18 := Lib.hid (RdB.below rd_11.out hb)
  clear rd_11
  have srd_19 := Lib.hid (Blk.keep srd_12.out hb)
  clear srd_12
  have z_20 := Lib.hid ((OwnI.rd ho).1)
  obtain rfl : nz = 0 := z_20.out.len.symm
  clear ho hb
  have z_21 : (w_15).cell? ⟨w.heap.size, 0, none⟩ = some (.int .i64 P) := Blk.cell srd_19.out 0
  have z_22 : (w_15).cell? ⟨w.heap.size, 1, none⟩ = some (.slice A n k) := Blk.cell srd_19.out 1
  go_wp2_with fail
  refine (alive_ok _).mono ?_
  rintro e w_23 ⟨rfl, hb⟩
  clear z_21 z_22
  have bel_24 := Lib.hid (Below.trans bel_16.out (Below.mono hb (bel_16.out.size)))
  clear bel_16
  have x_25 := Lib.hid (RdI.below x_17.out hb)
  clear x_17
  have rd_26 := Lib.hid (RdB.below rd_18.out hb)
  clear rd_18
  have srd_27 := Lib.hid (Blk.keep srd_19.out hb)
  clear srd_19
  have z_28 := Lib.hid (RdI.below z_20.out hb)
  clear z_20
  clear hb
  go_wp2
  go_ret
  exact ⟨rfl, bel_24.out⟩

set_option maxRecDepth 100000 in
set_option maxHeartbeats 4000000 in
theorem hi_ok (p : Nat) (A : Option Addr) (n kk_ : Nat) (l : List Bnd) (w : World) (hr : RdB w A n kk_ l) (hn : n ≤ maxLen) (B : Option Addr) (m d : Nat) (x : List Int) (hx : RdI w B m d x) (hm : m ≤ maxLen) (M : Int) (hw : n ≤ 403) (h7 : m ≤ 70) (h8 : -1000 ≤ M) (h9 : M ≤ 1000) (Z : List Int) (hZ : Z.length = p) (hp1 : 1 ≤ p) (hp : p ≤ 60) (hz : ∀ (i : Nat) (v : Int), Z[i]? = some v → v ≤ 0 ∧ -100000000 ≤ v)
    (E1 : Hid (solveV p l = (Z, true, 0))) (E2 : Hid (keepsV p l (Z.map (· + M)) = (true, 0))) (kv : Bool) (q : Int) (hq : q = 0 ∨ q = 1) (E3 : Hid (keepsV p l x = (kv, q))) (H : Hid (q = 0 → kv = true → (∀ v ∈ x, v ≤ 0) → x.length = p ∧ ∀ (i : Nat) (v u : Int), x[i]? = some v → Z[i]? = some u → v ≤ u)) :
    Calls Try.prog 17 #[.agg #[.int .i64 (p : Int), .slice A n kk_], .slice B m d, .int .i64 M] w fun e w' => e = .returned (.bool true) ∧ Below w.heap.size w w' := by
  go_enter Try.func17, Try.ntmps17
  have bel_1 := Lib.hid (show Below w.heap.size w w from Below.refl _ w)
  have x_2 := Lib.hid (hx)
  clear hx
  have rd_3 := Lib.hid (hr)
  clear hr
  have bel_4 := Lib.hid (Below.alloc bel_1.out (bel_1.out.size) (.cells #[.int .i64 (p : Int), .slice A n kk_] 24))
  clear bel_1
  have x_5 := Lib.hid (RdI.alloc x_2.out (.cells #[.int .i64 (p : Int), .slice A n kk_] 24))
  clear x_2
  have rd_6 := Lib.hid (RdB.alloc rd_3.out (.cells #[.int .i64 (p : Int), .slice A n kk_] 24))
  clear rd_3
  have srd_7 := Lib.hid (Blk.new w 24 #[.int .i64 (p : Int), .slice A n kk_])
  have hc := (show Calls Try.prog 18 #[.agg #[.int .i64 (p : Int), .slice A n kk_]] ((w.alloc (.cells #[.int .i64 (p : Int), .slice A n kk_] 24))) fun e w' => e = .returned (.bool true) ∧ Below ((w.alloc (.cells #[.int .i64 (p : Int), .slice A n kk_] 24))).heap.size ((w.alloc (.cells #[.int .i64 (p : Int), .slice A n kk_] 24))) w' from by have h := wide_any (p : Int) A n kk_ ((w.alloc (.cells #[.int .i64 (p : Int), .slice A n kk_] 24))); rw [show decide (n ≤ 403) = true from by simpa using hw] at h; exact h)
  have HC := Lib.hid hc; clear hc
  go_wp2_with fail
  refine HC.out.mono ?_
  rintro e w_8 ⟨rfl, hb⟩
  clear HC
  have bel_9 := Lib.hid (Below.trans bel_4.out (Below.mono hb (bel_4.out.size)))
  clear bel_4
  have x_10 := Lib.hid (RdI.below x_5.out hb)
  clear x_5
  have rd_11 := Lib.hid (RdB.below rd_6.out hb)
  clear rd_6
  have srd_12 := Lib.hid (Blk.keep srd_7.out hb)
  clear srd_7
  clear hb
  have z_13 : (w_8).cell? ⟨w.heap.size, 0, none⟩ = some (.int .i64 (p : Int)) := Blk.cell srd_12.out 0
  have z_14 : (w_8).cell? ⟨w.heap.size, 1, none⟩ = some (.slice A n kk_) := Blk.cell srd_12.out 1
  have hc := Solve_any (p : Int) A n kk_ l _ rd_11.out hn
  rw [E1.out] at hc
  unfold RetI at hc; dsimp only at hc
  have HC := Lib.hid hc; clear hc
  go_wp2_with fail
  refine HC.out.mono ?_
  rintro e w_15 ⟨Az, nz, cz, rfl, ho, hb⟩
  clear HC
  clear z_13 z_14
  have bel_16 := Lib.hid (Below.trans bel_9.out (Below.mono hb (bel_9.out.size)))
  clear bel_9
  have x_17 := Lib.hid (RdI.below x_10.out hb)
  clear x_10
  have rd_18 := Lib.hid (RdB.below rd_11.out hb)
  clear rd_11
  have srd_19 := Lib.hid (Blk.keep srd_12.out hb)
  clear srd_12
  have z_20 := Lib.hid ((OwnI.rd ho).1)
  obtain rfl : p = nz := (z_20.out.len.symm.trans (hZ)).symm
  clear ho hb
  have z_21 : (w_15).cell? ⟨w.heap.size, 0, none⟩ = some (.int .i64 (p : Int)) := Blk.cell srd_19.out 0
  have z_22 : (w_15).cell? ⟨w.heap.size, 1, none⟩ = some (.slice A n kk_) := Blk.cell srd_19.out 1
  clear z_21 z_22
  obtain ⟨v0_, hv0_⟩ : ∃ v, Z[0]? = some v := ⟨Z[0]'(by omega), List.getElem?_eq_getElem _⟩
  obtain ⟨bz, oz, hAz⟩ := rdI_some z_20.out hv0_
  subst hAz
  clear hv0_
  obtain ⟨i0, hi0, hz0, hz1, hz2⟩ := info_parts infoI
  have hown : (w_15.alloc (.cells #[] 3)).ownsRow w_15.heap.size 3 1 (.slice (some ⟨w_15.heap.size, 0, none⟩) 0 0) 0 [] := World.ownsRow_lit w_15 #[] 0 (Nat.le_refl _) (by unfold maxLen; omega) rfl
  have hb0 : Below w_15.heap.size w_15 (w_15.alloc (.cells #[] 3)) := (Below.refl _ w_15).alloc (Nat.le_refl _) _
  have hz_ := RdI.below z_20.out hb0
  have HO := Lib.hid hown; have HL := Lib.hid hz_; have HB := Lib.hid hb0; clear hown hz_ hb0
  have HI := Lib.hid hi0; have HZ0 := Lib.hid hz0; have HZ1 := Lib.hid hz1; have HZ2 := Lib.hid hz2; clear hi0 hz0 hz1 hz2
  go_wp2_with (at_builtin; refine wpList_append_own _ rfl (.tmp 48) (.tmp 49) 33 rfl w_15.heap.size 3 i0 _ 1 8 Try.underlying33 HI.out HZ0.out HZ1.out HZ2.out rfl (by omega) _ 0 [] rfl HO.out ⟨bz, oz, none⟩ p cz (Z.map (Value.int .i64)) rfl (by rw [List.length_map, HL.out.len, Nat.mul_one]) (HL.out.cells.hc _ rfl) (ints_one Z) (by unfold maxLen; omega) (by omega) (by simp) ?_; intro v' w' hown' hg' _; rw [Nat.zero_add, List.nil_append] at hown'; obtain ⟨B', d', rfl, -⟩ := own_form hown'; have HO' := Lib.hid hown'; have HG' := Lib.hid hg'; clear hown' hg')
  have hB : Below w_15.heap.size w_15 w' := HB.out.grown HG'.out (by simp) (fun k e => by cases e; exact Nat.le_refl _)
  obtain ⟨g, hgB, hgb⟩ : ∃ g, B' = some ⟨g, 0, none⟩ ∧ w_15.heap.size ≤ g := own_some HO'.out (by omega)
  subst hgB
  have HB2 := Lib.hid hB; clear hB HB HL HO HG'
  go_loopw [53] (fun i wr => ∃ k : Nat, k ≤ p ∧ i = .int .i64 k ∧ wr.ownsRow w_15.heap.size 3 1 (.slice (some ⟨g, 0, none⟩) p d') p ((upL Z M k).map (Value.int .i64)) ∧ Below w_15.heap.size w_15 wr) (fun i _ => p - (intOf i).toNat)
  case atStart => exact ⟨0, Nat.zero_le _, rfl, by rw [upL_zero]; exact HO'.out, HB2.out⟩
  case round =>
    clear HO' HB2
    obtain ⟨k, hk, rfl, ho, hb⟩ := hrel
    have HO := Lib.hid ho; have HB := Lib.hid hb; clear ho hb
    by_cases hlt : k < p
    · have hlt' : (k : Int) < p := by omega
      obtain ⟨v, hv⟩ : ∃ v, Z[k]? = some v := ⟨Z[k]'(by omega), List.getElem?_eq_getElem _⟩
      obtain ⟨hv1, hv2⟩ := hz _ _ hv
      have u0 : wr.cell? ⟨g, k, none⟩ = some (.int .i64 v) := (World.ownsRow.cellAt HO.out k (by omega)).trans (by rw [List.getElem?_map, upL_at hv]; rfl)
      have f0 : wr.frozen? ⟨g, k, none⟩ = false := World.ownsRow.frozenAt HO.out k
      have hgt : decide (0 < v) = false := decide_eq_false (by omega)
      have hst := (World.ownsRow.stored HO.out k (.int .i64 (v + M))).1
      rw [upL_setV hv] at hst
      have HST := Lib.hid hst; clear hst hv
      go_wp2
      go_roundw
      case rel => exact ⟨k + 1, by omega, by go_num, HST.out, HB.out.setCell (by simpa using hgb) _⟩
      case measure => simp [intOf]; omega
    · obtain rfl : k = p := by omega
      have ho := HO.out
      rw [show k = Z.length from hZ.symm, upL_all] at ho
      rw [hZ] at ho
      have hh := (OwnI.rd (show OwnI wr w_15.heap.size (some ⟨g, 0, none⟩) k d' (Z.map (· + M)) from ho)).1
      have y0 : wr.cell? ⟨w.heap.size, 0, none⟩ = some (.int .i64 (k : Int)) := Blk.cell (Blk.keep srd_19.out HB.out) 0
      have y1 : wr.cell? ⟨w.heap.size, 1, none⟩ = some (.slice A n (kk_)) := Blk.cell (Blk.keep srd_19.out HB.out) 1
      have hc := Keeps_any k A (some ⟨g, 0, none⟩) n kk_ k d' l (Z.map (· + M)) wr (RdB.below rd_18.out HB.out) hn hh (by unfold maxLen; omega)
      rw [E2.out] at hc; dsimp only at hc
      have HC := Lib.hid hc; clear hc hh ho
      go_wp2_with fail
      refine HC.out.mono ?_
      rintro e w5 ⟨rfl, hb5⟩
      clear HC y0 y1
      have hB5 := HB.out.trans (hb5.mono HB.out.size)
      have HB5 := Lib.hid hB5; clear hB5 hb5 HB HO
      have y0 : w5.cell? ⟨w.heap.size, 0, none⟩ = some (.int .i64 (k : Int)) := Blk.cell (Blk.keep srd_19.out HB5.out) 0
      have y1 : w5.cell? ⟨w.heap.size, 1, none⟩ = some (.slice A n (kk_)) := Blk.cell (Blk.keep srd_19.out HB5.out) 1
      have hc := Keeps_any k A B n kk_ m d l x w5 (RdB.below rd_18.out HB5.out) hn (RdI.below x_17.out HB5.out) hm
      rw [E3.out] at hc; dsimp only at hc
      have HC := Lib.hid hc; clear hc
      go_wp2_with fail
      refine HC.out.mono ?_
      rintro e w6 ⟨rfl, hb6⟩
      clear HC y0 y1
      have hB6 := HB5.out.trans (hb6.mono HB5.out.size)
      have HB6 := Lib.hid hB6; clear hB6 hb6 HB5
      go_wp2
      go_loopw [89, 14] (fun i kv_ wr => ∃ j : Nat, j ≤ m ∧ i = .int .i64 j ∧ kv_ = .bool (kv && (x.take j).all (fun v => decide (v ≤ 0))) ∧ Below w_15.heap.size w_15 wr) (fun i _ _ => m - (intOf i).toNat)
      case atStart => exact ⟨0, Nat.zero_le _, rfl, by simp, HB6.out⟩
      case round =>
        clear HB6
        obtain ⟨j, hj, rfl, rfl, hb⟩ := hrel
        have HB := Lib.hid hb; clear hb
        have hxw := RdI.below x_17.out HB.out
        have hxl := hxw.len
        have HX := Lib.hid hxw; clear hxw
        by_cases hlt : j < m
        · have hlt' : (j : Int) < m := by omega
          obtain ⟨v, hv⟩ : ∃ v, x[j]? = some v := ⟨x[j]'(by omega), List.getElem?_eq_getElem _⟩
          have hall : (x.take (j + 1)).all (fun v => decide (v ≤ 0)) = ((x.take j).all (fun v => decide (v ≤ 0)) && decide (v ≤ 0)) := by rw [List.take_add_one, hv]; simp
          have HALL := Lib.hid hall; clear hall
          generalize hkap : (kv && (x.take j).all (fun v => decide (v ≤ 0))) = kap at *
          have HK := Lib.hid hkap; clear hkap
          obtain ⟨bx, ox, hBx⟩ := rdI_some HX.out hv
          subst hBx
          obtain ⟨ca, cl⟩ := rdI_at HX.out hv
          clear hv
          cases kap
          · go_wp2
            go_roundw
            case rel => exact ⟨j + 1, by omega, by go_num, by rw [HALL.out, ← Bool.and_assoc, HK.out, Bool.false_and], HB.out⟩
            case measure => simp [intOf]; omega
          · by_cases hv0 : v ≤ 0
            · have hd0 : decide (v ≤ 0) = true := decide_eq_true hv0
              go_wp2
              go_roundw
              case rel => exact ⟨j + 1, by omega, by go_num, by rw [HALL.out, ← Bool.and_assoc, HK.out, hd0]; rfl, HB.out⟩
              case measure => simp [intOf]; omega
            · have hd0 : decide (v ≤ 0) = false := decide_eq_false hv0
              go_wp2
              go_roundw
              case rel => exact ⟨j + 1, by omega, by go_num, by rw [HALL.out, ← Bool.and_assoc, HK.out, hd0]; rfl, HB.out⟩
              case measure => simp [intOf]; omega
        · obtain rfl : j = m := by omega
          have htk : x.take j = x := List.take_of_length_le (by omega)
          rw [htk]
          have hf : q = 0 → (kv && x.all (fun v => decide (v ≤ 0))) = true → x.length = k ∧ ∀ (i : Nat) (v u : Int), x[i]? = some v → Z[i]? = some u → v ≤ u := fun h1 h2 => by
            rw [Bool.and_eq_true, List.all_eq_true] at h2
            exact H.out h1 h2.1 (fun v hv => of_decide_eq_true (h2.2 v hv))
          have HF := Lib.hid hf; clear hf htk
          generalize (kv && x.all (fun v => decide (v ≤ 0))) = kap at *
          go_wp2
          go_loopw [17] (fun i wr => ∃ t : Nat, t ≤ j ∧ i = .int .i64 t ∧ Below w_15.heap.size w_15 wr) (fun i _ => j - (intOf i).toNat)
          case atStart => exact ⟨0, Nat.zero_le _, rfl, HB.out⟩
          case round =>
            clear HB HX
            obtain ⟨t, ht, rfl, hb⟩ := hrel
            have HB := Lib.hid hb; clear hb
            rcases hq with rfl | rfl
            · cases kap
              · go_wp2_with fail
                refine (alive_ok _).mono ?_
                rintro e w9 ⟨rfl, hb9⟩
                go_wp2
                go_ret
                exact ⟨rfl, Below.trans bel_16.out (Below.mono (HB.out.trans (hb9.mono HB.out.size)) bel_16.out.size)⟩
              · by_cases hlt : t < j
                · have hlt' : (t : Int) < j := by omega
                  obtain ⟨g1, g2⟩ := HF.out rfl rfl
                  obtain ⟨v, hv⟩ : ∃ v, x[t]? = some v := ⟨x[t]'(by omega), List.getElem?_eq_getElem _⟩
                  obtain ⟨u, hu⟩ : ∃ u, Z[t]? = some u := ⟨Z[t]'(by omega), List.getElem?_eq_getElem _⟩
                  have hvu := g2 t v u hv hu
                  have hgt : decide (u < v) = false := decide_eq_false (by omega)
                  have hxw := RdI.below x_17.out HB.out
                  obtain ⟨bx, ox, hBx⟩ := rdI_some hxw hv
                  subst hBx
                  obtain ⟨ca, cl⟩ := rdI_at hxw hv
                  obtain ⟨cb, cm⟩ := rdI_at (RdI.below z_20.out HB.out) hu
                  clear hxw g2 hv hu hvu
                  go_wp2_with fail
                  go_quiet (fail)
                  go_wp2
                  go_roundw
                  case rel => exact ⟨t + 1, by omega, by go_num, bdN HB.out _⟩
                  case measure => simp [intOf]; omega
                · obtain rfl : t = j := by omega
                  go_wp2_with fail
                  refine (alive_ok _).mono ?_
                  rintro e w9 ⟨rfl, hb9⟩
                  go_wp2
                  go_ret
                  exact ⟨rfl, Below.trans bel_16.out (Below.mono (HB.out.trans (hb9.mono HB.out.size)) bel_16.out.size)⟩
            · skip
              go_wp2_with fail
              refine (alive_ok _).mono ?_
              rintro e w9 ⟨rfl, hb9⟩
              go_wp2
              go_ret
              exact ⟨rfl, Below.trans bel_16.out (Below.mono (HB.out.trans (hb9.mono HB.out.size)) bel_16.out.size)⟩

theorem hi_walk (w : World) (P : Int) (A : Option Addr) (n k : Nat) (l : List Bnd) (_ : (Lit.int .i64 P).wf = true) (hr : RdB w A n k l) (hn : n ≤ maxLen) (B : Option Addr) (m d : Nat) (x : List Int) (hx : RdI w B m d x) (hm : m ≤ maxLen) (_ : ∀ v ∈ x, (Lit.int .i64 v).wf = true) (M : Int) (_ : (Lit.int .i64 M).wf = true) :
    Calls Try.prog 17 #[.agg #[.int .i64 P, .slice A n k], .slice B m d, .int .i64 M] w fun e w' => e = .returned (.bool true) ∧ Below w.heap.size w w' := by
  by_cases hw : n ≤ 403
  · by_cases h7 : m ≤ 70
    · by_cases h8 : -1000 ≤ M
      · by_cases h9 : M ≤ 1000
        · by_cases hg : gcode P l [] = 0
          · obtain ⟨hk, -⟩ := gcode_ok hg
            obtain ⟨hp1, hp2, -, -⟩ := chk_ok hk
            cases hz : settle l P.toNat zeros with
            | some z =>
              obtain ⟨z1, z2, z3, z4⟩ := sol_spec hk hz
              obtain ⟨p, rfl⟩ := Int.eq_ofNat_of_zero_le (show 0 ≤ P by omega)
              have e2 := up_kept hk hz ⟨h8, h9⟩
              have hh := fun q h hx i v u hv hu => highest (q := q) (x := x) (i := i) (v := v) (u := u) hz h hx hv hu
              rw [Int.toNat_natCast] at hz e2 hh
              refine hi_ok p A n k l w hr hn B m d x hx hm M hw h7 h8 h9 (z.take p) (by rw [List.length_take]; omega) (by omega) (by omega) (fun i v hv => ?_) (Lib.hid (by unfold solveV; rw [if_pos hg, Int.toNat_natCast, hz])) (Lib.hid e2) (keepsV p l x).1 (keepsV p l x).2 (keeps_code2 hk) (Lib.hid rfl) (Lib.hid fun h1 h2 h3 => ?_)
              · have hi : i < p := by have := (List.getElem?_eq_some_iff.1 hv).1; rw [List.length_take] at this; omega
                rw [take_at' z1 hi (by omega)] at hv
                injection hv with hv
                have := z3 i; have := z4 i
                omega
              · have he : keepsV p l x = (true, 0) := Prod.ext h2 h1
                obtain ⟨-, hnum, -⟩ := kept_spec he
                have := (nums_at hnum).1
                exact ⟨by omega, fun i v u hv hu => hh 0 he h3 i v u hv hu⟩
            | none => exact hi_no P A n k l w hr hn B m d x hx hm M hw h7 h8 h9 (Lib.hid (by unfold solveV; rw [if_pos hg, hz]))
          · exact hi_err P A n k l w hr hn B m d x hx hm M hw h7 h8 h9 (gcode P l []) (by simpa using hg) (Lib.hid (by unfold solveV; rw [if_neg hg]))
        · exact hi_w4 P A n k l w hr hn B m d x hx hm M hw h7 h8 (by omega)
      · exact hi_w3 P A n k l w hr hn B m d x hx hm M hw h7 (by omega)
    · exact hi_w2 P A n k l w hr hn B m d x hx hm M hw (by omega)
  · exact hi_w1 P A n k l w hr hn B m d x hx hm M hw

set_option maxRecDepth 100000 in
theorem gaugeHighest_lifted (os : Os) (started : os.Started) (H : Type) (enc : TypeId × Value → H) :
    ReturnsInHanded {} Try.checked os 17 .any (Rows.gaugeHighestSpec.pre6 enc Try.prog Try.f17 Rows.gaugeHighestRow.domain false) (Rows.gaugeHighestSpec.post enc Try.prog Try.f17 false true false false) := by
  refine returnsInHanded_of_change (C := Try.checked) Law.own started (by kernel_rfl) Try.func17
    (ChangeSpec.witness6 (enc := enc) (C := Try.checked) false ⟨#[], #[.agg #[.int .i64 0, .slice none 0 0], .slice none 0 0, .int .i64 0], []⟩ 8 (by kernel_rfl) (by kernel_rfl) (by kernel_rfl) (by kernel_rfl)) ?_
  intro W base args ds gs before hval0 hW hcnd _
  have hval : ∀ (j : Nat) t v, Try.f17.params[j]? = some t → args[j]? = some v → Value.okWide Try.prog W .any base t v := hval0
  have hW' := hW
  obtain ⟨p, q, hA0, hV, rfl, hfz, hnd⟩ := hW
  have hA : DataW.TrodAll enc Try.prog W 0 (fun _ => true) true Try.f17.params.toList args.toList ds p := hA0
  rw [Try.params17] at hA hval
  obtain ⟨v0, vs0, d0, ds0, p0, q0, hargs, rfl, rfl, h0, r0⟩ := trodAll_cons hA
  obtain ⟨v1, vs1, d1, ds1, p1, q1, rfl, rfl, rfl, h1, r1⟩ := trodAll_cons r0
  obtain ⟨v2, vs2, d2, ds2, p2, q2, rfl, rfl, rfl, h2, r2⟩ := trodAll_cons r1
  obtain ⟨rfl, rfl, rfl⟩ := trodAll_nil r2
  obtain rfl : args = #[v0, v1, v2] := by cases args; simp_all
  obtain ⟨rfl, rfl⟩ := trodVars_none hV
  have k0 := h0
  have lt0 : ∀ x ∈ p0, x.block < W.heap.size := by obtain ⟨m, hm⟩ := k0; exact DataW.trod_lt m _ _ _ hm
  obtain ⟨P0, A0, n0, c0, l0, rfl, w0, rd0, mx0⟩ := open_sys (hval 0 24 v0 rfl rfl) h0
  have k1 := h1
  have lt1 : ∀ x ∈ p1, x.block < W.heap.size := by obtain ⟨m, hm⟩ := k1; exact DataW.trod_lt m _ _ _ hm
  obtain ⟨A1, n1, c1, l1, rfl, rd1, mx1, w1⟩ := open_nums (hval 1 33 v1 rfl rfl) h1
  obtain ⟨a2, rfl, rfl, rfl, w2⟩ := open_int Try.underlying3 (hval 2 3 v2 rfl rfl) h2
  clear hA0 hval0
  refine (hi_walk W P0 A0 n0 c0 l0 w0 rd0 mx0 A1 n1 c1 l1 rd1 mx1 w1 a2 w2).mono fun e W' ⟨he, bel⟩ => ?_
  subst he
  exact ⟨_, rfl, _, _, _, [], _, [], hW', trodAll_mk1 (shut_bool Try.underlying4 _), (trodAll_cons_mk (Below.trod Law.laidOut (by kernel_rfl) (of_decide_eq_true (by kernel_rfl)) k0 bel lt0) (trodAll_cons_mk (Below.trod Law.laidOut (by kernel_rfl) (of_decide_eq_true (by kernel_rfl)) k1 bel lt1) (trodAll_cons_mk (shut_int Try.underlying3 w2) trodAll_mk0))), rfl, bel.frame _, fun h => by cases h⟩

theorem gaugeHighest_over : Rows.gaugeHighestRow.holds Try.pinned (OpenSpec.ofChange Rows.gaugeHighestSpec) :=
  OpenClaim.holds_of_wide 17 Try.f17 rfl rfl rfl rfl rfl rfl rfl ⟨rfl, rfl, rfl, rfl, rfl⟩ rfl rfl rfl rfl rfl (by kernel_rfl) Try.func17 (by kernel_rfl)
    (of_decide_eq_true (by kernel_rfl)) (by unfold Func.isWrapper; first | (rw [if_pos (by decide +kernel)]; kernel_rfl) | (rw [if_neg (by decide +kernel)]; exact ⟨rfl, rfl⟩))
    (fun os started H enc _ => gaugeHighest_lifted os started H enc)

theorem gaugeHighest_proved : Rows.GaugeHighestSaid := gaugeHighest_over
end Go.Proofs.Ythlnialipjihdaa
