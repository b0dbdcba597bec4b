/- Only and Without of gauge. -/
import Derived.Test.YthlnialipjihdaaIdz
import Derived.Test.YthlnialipjihdaaWith
import Derived.Test.YthlnialipjihdaaNeedM
import Derived.Test.YthlnialipjihdaaOpen
set_option linter.unusedSimpArgs false
set_option linter.unusedVariables false
namespace Go.Proofs.Ythlnialipjihdaa
open Go.RowKit Go.Maps

set_option maxHeartbeats 1000000 in
/-- What Only picks by. -/
theorem in_any (B b : Nat) (S : List Int) (x : Bnd) (hx : Wf x.b) (w : World) (hB : Blk w B 106 #[.map (some b)]) (hS : OwnS w b S) :
    Calls Try.prog 99 #[.agg #[.int .i64 x.f, .int .i64 x.t, .int .i64 x.m, .int .i64 x.b], .pointer (some ⟨B, 0, none⟩)] w fun e w' => e = .returned (.bool (decide (x.b ∈ S))) ∧ Below w.heap.size w w' := by
  obtain ⟨f, t, m, i⟩ := x
  dsimp only at hx ⊢
  have hb0 : Below w.heap.size w (w.alloc (.cells #[.int .i64 f, .int .i64 t, .int .i64 m, .int .i64 i] 54)) := (Below.refl _ w).alloc (Nat.le_refl _) _
  have hl := (hS.keep hb0).look hx
  have c0 : (w.alloc (.cells #[.int .i64 f, .int .i64 t, .int .i64 m, .int .i64 i] 54)).cell? ⟨B, 0, none⟩ = some (.map (some b)) := (hB.alloc _).cell 0
  have hlt := hB.lt
  generalize decide (i ∈ S) = q at *
  have HL := Lib.hid hl; clear hB hS
  go_enter Try.func99, Try.ntmps99
  go_wp2
  go_ret
  exact ⟨rfl, hb0⟩

/-- The bounds that are of one of some Ids. -/
def keepL (l : List Bnd) (S : List Int) : List Bnd := l.filter (fun x => decide (x.b ∈ S))

set_option maxRecDepth 100000 in
set_option maxHeartbeats 2000000 in
theorem picked_in (A : Option Addr) (n c B b : Nat) (l : List Bnd) (S : List Int) (hw : ∀ x ∈ l, Wf x.b) (hn : n ≤ 1000) (w : World) (hr : RdB w A n c l) (hB : Blk w B 106 #[.map (some b)]) (hS : OwnS w b S) :
    Calls Try.prog 98 #[.slice A n c, .func (.func 99) #[] #[.pointer (some ⟨B, 0, none⟩)]] w fun e w' => ∃ A' n' c', e = .returned (.slice A' n' c') ∧ OwnB w' w.heap.size A' n' c' (keepL l S) ∧ Below w.heap.size w w' := by
  obtain ⟨i0, hi0, hz0, hz1, hz2⟩ := info_parts infoB
  have HI := Lib.hid hi0; have HZ0 := Lib.hid hz0; have HZ1 := Lib.hid hz1; have HZ2 := Lib.hid hz2; clear hi0 hz0 hz1 hz2
  have HR := Lib.hid hr; have HW := Lib.hid hw; have HB := Lib.hid hB; have HS := Lib.hid hS; clear hr hw hB hS
  go_enter Try.func98, Try.ntmps98
  go_wp2
  go_loopw [10, 5] (fun i v wr => ∃ k : Nat, k ≤ n ∧ i = .int .i64 k ∧ wr.ownsRow w.heap.size 54 4 v (keepL (l.take k) S).length (bcells (keepL (l.take k) S)) ∧ Below w.heap.size w wr) (fun i _ _ => n - (intOf i).toNat)
  case atStart => exact ⟨0, Nat.zero_le _, rfl, World.ownsRow_nil _ _ _ _, Below.refl _ _⟩
  case round =>
    obtain ⟨k, hk, rfl, hown, hb⟩ := hrel
    by_cases hlt : k < n
    · have hlt' : (k : Int) < n := by omega
      obtain ⟨g, o, f, t, m, i, rfl, hbw, hx, c0, c1, c2, c3⟩ := (HR.out.below hb).get hlt
      have hwf := HW.out _ (List.mem_of_getElem? hx)
      have htk : l.take (k + 1) = l.take k ++ [⟨f, t, m, i⟩] := by rw [List.take_add_one, hx]; rfl
      have hdr : keepL (l.take (k + 1)) S = keepL (l.take k) S ++ (if decide (i ∈ S) = true then [⟨f, t, m, i⟩] else []) := by
        rw [htk]; unfold keepL; rw [List.filter_append]; congr 1
        by_cases h : i ∈ S <;> simp [h]
      have hlen : (keepL (l.take k) S).length ≤ k := by
        have h1 := List.length_filter_le (fun x : Bnd => decide (x.b ∈ S)) (l.take k)
        have h2 := List.length_take_le k l
        unfold keepL; omega
      have hb1 : Below wr.heap.size wr (wr.alloc (.cells #[.int .i64 f, .int .i64 t, .int .i64 m, .int .i64 i] 54)) := (Below.refl _ wr).alloc (Nat.le_refl _) _
      have hBe := hb.trans (hb1.mono hb.size)
      have hout := in_any B b S ⟨f, t, m, i⟩ hwf _ (HB.out.keep hBe) (HS.out.keep hBe)
      dsimp only at hout
      have C5 := Lib.hid (Blk.new wr 54 #[.int .i64 f, .int .i64 t, .int .i64 m, .int .i64 i])
      have HOUT := Lib.hid hout; have OW := Lib.hid (hown.alloc (.cells #[.int .i64 f, .int .i64 t, .int .i64 m, .int .i64 i] 54)); have HD := Lib.hid hdr; have HBE := Lib.hid hBe; clear hx hwf htk hdr hb1 hout hown hBe
      generalize decide (i ∈ S) = q at *
      cases q
      · rw [if_neg (by simp), List.append_nil] at HD
        go_wp2_with fail
        refine HOUT.out.mono ?_
        rintro e w1 ⟨rfl, hb1⟩
        go_wp2
        go_roundw
        case rel => exact ⟨k + 1, by omega, by go_num, (by rw [HD.out]; exact owns_below OW.out hb1), HBE.out.trans (hb1.mono HBE.out.size)⟩
        case measure => simp [intOf]; omega
      · rw [if_pos rfl] at HD
        go_wp2_with fail
        refine HOUT.out.mono ?_
        rintro e w1 ⟨rfl, hb1⟩
        have O1 := Lib.hid ((owns_below OW.out hb1).alloc (.cells #[.int .i64 f, .int .i64 t, .int .i64 m, .int .i64 i] 54))
        have N1 := Lib.hid (Blk.new w1 54 #[.int .i64 f, .int .i64 t, .int .i64 m, .int .i64 i])
        have hbb := HBE.out.trans (hb1.mono HBE.out.size)
        have hbb2 := hbb.alloc hbb.size (.cells #[.int .i64 f, .int .i64 t, .int .i64 m, .int .i64 i] 54)
        have C6 := C5.out.keep hb1
        have d0 : w1.cell? ⟨wr.heap.size, 0, none⟩ = some (.int .i64 f) := C6.cell 0
        have d1 : w1.cell? ⟨wr.heap.size, 1, none⟩ = some (.int .i64 t) := C6.cell 1
        have d2 : w1.cell? ⟨wr.heap.size, 2, none⟩ = some (.int .i64 m) := C6.cell 2
        have d3 : w1.cell? ⟨wr.heap.size, 3, none⟩ = some (.int .i64 i) := C6.cell 3
        clear C6
        go_wp2_with (at_builtin; refine wpList_append_own _ rfl (.tmp 17) (.tmp 19) 22 rfl w.heap.size 54 i0 _ 4 32 Try.underlying22 HI.out HZ0.out HZ1.out HZ2.out rfl (by omega) u5 _ _ rfl O1.out ⟨w1.heap.size, 0, none⟩ 1 1 (Bnd.cells ⟨f, t, m, i⟩) rfl rfl (fun j u hu => by rw [Addr.add_lit, Nat.zero_add, N1.out.cell]; simpa [Bnd.cells] using hu) (by simp [Bnd.cells, Value.oneCell']) (by unfold maxLen; omega) (by omega) hbb2.size ?_; intro v' w4 hown4 hg4 _; have HO4 := Lib.hid hown4; have HG4 := Lib.hid hg4; clear hown4 hg4)
        go_roundw
        case rel => exact ⟨k + 1, by omega, by go_num, (by rw [HD.out, List.length_append, bcells_append]; exact HO4.out), hbb2.grown HG4.out hbb2.size (fun q e => (O1.out.lt q e).1)⟩
        case measure => simp [intOf]; omega
    · obtain rfl : k = n := by omega
      rw [List.take_of_length_le (by rw [HR.out.len]; exact Nat.le_refl _)] at hown
      obtain ⟨A5, c5, hv5, -⟩ := own_form hown
      have OW := Lib.hid hown; clear hown
      subst hv5
      go_wp2
      go_ret
      exact ⟨_, _, _, rfl, OW.out, hb⟩


theorem keep_only (l : List Bnd) (S : List Int) : keepL l (S ++ [0]) = onlyL l S := by
  unfold keepL onlyL
  apply List.filter_congr
  intro x _
  by_cases h : x.b ∈ S
  · simp [h]
  · by_cases h0 : x.b = 0
    · simp [h0]
    · simp [h, h0]

def withoutC (p : Int) (l : List Bnd) (id : Int) : Int := if chk p l = 0 then (if (decide (0 ≤ id) && decide (id ≤ 1000000)) = true then 0 else 1) else chk p l

set_option maxRecDepth 100000 in
set_option maxHeartbeats 8000000 in
theorem wo_err (p id : Int) (A : Option Addr) (n c : Nat) (l : List Bnd) (w : World) (hr : RdB w A n c l) (hn : n ≤ maxLen) (q : Int) (hq : (q != 0) = true) (HQ : Hid (q ≠ 0)) (E0 : Hid (chk p l = q)) :
    Calls Try.prog 56 #[.agg #[.int .i64 p, .slice A n c], .int .i64 id] w (RetS q p (dropL l [id]) w) := by
  go_enter Try.func56, Try.ntmps56
  have bel_1 := Lib.hid (show Below w.heap.size w w from Below.refl _ w)
  have rd_2 := Lib.hid (hr)
  clear hr
  have bel_3 := Lib.hid (Below.alloc bel_1.out (bel_1.out.size) (.cells #[.int .i64 p, .slice A n c] 24))
  clear bel_1
  have rd_4 := Lib.hid (RdB.alloc rd_2.out (.cells #[.int .i64 p, .slice A n c] 24))
  clear rd_2
  have s_5 := Lib.hid (Blk.new w 24 #[.int .i64 p, .slice A n c])
  have bel_6 := Lib.hid (Below.alloc bel_3.out (bel_3.out.size) (.cells #[.int .i64 0, .slice none 0 0] 24))
  clear bel_3
  have rd_7 := Lib.hid (RdB.alloc rd_4.out (.cells #[.int .i64 0, .slice none 0 0] 24))
  clear rd_4
  have s_8 := Lib.hid (Blk.alloc s_5.out (.cells #[.int .i64 0, .slice none 0 0] 24))
  clear s_5
  have nb_ := Blk.new (w.alloc (.cells #[.int .i64 p, .slice A n c] 24)) 24 #[.int .i64 0, .slice none 0 0]
  simp only [World.size_alloc] at nb_
  have res_9 := Lib.hid nb_; clear nb_
  have hc := checkSystem_any p A n c l _ rd_7.out hn
  rw [E0.out] at hc
  try dsimp only at hc
  have HC := Lib.hid hc; clear hc
  go_wp2_with fail
  refine HC.out.mono ?_
  rintro e w_10 ⟨rfl, hb⟩
  clear HC
  have bel_11 := Lib.hid (Below.trans bel_6.out (Below.mono hb (bel_6.out.size)))
  clear bel_6
  have rd_12 := Lib.hid (RdB.below rd_7.out hb)
  clear rd_7
  have s_13 := Lib.hid (Blk.keep s_8.out hb)
  clear s_8
  have res_14 := Lib.hid (Blk.keep res_9.out hb)
  clear res_9
  clear hb
  have z_15 : (w_10).cell? ⟨w.heap.size, 0, none⟩ = some (.int .i64 p) := Blk.cell s_13.out 0
  have z_16 : (w_10).cell? ⟨w.heap.size, 1, none⟩ = some (.slice A n c) := Blk.cell s_13.out 1
  have z_17 : (w_10).cell? ⟨w.heap.size + 1, 0, none⟩ = some (.int .i64 0) := Blk.cell res_14.out 0
  have z_18 : (w_10).cell? ⟨w.heap.size + 1, 1, none⟩ = some (.slice none 0 0) := Blk.cell res_14.out 1
  have f0 : (w_10).frozen? ⟨w.heap.size + 1, 0, none⟩ = false := Blk.frozen res_14.out 0
  have f1 : (w_10).frozen? ⟨w.heap.size + 1, 1, none⟩ = false := Blk.frozen res_14.out 1
  go_wp2
  refine bodyPost_ret (v := .tuple #[.agg #[.int .i64 0, .slice none 0 0], .int .i64 q]) (by simp [results, Try.results56, go_sem, z_17, z_18]) rfl ?_
  exact ⟨none, 0, 0, by rw [sysR_no HQ.out], fun h => absurd h HQ.out, (bel_11.out.setCell (p := ⟨w.heap.size + 1, 0, none⟩) (by simp) _).setCell (p := ⟨w.heap.size + 1, 1, none⟩) (by simp) _⟩

set_option maxRecDepth 100000 in
set_option maxHeartbeats 8000000 in
theorem wo_bad (p id : Int) (A : Option Addr) (n c : Nat) (l : List Bnd) (w : World) (hr : RdB w A n c l) (hn : n ≤ maxLen) (HQ : Hid ((1 : Int) ≠ 0)) (E0 : Hid (chk p l = 0)) (HBY : Hid ((decide (0 ≤ id) && decide (id ≤ 1000000)) = false)) :
    Calls Try.prog 56 #[.agg #[.int .i64 p, .slice A n c], .int .i64 id] w (RetS 1 p (dropL l [id]) w) := by
  go_enter Try.func56, Try.ntmps56
  have bel_1 := Lib.hid (show Below w.heap.size w w from Below.refl _ w)
  have rd_2 := Lib.hid (hr)
  clear hr
  have bel_3 := Lib.hid (Below.alloc bel_1.out (bel_1.out.size) (.cells #[.int .i64 p, .slice A n c] 24))
  clear bel_1
  have rd_4 := Lib.hid (RdB.alloc rd_2.out (.cells #[.int .i64 p, .slice A n c] 24))
  clear rd_2
  have s_5 := Lib.hid (Blk.new w 24 #[.int .i64 p, .slice A n c])
  have bel_6 := Lib.hid (Below.alloc bel_3.out (bel_3.out.size) (.cells #[.int .i64 0, .slice none 0 0] 24))
  clear bel_3
  have rd_7 := Lib.hid (RdB.alloc rd_4.out (.cells #[.int .i64 0, .slice none 0 0] 24))
  clear rd_4
  have s_8 := Lib.hid (Blk.alloc s_5.out (.cells #[.int .i64 0, .slice none 0 0] 24))
  clear s_5
  have nb_ := Blk.new (w.alloc (.cells #[.int .i64 p, .slice A n c] 24)) 24 #[.int .i64 0, .slice none 0 0]
  simp only [World.size_alloc] at nb_
  have res_9 := Lib.hid nb_; clear nb_
  have hc := checkSystem_any p A n c l _ rd_7.out hn
  rw [E0.out] at hc
  try dsimp only at hc
  have HC := Lib.hid hc; clear hc
  go_wp2_with fail
  refine HC.out.mono ?_
  rintro e w_10 ⟨rfl, hb⟩
  clear HC
  have bel_11 := Lib.hid (Below.trans bel_6.out (Below.mono hb (bel_6.out.size)))
  clear bel_6
  have rd_12 := Lib.hid (RdB.below rd_7.out hb)
  clear rd_7
  have s_13 := Lib.hid (Blk.keep s_8.out hb)
  clear s_8
  have res_14 := Lib.hid (Blk.keep res_9.out hb)
  clear res_9
  clear hb
  have z_15 : (w_10).cell? ⟨w.heap.size, 0, none⟩ = some (.int .i64 p) := Blk.cell s_13.out 0
  have z_16 : (w_10).cell? ⟨w.heap.size, 1, none⟩ = some (.slice A n c) := Blk.cell s_13.out 1
  have z_17 : (w_10).cell? ⟨w.heap.size + 1, 0, none⟩ = some (.int .i64 0) := Blk.cell res_14.out 0
  have z_18 : (w_10).cell? ⟨w.heap.size + 1, 1, none⟩ = some (.slice none 0 0) := Blk.cell res_14.out 1
  have hc := (show Calls Try.prog 100 #[.int .i64 id] (w_10) fun e w' => e = .returned (.bool false) ∧ Below (w_10).heap.size (w_10) w' from (isBy_any id (w_10)).mono fun e w' h => ⟨by rw [h.1, HBY.out], by rw [← h.2]; exact Below.refl _ _⟩)
  have HC := Lib.hid hc; clear hc
  go_wp2_with fail
  refine HC.out.mono ?_
  rintro e w_19 ⟨rfl, hb⟩
  clear HC
  clear z_15 z_16 z_17 z_18
  have bel_20 := Lib.hid (Below.trans bel_11.out (Below.mono hb (bel_11.out.size)))
  clear bel_11
  have rd_21 := Lib.hid (RdB.below rd_12.out hb)
  clear rd_12
  have s_22 := Lib.hid (Blk.keep s_13.out hb)
  clear s_13
  have res_23 := Lib.hid (Blk.keep res_14.out hb)
  clear res_14
  clear hb
  have z_24 : (w_19).cell? ⟨w.heap.size, 0, none⟩ = some (.int .i64 p) := Blk.cell s_22.out 0
  have z_25 : (w_19).cell? ⟨w.heap.size, 1, none⟩ = some (.slice A n c) := Blk.cell s_22.out 1
  have z_26 : (w_19).cell? ⟨w.heap.size + 1, 0, none⟩ = some (.int .i64 0) := Blk.cell res_23.out 0
  have z_27 : (w_19).cell? ⟨w.heap.size + 1, 1, none⟩ = some (.slice none 0 0) := Blk.cell res_23.out 1
  have f0 : (w_19).frozen? ⟨w.heap.size + 1, 0, none⟩ = false := Blk.frozen res_23.out 0
  have f1 : (w_19).frozen? ⟨w.heap.size + 1, 1, none⟩ = false := Blk.frozen res_23.out 1
  go_wp2
  refine bodyPost_ret (v := .tuple #[.agg #[.int .i64 0, .slice none 0 0], .int .i64 1]) (by simp [results, Try.results56, go_sem, z_26, z_27]) rfl ?_
  exact ⟨none, 0, 0, by rw [sysR_no HQ.out], fun h => absurd h HQ.out, (bel_20.out.setCell (p := ⟨w.heap.size + 1, 0, none⟩) (by simp) _).setCell (p := ⟨w.heap.size + 1, 1, none⟩) (by simp) _⟩

set_option maxRecDepth 100000 in
set_option maxHeartbeats 8000000 in
theorem wo_ok (p id : Int) (A : Option Addr) (n c : Nat) (l : List Bnd) (w : World) (hr : RdB w A n c l) (hn : n ≤ maxLen) (hn4 : n ≤ 1000) (E0 : Hid (chk p l = 0)) (HBY : Hid ((decide (0 ≤ id) && decide (id ≤ 1000000)) = true)) (HW : Hid (∀ x ∈ l, Wf x.b)) (HWI : Hid (∀ v ∈ [id], Wf v)) :
    Calls Try.prog 56 #[.agg #[.int .i64 p, .slice A n c], .int .i64 id] w (RetS 0 p (dropL l [id]) w) := by
  go_enter Try.func56, Try.ntmps56
  have bel_1 := Lib.hid (show Below w.heap.size w w from Below.refl _ w)
  have rd_2 := Lib.hid (hr)
  clear hr
  have bel_3 := Lib.hid (Below.alloc bel_1.out (bel_1.out.size) (.cells #[.int .i64 p, .slice A n c] 24))
  clear bel_1
  have rd_4 := Lib.hid (RdB.alloc rd_2.out (.cells #[.int .i64 p, .slice A n c] 24))
  clear rd_2
  have s_5 := Lib.hid (Blk.new w 24 #[.int .i64 p, .slice A n c])
  have bel_6 := Lib.hid (Below.alloc bel_3.out (bel_3.out.size) (.cells #[.int .i64 0, .slice none 0 0] 24))
  clear bel_3
  have rd_7 := Lib.hid (RdB.alloc rd_4.out (.cells #[.int .i64 0, .slice none 0 0] 24))
  clear rd_4
  have s_8 := Lib.hid (Blk.alloc s_5.out (.cells #[.int .i64 0, .slice none 0 0] 24))
  clear s_5
  have nb_ := Blk.new (w.alloc (.cells #[.int .i64 p, .slice A n c] 24)) 24 #[.int .i64 0, .slice none 0 0]
  simp only [World.size_alloc] at nb_
  have res_9 := Lib.hid nb_; clear nb_
  have hc := checkSystem_any p A n c l _ rd_7.out hn
  rw [E0.out] at hc
  try dsimp only at hc
  have HC := Lib.hid hc; clear hc
  go_wp2_with fail
  refine HC.out.mono ?_
  rintro e w_10 ⟨rfl, hb⟩
  clear HC
  have bel_11 := Lib.hid (Below.trans bel_6.out (Below.mono hb (bel_6.out.size)))
  clear bel_6
  have rd_12 := Lib.hid (RdB.below rd_7.out hb)
  clear rd_7
  have s_13 := Lib.hid (Blk.keep s_8.out hb)
  clear s_8
  have res_14 := Lib.hid (Blk.keep res_9.out hb)
  clear res_9
  clear hb
  have z_15 : (w_10).cell? ⟨w.heap.size, 0, none⟩ = some (.int .i64 p) := Blk.cell s_13.out 0
  have z_16 : (w_10).cell? ⟨w.heap.size, 1, none⟩ = some (.slice A n c) := Blk.cell s_13.out 1
  have z_17 : (w_10).cell? ⟨w.heap.size + 1, 0, none⟩ = some (.int .i64 0) := Blk.cell res_14.out 0
  have z_18 : (w_10).cell? ⟨w.heap.size + 1, 1, none⟩ = some (.slice none 0 0) := Blk.cell res_14.out 1
  have hc := (show Calls Try.prog 100 #[.int .i64 id] (w_10) fun e w' => e = .returned (.bool true) ∧ Below (w_10).heap.size (w_10) w' from (isBy_any id (w_10)).mono fun e w' h => ⟨by rw [h.1, HBY.out], by rw [← h.2]; exact Below.refl _ _⟩)
  have HC := Lib.hid hc; clear hc
  go_wp2_with fail
  refine HC.out.mono ?_
  rintro e w_19 ⟨rfl, hb⟩
  clear HC
  clear z_15 z_16 z_17 z_18
  have bel_20 := Lib.hid (Below.trans bel_11.out (Below.mono hb (bel_11.out.size)))
  clear bel_11
  have rd_21 := Lib.hid (RdB.below rd_12.out hb)
  clear rd_12
  have s_22 := Lib.hid (Blk.keep s_13.out hb)
  clear s_13
  have res_23 := Lib.hid (Blk.keep res_14.out hb)
  clear res_14
  clear hb
  have z_24 : (w_19).cell? ⟨w.heap.size, 0, none⟩ = some (.int .i64 p) := Blk.cell s_22.out 0
  have z_25 : (w_19).cell? ⟨w.heap.size, 1, none⟩ = some (.slice A n c) := Blk.cell s_22.out 1
  have z_26 : (w_19).cell? ⟨w.heap.size + 1, 0, none⟩ = some (.int .i64 0) := Blk.cell res_23.out 0
  have z_27 : (w_19).cell? ⟨w.heap.size + 1, 1, none⟩ = some (.slice none 0 0) := Blk.cell res_23.out 1
  have r1 := Lib.hid (rdI_one w_19 id)
  have bel_28 := Lib.hid (Below.alloc bel_20.out (bel_20.out.size) (.cells #[.int .i64 id] 3))
  clear bel_20
  have rd_29 := Lib.hid (RdB.alloc rd_21.out (.cells #[.int .i64 id] 3))
  clear rd_21
  have s_30 := Lib.hid (Blk.alloc s_22.out (.cells #[.int .i64 id] 3))
  clear s_22
  have res_31 := Lib.hid (Blk.alloc res_23.out (.cells #[.int .i64 id] 3))
  clear res_23
  have by_32 := Lib.hid (Blk.new w_19 3 #[.int .i64 id])
  go_wp2_with fail
  refine (without_any p A (some ⟨w_19.heap.size, 0, none⟩) n c 1 1 l [id] HW.out HWI.out hn4 (by omega) _ rd_29.out r1.out).mono ?_
  rintro e w8 ⟨A6, n6, c6, rfl, ho, hb⟩
  clear z_24 z_25 z_26 z_27
  have HO := Lib.hid (owns_base ho (Nat.succ_le_of_lt (Blk.lt res_31.out))); clear ho r1
  have bel_33 := Lib.hid (Below.trans bel_28.out (Below.mono hb (bel_28.out.size)))
  clear bel_28
  have rd_34 := Lib.hid (RdB.below rd_29.out hb)
  clear rd_29
  have s_35 := Lib.hid (Blk.keep s_30.out hb)
  clear s_30
  have res_36 := Lib.hid (Blk.keep res_31.out hb)
  clear res_31
  have by_37 := Lib.hid (Blk.keep by_32.out hb)
  clear by_32
  clear hb
  have z_38 : (w8).cell? ⟨w.heap.size, 0, none⟩ = some (.int .i64 p) := Blk.cell s_35.out 0
  have z_39 : (w8).cell? ⟨w.heap.size, 1, none⟩ = some (.slice A n c) := Blk.cell s_35.out 1
  have z_40 : (w8).cell? ⟨w.heap.size + 1, 0, none⟩ = some (.int .i64 0) := Blk.cell res_36.out 0
  have z_41 : (w8).cell? ⟨w.heap.size + 1, 1, none⟩ = some (.slice none 0 0) := Blk.cell res_36.out 1
  have z_42 : (w8).cell? ⟨w_19.heap.size, 0, none⟩ = some (.int .i64 id) := Blk.cell by_37.out 0
  have f0 : w8.frozen? ⟨w.heap.size + 1, 0, none⟩ = false := Blk.frozen res_36.out 0
  have f1 : w8.frozen? ⟨w.heap.size + 1, 1, none⟩ = false := Blk.frozen res_36.out 1
  go_wp2
  refine bodyPost_ret (v := .tuple #[.agg #[.int .i64 p, .slice A6 n6 c6], .int .i64 0]) (by simp [results, Try.results56, go_sem, z_40, z_41]) rfl ?_
  refine ⟨A6, n6, c6, by rw [sysR_yes], fun _ => ?_, (bel_33.out.setCell (p := ⟨w.heap.size + 1, 0, none⟩) (by simp) _).setCell (p := ⟨w.heap.size + 1, 1, none⟩) (by simp) _⟩
  exact owns_base (ownsRow_setCell_below (ownsRow_setCell_below HO.out (a := ⟨w.heap.size + 1, 0, none⟩) (by simp) _) (a := ⟨w.heap.size + 1, 1, none⟩) (by simp) _) (by omega)

theorem wf_all {p : Int} {l : List Bnd} (hk : chk p l = 0) : ∀ x ∈ l, Wf x.b := fun x hx => by
  obtain ⟨-, -, -, h⟩ := chk_ok hk
  have := of_decide_eq_true (h x hx)
  exact wf_of (by omega)
theorem Without_any (p id : Int) (A : Option Addr) (n c : Nat) (l : List Bnd) (w : World) (hr : RdB w A n c l) (hn : n ≤ maxLen) : Calls Try.prog 56 #[.agg #[.int .i64 p, .slice A n c], .int .i64 id] w (RetS (withoutC p l id) p (dropL l [id]) w) := by
  unfold withoutC
  by_cases hk : chk p l = 0
  · rw [if_pos hk]
    obtain ⟨-, -, hlen, -⟩ := chk_ok hk
    cases hb : (decide (0 ≤ id) && decide (id ≤ 1000000))
    · rw [if_neg (by simp)]
      exact wo_bad p id A n c l w hr hn (Lib.hid (by decide)) (Lib.hid hk) (Lib.hid hb)
    · rw [if_pos rfl]
      refine wo_ok p id A n c l w hr hn (by have := hr.len; omega) (Lib.hid hk) (Lib.hid hb) (Lib.hid (wf_all hk)) (Lib.hid fun v hv => ?_)
      rw [List.mem_singleton] at hv
      subst hv
      simp only [Bool.and_eq_true, decide_eq_true_eq] at hb
      exact wf_of hb
  · rw [if_neg hk]
    exact wo_err p id A n c l w hr hn _ (by simpa using hk) (Lib.hid hk) (Lib.hid rfl)

theorem ownB_max_ {w : World} {base : Nat} {A : Option Addr} {n c : Nat} {l : List Bnd} (h : w.ownsRow base 54 4 (.slice A n c) n (bcells l)) : n ≤ maxLen := Nat.le_trans (OwnB.rd (show OwnB w base A n c l from h)).1.cap (OwnB.rd (show OwnB w base A n c l from h)).2
set_option maxRecDepth 100000 in
set_option maxHeartbeats 8000000 in
theorem on_err (p : Int) (A B : Option Addr) (n c m d : Nat) (l : List Bnd) (S : List Int) (w : World) (hr : RdB w A n c l) (hn : n ≤ maxLen) (q : Int) (hq : (q != 0) = true) (HQ : Hid (q ≠ 0)) (E0 : Hid (chk p l = q)) :
    Calls Try.prog 55 #[.agg #[.int .i64 p, .slice A n c], .slice B m d] w (RetS q p (onlyL l S) w) := by
  go_enter Try.func55, Try.ntmps55
  have bel_1 := Lib.hid (show Below w.heap.size w w from Below.refl _ w)
  have rd_2 := Lib.hid (hr)
  clear hr
  have bel_3 := Lib.hid (Below.alloc bel_1.out (bel_1.out.size) (.cells #[.int .i64 p, .slice A n c] 24))
  clear bel_1
  have rd_4 := Lib.hid (RdB.alloc rd_2.out (.cells #[.int .i64 p, .slice A n c] 24))
  clear rd_2
  have s_5 := Lib.hid (Blk.new w 24 #[.int .i64 p, .slice A n c])
  have bel_6 := Lib.hid (Below.alloc bel_3.out (bel_3.out.size) (.cells #[.int .i64 0, .slice none 0 0] 24))
  clear bel_3
  have rd_7 := Lib.hid (RdB.alloc rd_4.out (.cells #[.int .i64 0, .slice none 0 0] 24))
  clear rd_4
  have s_8 := Lib.hid (Blk.alloc s_5.out (.cells #[.int .i64 0, .slice none 0 0] 24))
  clear s_5
  have nb_ := Blk.new (w.alloc (.cells #[.int .i64 p, .slice A n c] 24)) 24 #[.int .i64 0, .slice none 0 0]
  simp only [World.size_alloc] at nb_
  have res_9 := Lib.hid nb_; clear nb_
  have hc := checkSystem_any p A n c l _ rd_7.out hn
  rw [E0.out] at hc
  try dsimp only at hc
  have HC := Lib.hid hc; clear hc
  go_wp2_with fail
  refine HC.out.mono ?_
  rintro e w_10 ⟨rfl, hb⟩
  clear HC
  have bel_11 := Lib.hid (Below.trans bel_6.out (Below.mono hb (bel_6.out.size)))
  clear bel_6
  have rd_12 := Lib.hid (RdB.below rd_7.out hb)
  clear rd_7
  have s_13 := Lib.hid (Blk.keep s_8.out hb)
  clear s_8
  have res_14 := Lib.hid (Blk.keep res_9.out hb)
  clear res_9
  clear hb
  have z_15 : (w_10).cell? ⟨w.heap.size, 0, none⟩ = some (.int .i64 p) := Blk.cell s_13.out 0
  have z_16 : (w_10).cell? ⟨w.heap.size, 1, none⟩ = some (.slice A n c) := Blk.cell s_13.out 1
  have z_17 : (w_10).cell? ⟨w.heap.size + 1, 0, none⟩ = some (.int .i64 0) := Blk.cell res_14.out 0
  have z_18 : (w_10).cell? ⟨w.heap.size + 1, 1, none⟩ = some (.slice none 0 0) := Blk.cell res_14.out 1
  have f0 : (w_10).frozen? ⟨w.heap.size + 1, 0, none⟩ = false := Blk.frozen res_14.out 0
  have f1 : (w_10).frozen? ⟨w.heap.size + 1, 1, none⟩ = false := Blk.frozen res_14.out 1
  go_wp2
  refine bodyPost_ret (v := .tuple #[.agg #[.int .i64 0, .slice none 0 0], .int .i64 q]) (by simp [results, Try.results55, go_sem, z_17, z_18]) rfl ?_
  exact ⟨none, 0, 0, by rw [sysR_no HQ.out], fun h => absurd h HQ.out, (bel_11.out.setCell (p := ⟨w.heap.size + 1, 0, none⟩) (by simp) _).setCell (p := ⟨w.heap.size + 1, 1, none⟩) (by simp) _⟩

set_option maxRecDepth 100000 in
set_option maxHeartbeats 8000000 in
theorem on_ok (p : Int) (A B : Option Addr) (n c m d : Nat) (l : List Bnd) (S : List Int) (w : World) (hr : RdB w A n c l) (hn : n ≤ maxLen) (hn4 : n ≤ 400) (E0 : Hid (chk p l = 0)) (HCK : Hid (chk p (onlyL l S) = 0)) (HW : Hid (∀ x ∈ l, Wf x.b)) (HS : Hid (∀ v ∈ S, Wf v)) (hq : RdI w B m d S) (hm : m ≤ 100000) (hm2 : S.length ≤ 1000) :
    Calls Try.prog 55 #[.agg #[.int .i64 p, .slice A n c], .slice B m d] w (RetS 0 p (onlyL l S) w) := by
  have HR := Lib.hid hr; have HQ := Lib.hid hq
  go_enter Try.func55, Try.ntmps55
  have bel_1 := Lib.hid (show Below w.heap.size w w from Below.refl _ w)
  have rd_2 := Lib.hid (hr)
  clear hr
  have ids_3 := Lib.hid (HQ.out)
  clear hq
  have bel_4 := Lib.hid (Below.alloc bel_1.out (bel_1.out.size) (.cells #[.int .i64 p, .slice A n c] 24))
  clear bel_1
  have rd_5 := Lib.hid (RdB.alloc rd_2.out (.cells #[.int .i64 p, .slice A n c] 24))
  clear rd_2
  have ids_6 := Lib.hid (RdI.alloc ids_3.out (.cells #[.int .i64 p, .slice A n c] 24))
  clear ids_3
  have s_7 := Lib.hid (Blk.new w 24 #[.int .i64 p, .slice A n c])
  have bel_8 := Lib.hid (Below.alloc bel_4.out (bel_4.out.size) (.cells #[.int .i64 0, .slice none 0 0] 24))
  clear bel_4
  have rd_9 := Lib.hid (RdB.alloc rd_5.out (.cells #[.int .i64 0, .slice none 0 0] 24))
  clear rd_5
  have ids_10 := Lib.hid (RdI.alloc ids_6.out (.cells #[.int .i64 0, .slice none 0 0] 24))
  clear ids_6
  have s_11 := Lib.hid (Blk.alloc s_7.out (.cells #[.int .i64 0, .slice none 0 0] 24))
  clear s_7
  have nb_ := Blk.new (w.alloc (.cells #[.int .i64 p, .slice A n c] 24)) 24 #[.int .i64 0, .slice none 0 0]
  simp only [World.size_alloc] at nb_
  have res_12 := Lib.hid nb_; clear nb_
  have hc := checkSystem_any p A n c l _ rd_9.out hn
  rw [E0.out] at hc
  try dsimp only at hc
  have HC := Lib.hid hc; clear hc
  go_wp2_with fail
  refine HC.out.mono ?_
  rintro e w_13 ⟨rfl, hb⟩
  clear HC
  have bel_14 := Lib.hid (Below.trans bel_8.out (Below.mono hb (bel_8.out.size)))
  clear bel_8
  have rd_15 := Lib.hid (RdB.below rd_9.out hb)
  clear rd_9
  have ids_16 := Lib.hid (RdI.below ids_10.out hb)
  clear ids_10
  have s_17 := Lib.hid (Blk.keep s_11.out hb)
  clear s_11
  have res_18 := Lib.hid (Blk.keep res_12.out hb)
  clear res_12
  clear hb
  have z_19 : (w_13).cell? ⟨w.heap.size, 0, none⟩ = some (.int .i64 p) := Blk.cell s_17.out 0
  have z_20 : (w_13).cell? ⟨w.heap.size, 1, none⟩ = some (.slice A n c) := Blk.cell s_17.out 1
  have z_21 : (w_13).cell? ⟨w.heap.size + 1, 0, none⟩ = some (.int .i64 0) := Blk.cell res_18.out 0
  have z_22 : (w_13).cell? ⟨w.heap.size + 1, 1, none⟩ = some (.slice none 0 0) := Blk.cell res_18.out 1
  go_wp2_with fail
  refine (idSet_any B m d S HS.out hm _ ids_16.out).mono ?_
  rintro e wg ⟨b1, rfl, hbge, hos, hb⟩
  clear z_19 z_20 z_21 z_22
  have hb1w : w.heap.size ≤ b1 := Nat.le_trans (bel_14.out.size) hbge
  have hlr := Blk.lt res_18.out; have hlb := Nat.lt_of_lt_of_le hlr hbge; clear hbge
  have bel_23 := Lib.hid (Below.trans bel_14.out (Below.mono hb (bel_14.out.size)))
  clear bel_14
  have rd_24 := Lib.hid (RdB.below rd_15.out hb)
  clear rd_15
  have ids_25 := Lib.hid (RdI.below ids_16.out hb)
  clear ids_16
  have s_26 := Lib.hid (Blk.keep s_17.out hb)
  clear s_17
  have res_27 := Lib.hid (Blk.keep res_18.out hb)
  clear res_18
  clear hb
  have hb1g := OwnS.lt hos
  obtain ⟨kz, D, hown, hkz, hset⟩ := hos
  have bel_28 := Lib.hid (Below.alloc bel_23.out (bel_23.out.size) (.cells #[.map (some b1)] 106))
  clear bel_23
  have rd_29 := Lib.hid (RdB.alloc rd_24.out (.cells #[.map (some b1)] 106))
  clear rd_24
  have ids_30 := Lib.hid (RdI.alloc ids_25.out (.cells #[.map (some b1)] 106))
  clear ids_25
  have s_31 := Lib.hid (Blk.alloc s_26.out (.cells #[.map (some b1)] 106))
  clear s_26
  have res_32 := Lib.hid (Blk.alloc res_27.out (.cells #[.map (some b1)] 106))
  clear res_27
  have m_33 := Lib.hid (Blk.new wg 106 #[.map (some b1)])
  have hos2 : OwnS (wg.alloc (.cells #[.map (some b1)] 106)) b1 S := OwnS.keep ⟨kz, D, hown, hkz, hset⟩ ((Below.refl _ wg).alloc (Nat.le_refl _) _)
  clear hown hkz hset D kz
  obtain ⟨kz, D, hown, hkz, hset⟩ := hos2
  have hkm : kz ≤ 100000 := by have := HQ.out.len; omega
  have HOWN := Lib.hid hown; have HSET := Lib.hid hset; have HKZ := Lib.hid hkz; clear hown hset hkz
  have z_34 : ((wg.alloc (.cells #[.map (some b1)] 106))).cell? ⟨w.heap.size, 0, none⟩ = some (.int .i64 p) := Blk.cell s_31.out 0
  have z_35 : ((wg.alloc (.cells #[.map (some b1)] 106))).cell? ⟨w.heap.size, 1, none⟩ = some (.slice A n c) := Blk.cell s_31.out 1
  have z_36 : ((wg.alloc (.cells #[.map (some b1)] 106))).cell? ⟨w.heap.size + 1, 0, none⟩ = some (.int .i64 0) := Blk.cell res_32.out 0
  have z_37 : ((wg.alloc (.cells #[.map (some b1)] 106))).cell? ⟨w.heap.size + 1, 1, none⟩ = some (.slice none 0 0) := Blk.cell res_32.out 1
  have z_38 : ((wg.alloc (.cells #[.map (some b1)] 106))).cell? ⟨wg.heap.size, 0, none⟩ = some (.map (some b1)) := Blk.cell m_33.out 0
  have hwf0 : Wf 0 := wf_of (by omega)
  have HWF0 := Lib.hid hwf0; clear hwf0
  go_wp2_with (at_mapUpdate; refine wpList_mapUpdate_own _ rfl _ _ _ 106 rfl 3 4 (Maps.int_keyed Try.underlying3) Try.underlying106 _ b1 kz _ rfl HOWN.out (by unfold maxLen; omega) _ _ _ rfl rfl (Maps.keyOf_int_mk Try.underlying3 HWF0.out) _ [] (plainElem_bool Try.underlying4 true) ?_; intro w1 hown1 hgrow1; have HOWN1 := Lib.hid hown1; have HG1 := Lib.hid hgrow1; clear hown1 hgrow1)
  clear z_34 z_35 z_36 z_37 z_38
  have hos3 : OwnS w1 b1 (S ++ [0]) := ⟨_, _, HOWN1.out, by rw [List.length_append]; have := HKZ.out; simp; omega, HSET.out.put 0⟩
  have hsm : b1 < wg.heap.size := hb1g
  have K0 := Lib.hid (Blk.drew (blk_grown s_31.out HG1.out (by simp; omega))); have KR := Lib.hid (Blk.drew (blk_grown res_32.out HG1.out (by simp; omega))); have KM := Lib.hid (Blk.drew (blk_grown m_33.out HG1.out (by simp; omega)))
  have hbe := Below.grown bel_28.out HG1.out (bel_28.out.size) (fun q e => by cases e; exact hb1w)
  have KE := Lib.hid (Below.drew hbe); have KD := Lib.hid (RdB.drew (RdB.below HR.out hbe)); have KS := Lib.hid (show OwnS w1.drew b1 (S ++ [0]) from hos3)
  clear hbe hos3 HOWN HSET HKZ HG1 HOWN1 s_31 res_32 m_33 bel_28 rd_29 ids_30
  refine wp_region_held_drew (S := (fun W' => Blk W' w.heap.size 24 #[.int .i64 p, .slice A n c])) (by kernel_rfl) K0.out (fun _ => ?_)
  obtain ⟨w1, hw2⟩ : ∃ w', w' = w1.drew := ⟨_, rfl⟩
  rw [← hw2] at K0 KR KM KE KD KS
  rw [← hw2]
  clear hw2
  refine' wpAnyH_take (i := 0) (oi := { dst := some 17, op := Go.Op.fieldAddr 24 (Go.Operand.tmp 2) 0, type := 0, pos := "gauge.go:92", after := #[], guard := none }) (v := _) rfl (by kernel_rfl) (by kernel_rfl) (by kernel_rfl) (fun _ _ _ h => h) (Or.inl ⟨by rfl, ?hyR3⟩) K0.out ?reR3
  case hyR3 => (rintro W' hS0; clear hS0; go_simp; try with_reducible rfl)
  try simp only [Act.put, List.setIfInBounds_toArray, List.set_cons_zero, List.set_cons_succ]
  refine' wpAnyH_take (i := 1) (oi := { dst := some 18, op := Go.Op.load 3 (Go.Operand.tmp 17), type := 3, pos := "gauge.go:92", after := #[{ on := 0, ground := Go.Ground.data }], guard := none }) (v := _) rfl (by kernel_rfl) (by kernel_rfl) (by kernel_rfl) (fun _ _ _ h => h) (Or.inl ⟨by rfl, ?hyR4⟩) K0.out ?reR4
  case hyR4 => (rintro W' hS0; have hc0 : W'.cell? ⟨w.heap.size, 0, none⟩ = some (.int .i64 p) := Blk.cell hS0 0; clear hS0; go_simp; try with_reducible rfl)
  try simp only [Act.put, List.setIfInBounds_toArray, List.set_cons_zero, List.set_cons_succ]
  refine' wpAnyH_take (i := 2) (oi := { dst := some 19, op := Go.Op.fieldAddr 24 (Go.Operand.tmp 2) 1, type := 0, pos := "gauge.go:92", after := #[], guard := none }) (v := _) rfl (by kernel_rfl) (by kernel_rfl) (by kernel_rfl) (fun _ _ _ h => h) (Or.inl ⟨by rfl, ?hyR5⟩) K0.out ?reR5
  case hyR5 => (rintro W' hS0; clear hS0; go_simp; try with_reducible rfl)
  try simp only [Act.put, List.setIfInBounds_toArray, List.set_cons_zero, List.set_cons_succ]
  refine' wpAnyH_take (i := 3) (oi := { dst := some 20, op := Go.Op.load 22 (Go.Operand.tmp 19), type := 22, pos := "gauge.go:92", after := #[{ on := 2, ground := Go.Ground.data }], guard := none }) (v := _) rfl (by kernel_rfl) (by kernel_rfl) (by kernel_rfl) (fun _ _ _ h => h) (Or.inl ⟨by rfl, ?hyR6⟩) K0.out ?reR6
  case hyR6 => (rintro W' hS0; have hc0 : W'.cell? ⟨w.heap.size, 1, none⟩ = some (.slice A n c) := Blk.cell hS0 1; clear hS0; go_simp; try with_reducible rfl)
  try simp only [Act.put, List.setIfInBounds_toArray, List.set_cons_zero, List.set_cons_succ]
  refine' wpAnyH_take (i := 4) (oi := { dst := some 21, op := Go.Op.makeFunc (Go.Fn.func 99) #[] #[Go.Operand.tmp 7], type := 109, pos := "gauge.go:92", after := #[], guard := none }) (v := _) rfl (by kernel_rfl) (by kernel_rfl) (by kernel_rfl) (fun _ _ _ h => h) (Or.inl ⟨by rfl, ?hyR7⟩) K0.out ?reR7
  case hyR7 => (rintro W' hS0; clear hS0; go_simp; try with_reducible rfl)
  try simp only [Act.put, List.setIfInBounds_toArray, List.set_cons_zero, List.set_cons_succ]
  refine wpAnyH_ready (rs := [5]) (by kernel_rfl) (by simp) ?_
  refine AllReadyH.cons (o := { dst := some 22, op := Go.Op.call { callee := Go.Callee.value (Go.Operand.func 98), args := #[Go.Operand.tmp 20, Go.Operand.tmp 21], argTypes := #[22, 109] }, type := 22, pos := "gauge.go:92", after := #[{ on := 3, ground := Go.Ground.data }, { on := 4, ground := Go.Ground.data }], guard := none }) rfl (fun K hK => ?_) ?_
  · -- 5: call
    go_simp
    go_at_call 98
    refine (picked_in A n c wg.heap.size b1 l (S ++ [0]) HW.out (by omega) _ KD.out KM.out KS.out).mono ?_
    rintro e w8 ⟨A6, n6, c6, rfl, ho6, hb9⟩
    dsimp only
    rw [keep_only] at ho6
    have HO6 := Lib.hid (owns_base ho6 (Nat.succ_le_of_lt (Blk.lt KR.out))); clear ho6
    have hn6 := ownB_max_ HO6.out
    have b0_10 := Lib.hid (Blk.keep (K0.out) hb9)
    have br_11 := Lib.hid (Blk.keep (KR.out) hb9)
    have bel_12 := Lib.hid (Below.trans (KE.out) (Below.mono hb9 ((KE.out).size)))
    have rd_13 := Lib.hid (RdB.below (KD.out) hb9)
    refine hK.out _ _ b0_10.out (fun _ => ?_); clear hK K
    try simp only [Act.put, List.setIfInBounds_toArray, List.set_cons_zero, List.set_cons_succ]
    refine wpAnyH_ready (rs := [6]) (by kernel_rfl) (by simp) ?_
    refine AllReadyH.cons (o := { dst := some 23, op := Go.Op.call { callee := Go.Callee.value (Go.Operand.func 61), args := #[Go.Operand.tmp 18, Go.Operand.tmp 22], argTypes := #[3, 22] }, type := 28, pos := "gauge.go:92", after := #[{ on := 1, ground := Go.Ground.data }, { on := 5, ground := Go.Ground.data }, { on := 5, ground := Go.Ground.chain }], guard := none }) rfl (fun K hK => ?_) ?_
    · -- 6: call
      have hm_ := made_any p A6 n6 c6 (onlyL l S) _ (OwnB.rd (show OwnB _ _ A6 n6 c6 (onlyL l S) from HO6.out)).1 hn6
      rw [HCK.out, sysR_yes] at hm_
      have HM_ := Lib.hid hm_; clear hm_
      go_simp
      go_at_call 61
      refine (HM_.out).mono ?_
      rintro e w14 ⟨rfl, hb15⟩
      dsimp only
      have b0_16 := Lib.hid (Blk.keep (b0_10.out) hb15)
      have br_17 := Lib.hid (Blk.keep (br_11.out) hb15)
      have bel_18 := Lib.hid (Below.trans (bel_12.out) (Below.mono hb15 ((bel_12.out).size)))
      have rd_19 := Lib.hid (RdB.below (rd_13.out) hb15)
      have cp_20 := Lib.hid (owns_below (HO6.out) hb15)
      refine hK.out _ _ b0_16.out (fun _ => ?_); clear hK K
      try simp only [Act.put, List.setIfInBounds_toArray, List.set_cons_zero, List.set_cons_succ]
      refine' wpAnyH_take (i := 7) (oi := { dst := some 24, op := Go.Op.extract (Go.Operand.tmp 23) 0, type := 24, pos := "gauge.go:92", after := #[{ on := 6, ground := Go.Ground.data }], guard := none }) (v := _) rfl (by kernel_rfl) (by kernel_rfl) (by kernel_rfl) (fun _ _ _ h => h) (Or.inl ⟨by rfl, ?hyR21⟩) b0_16.out ?reR21
      case hyR21 => (rintro W' hS0; clear hS0; go_simp; try with_reducible rfl)
      try simp only [Act.put, List.setIfInBounds_toArray, List.set_cons_zero, List.set_cons_succ]
      refine' wpAnyH_take (i := 8) (oi := { dst := some 25, op := Go.Op.extract (Go.Operand.tmp 23) 1, type := 27, pos := "gauge.go:92", after := #[{ on := 6, ground := Go.Ground.data }], guard := none }) (v := _) rfl (by kernel_rfl) (by kernel_rfl) (by kernel_rfl) (fun _ _ _ h => h) (Or.inl ⟨by rfl, ?hyR22⟩) b0_16.out ?reR22
      case hyR22 => (rintro W' hS0; clear hS0; go_simp; try with_reducible rfl)
      try simp only [Act.put, List.setIfInBounds_toArray, List.set_cons_zero, List.set_cons_succ]
      refine wpAnyH_ready (rs := [9]) (by kernel_rfl) (by simp) ?_
      refine AllReadyH.cons (o := { dst := none, op := Go.Op.store 24 (Go.Operand.tmp 4) (Go.Operand.tmp 24), type := 0, pos := "gauge.go:92", after := #[{ on := 7, ground := Go.Ground.data }, { on := 6, ground := Go.Ground.chain }, { on := 0, ground := Go.Ground.phase }, { on := 1, ground := Go.Ground.phase }, { on := 2, ground := Go.Ground.phase }, { on := 3, ground := Go.Ground.phase }, { on := 4, ground := Go.Ground.phase }, { on := 5, ground := Go.Ground.phase }, { on := 6, ground := Go.Ground.phase }, { on := 7, ground := Go.Ground.phase }, { on := 8, ground := Go.Ground.phase }], guard := none }) rfl (fun K hK => ?_) ?_
      · -- 9: store
        have v0 : w14.cell? ⟨w.heap.size + 1, 0, none⟩ = some (.int .i64 0) := Blk.cell br_17.out 0
        have v1 : w14.cell? ⟨w.heap.size + 1, 1, none⟩ = some (.slice none 0 0) := Blk.cell br_17.out 1
        have f0 : w14.frozen? ⟨w.heap.size + 1, 0, none⟩ = false := Blk.frozen br_17.out 0
        have f1 : w14.frozen? ⟨w.heap.size + 1, 1, none⟩ = false := Blk.frozen br_17.out 1
        go_simp
        have k23 := Lib.hid (Blk.far (Blk.far (b0_16.out) (p := ⟨w.heap.size + 1, 0, none⟩) (by simp; try omega) (.int .i64 p)) (p := ⟨w.heap.size + 1, 1, none⟩) (by simp; try omega) (.slice A6 n6 c6))
        refine hK.out _ _ k23.out (fun _ => ?_); clear hK K
        try simp only [Act.put, List.setIfInBounds_toArray, List.set_cons_zero, List.set_cons_succ]
        refine' wpAnyH_take (i := 10) (oi := { dst := some 5, op := Go.Op.assign (Go.Operand.tmp 25), type := 27, pos := "gauge.go:92", after := #[{ on := 8, ground := Go.Ground.data }, { on := 9, ground := Go.Ground.chain }, { on := 0, ground := Go.Ground.phase }, { on := 1, ground := Go.Ground.phase }, { on := 2, ground := Go.Ground.phase }, { on := 3, ground := Go.Ground.phase }, { on := 4, ground := Go.Ground.phase }, { on := 5, ground := Go.Ground.phase }, { on := 6, ground := Go.Ground.phase }, { on := 7, ground := Go.Ground.phase }, { on := 8, ground := Go.Ground.phase }, { on := 9, ground := Go.Ground.phase }], guard := none }) (v := _) rfl (by kernel_rfl) (by kernel_rfl) (by kernel_rfl) (fun _ _ _ h => h) (Or.inl ⟨by rfl, ?hyR24⟩) k23.out ?reR24
        case hyR24 => (rintro W' hS0; clear hS0; go_simp; try with_reducible rfl)
        try simp only [Act.put, List.setIfInBounds_toArray, List.set_cons_zero, List.set_cons_succ]
        refine wpAnyH_done (by kernel_rfl) ?_ _
        go_wp2
        refine bodyPost_ret (v := .tuple #[.agg #[.int .i64 p, .slice A6 n6 c6], .int .i64 0]) (by simp [results, Try.results55, go_sem, v0, v1]) rfl ?_
        refine ⟨A6, n6, c6, by rw [sysR_yes], fun _ => ?_, (Below.setCell bel_18.out (p := ⟨w.heap.size + 1, 0, none⟩) (by simp) _).setCell (p := ⟨w.heap.size + 1, 1, none⟩) (by simp) _⟩
        exact owns_base (ownsRow_setCell_below (ownsRow_setCell_below cp_20.out (a := ⟨w.heap.size + 1, 0, none⟩) (by simp) _) (a := ⟨w.heap.size + 1, 1, none⟩) (by simp) _) (by omega)
      exact AllReadyH.nil
    exact AllReadyH.nil
  exact AllReadyH.nil

theorem Only_any (p : Int) (A B : Option Addr) (n c m d : Nat) (l : List Bnd) (S : List Int) (w : World) (hr : RdB w A n c l) (hn : n ≤ maxLen) (hS : ∀ v ∈ S, Wf v) (hq : RdI w B m d S) (hm : m ≤ 1000) : Calls Try.prog 55 #[.agg #[.int .i64 p, .slice A n c], .slice B m d] w (RetS (chk p l) p (onlyL l S) w) := by
  by_cases hk : chk p l = 0
  · obtain ⟨-, -, hlen, -⟩ := chk_ok hk
    rw [hk]
    exact on_ok p A B n c m d l S w hr hn (by have := hr.len; omega) (Lib.hid hk) (Lib.hid (chk_only hk S)) (Lib.hid (wf_all hk)) (Lib.hid hS) hq (by omega) (by have := hq.len; omega)
  · exact on_err p A B n c m d l S w hr hn _ (by simpa using hk) (Lib.hid hk) (Lib.hid rfl)
end Go.Proofs.Ythlnialipjihdaa
