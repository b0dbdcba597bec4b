/- idSet, picked, without of gauge: sets of Ids, and the bounds that are not of them. -/
import Derived.Test.YthlnialipjihdaaChg
import Derived.Test.YthlnialipjihdaaTied
import Derived.Maps.OwnIn
import Derived.Maps.OwnSet
import Derived.Shelf.SlIterI.Nil
import Derived.Shelf.SortM.Plain
import Derived.Shelf.SortM.SortNone
import Derived.Test.YthlnialipjihdaaSet
set_option linter.unusedSimpArgs false
set_option linter.unusedVariables false
namespace Go.Proofs.Ythlnialipjihdaa
open Go.RowKit Go.Maps

abbrev bool_ : DataW Unit := .lit (.bool false)
/-- A map that holds true at the numbers of a list, and nothing else. -/
def SetD (D : DataW Unit) (S : List Int) : Prop := IsMap D ∧ (∀ x, has D (.int .i64 x) = decide (x ∈ S)) ∧ ∀ x, D.atKey (.int .i64 x) bool_ = .lit (.bool (decide (x ∈ S)))
def OwnS (w : World) (b : Nat) (S : List Int) : Prop := ∃ n D, w.ownsMap Try.prog 3 (plainElem (H := Unit) Try.prog 4) b n D ∧ n ≤ S.length ∧ SetD D S
theorem OwnS.lt {w : World} {b : Nat} {S : List Int} (h : OwnS w b S) : b < w.heap.size := by obtain ⟨_, _, h, _⟩ := h; exact h.lt
theorem OwnS.keep {w w' : World} {b : Nat} {S : List Int} (h : OwnS w b S) (hb : Below w.heap.size w w') : OwnS w' b S := by
  obtain ⟨n, D, ⟨es, clock, hh, F, hs, hD⟩, h2⟩ := h
  exact ⟨n, D, ⟨es, clock, (hb.block b (Array.getElem?_eq_some_iff.1 hh).1).trans hh, F, hs, hD⟩, h2⟩
theorem OwnS.keep_ {w w' : World} {b : Nat} {S : List Int} (h : OwnS w b S) (hb : w'.heap[b]? = w.heap[b]?) : OwnS w' b S := by
  obtain ⟨n, D, ⟨es, clock, hh, F, hs, hD⟩, h2⟩ := h
  exact ⟨n, D, ⟨es, clock, hb.trans hh, F, hs, hD⟩, h2⟩

theorem int_ne {x y : Int} (h : x ≠ y) : (Lit.int .i64 x : Lit) ≠ .int .i64 y := fun e => by injection e with _ e; exact h e
theorem setD_nil : SetD (.map []) [] := ⟨isMap_empty, fun x => rfl, fun x => rfl⟩
theorem SetD.put {D : DataW Unit} {S : List Int} (h : SetD D S) (x : Int) : SetD (D.put (.int .i64 x) (.lit (.bool true))) (S ++ [x]) := by
  obtain ⟨h1, h2, h3⟩ := h
  refine ⟨h1.put _ _, fun y => ?_, fun y => ?_⟩
  · by_cases e : y = x
    · subst e; rw [has_put_same h1 (show WideAt.IsKeyLit (.int .i64 y) from trivial)]; simp
    · rw [has_put_other (int_ne e), h2]; simp [e]
  · by_cases e : y = x
    · subst e; rw [atKey_put_same h1 (show WideAt.IsKeyLit (.int .i64 y) from trivial)]; simp
    · rw [atKey_put_other (int_ne e), h3]; simp [e]
theorem SetD.del {D : DataW Unit} {S : List Int} (h : SetD D S) (x : Int) : SetD (D.del (.int .i64 x)) (S.filter (fun y => decide (y ≠ x))) := by
  obtain ⟨h1, h2, h3⟩ := h
  refine ⟨h1.del _, fun y => ?_, fun y => ?_⟩
  · by_cases e : y = x
    · subst e; rw [has_del_same]; simp
    · rw [has_del_other (int_ne e), h2]; simp [e]
  · by_cases e : y = x
    · subst e; rw [atKey_del_same]; simp [bool_]
    · rw [atKey_del_other (int_ne e), h3]; simp [e]
/-- A number that has its place among Go's. -/
def Wf (x : Int) : Prop := (Lit.int .i64 x).wf = true
theorem wf_of {x : Int} (h : 0 ≤ x ∧ x ≤ 1000000) : Wf x := by
  unfold Wf
  have h1 : IntKind.i64.min = -9223372036854775808 := by decide
  have h2 : IntKind.i64.max = 9223372036854775807 := by decide
  simp [Lit.wf, h1, h2]
  omega

theorem plain_bool_inv {P : Program} {e : TypeId} (he : P.underlying e = some .bool) {v : Value} {c : Bool} {ps : List MemPlace} (h : plainElem (H := Unit) P e v = some (.lit (.bool c), ps)) : v = .bool c := by
  unfold plainElem at h
  rw [he] at h
  cases v <;> simp at h
  rw [h.1]

/-- A look into the set. -/
theorem OwnS.look {w : World} {b : Nat} {S : List Int} (h : OwnS w b S) {x : Int} (hx : Wf x) : (Instr.lookup 106 (.map (some b)) (.int .i64 x) false).run Try.prog w = .ok (.bool (decide (x ∈ S))) w := by
  obtain ⟨n, D, hown, _, _, _, h3⟩ := h
  obtain ⟨v, ps, hrun, hv⟩ := hown.lookup (Maps.int_keyed Try.underlying3) Try.underlying106 (z := .bool false) (by kernel_rfl) (zd := bool_) (zp := []) (plainElem_bool Try.underlying4 false) (Maps.keyOf_int_mk Try.underlying3 hx)
  rw [h3] at hv
  rw [plain_bool_inv Try.underlying4 hv] at hrun
  exact hrun

set_option maxHeartbeats 1000000 in
theorem idSet_any (A : Option Addr) (n c : Nat) (x : List Int) (hw : ∀ v ∈ x, Wf v) (hn : n ≤ 100000) (w : World) (hr : RdI w A n c x) :
    Calls Try.prog 97 #[.slice A n c] w fun e w' => ∃ b, e = .returned (.map (some b)) ∧ w.heap.size ≤ b ∧ OwnS w' b x ∧ Below w.heap.size w w' := by
  have HR := Lib.hid hr; have HW := Lib.hid hw; clear hr hw
  have h0 := World.ownsMap_made w Try.prog 3 (plainElem (H := Unit) Try.prog 4)
  have hb0 : Below w.heap.size w (w.alloc (.map #[] 0)) := (Below.refl _ w).alloc (Nat.le_refl _) _
  have H0 := Lib.hid h0; clear h0
  have hmk : ∀ w, (Instr.makeMap 106 none).run Try.prog w = .ok (.map (some w.heap.size)) (w.alloc (.map #[] 0)) := fun _ => rfl
  go_enter Try.func97, Try.ntmps97
  go_wp2
  go_loopw [9] (fun i wr => ∃ (k : Nat) (D : DataW Unit), k ≤ n ∧ i = .int .i64 k ∧ wr.ownsMap Try.prog 3 (plainElem (H := Unit) Try.prog 4) w.heap.size k D ∧ SetD D (x.take k) ∧ Below w.heap.size w wr ∧ w.heap.size < wr.heap.size) (fun i _ => n - (intOf i).toNat)
  case atStart => exact ⟨0, _, Nat.zero_le _, rfl, H0.out, by rw [List.take_zero]; exact setD_nil, hb0, by simp⟩
  case round =>
    obtain ⟨k, D, hk, rfl, hown, hset, hb, hsz⟩ := hrel
    by_cases hlt : k < n
    · have hlt' : (k : Int) < n := by omega
      obtain ⟨b, o, v, rfl, hbw, hx, c0⟩ := (HR.out.below hb).get hlt
      have hwf := HW.out v (List.mem_of_getElem? hx)
      have htk : x.take (k + 1) = x.take k ++ [v] := by rw [List.take_add_one, hx]; rfl
      have HX := Lib.hid hx; have HS := Lib.hid hset; have HO := Lib.hid hown; clear hx hset hown
      go_wp2_with (at_mapUpdate; refine wpList_mapUpdate_own _ rfl _ _ _ 106 rfl 3 4 (Maps.int_keyed Try.underlying3) Try.underlying106 _ w.heap.size k _ rfl HO.out (by unfold maxLen; omega) _ _ _ rfl rfl (Maps.keyOf_int_mk Try.underlying3 hwf) _ [] (plainElem_bool Try.underlying4 true) ?_; intro w1 hown1 hgrow1)
      go_roundw
      case rel => exact ⟨k + 1, _, by omega, by go_num, hown1, by rw [htk]; exact HS.out.put v, hb.grown hgrow1 hb.size (fun q e => by cases e; exact Nat.le_refl _), Nat.lt_of_lt_of_le hsz hgrow1.size⟩
      case measure => simp [intOf]; omega
    · obtain rfl : k = n := by omega
      rw [List.take_of_length_le (by rw [HR.out.len]; exact Nat.le_refl _)] at hset
      have HS := Lib.hid hset; have HO := Lib.hid hown; clear hset hown
      go_wp2
      go_ret
      exact ⟨w.heap.size, rfl, Nat.le_refl _, ⟨k, D, HO.out, by rw [HR.out.len]; exact Nat.le_refl _, HS.out⟩, hb⟩

set_option maxHeartbeats 1000000 in
/-- What without picks by. -/
theorem out_any (B b : Nat) (S : List Int) (x : Bnd) (hx : Wf x.b) (w : World) (hB : Blk w B 106 #[.map (some b)]) (hS : OwnS w b S) :
    Calls Try.prog 119 #[.agg #[.int .i64 x.f, .int .i64 x.t, .int .i64 x.m, .int .i64 x.b], .pointer (some ⟨B, 0, none⟩)] w fun e w' => e = .returned (.bool (!decide (x.b ∈ S))) ∧ Below w.heap.size w w' := by
  obtain ⟨f, t, m, i⟩ := x
  dsimp only at hx ⊢
  have hb0 : Below w.heap.size w (w.alloc (.cells #[.int .i64 f, .int .i64 t, .int .i64 m, .int .i64 i] 54)) := (Below.refl _ w).alloc (Nat.le_refl _) _
  have hl := (hS.keep hb0).look hx
  have c0 : (w.alloc (.cells #[.int .i64 f, .int .i64 t, .int .i64 m, .int .i64 i] 54)).cell? ⟨B, 0, none⟩ = some (.map (some b)) := (hB.alloc _).cell 0
  have hlt := hB.lt
  generalize decide (i ∈ S) = q at *
  have HL := Lib.hid hl; clear hB hS
  go_enter Try.func119, Try.ntmps119
  go_wp2
  go_ret
  exact ⟨rfl, hb0⟩

/-- The bounds that are of none of some Ids. -/
def dropL (l : List Bnd) (S : List Int) : List Bnd := l.filter (fun x => !decide (x.b ∈ S))

set_option maxRecDepth 100000 in
set_option maxHeartbeats 2000000 in
theorem picked_any (A : Option Addr) (n c B b : Nat) (l : List Bnd) (S : List Int) (hw : ∀ x ∈ l, Wf x.b) (hn : n ≤ 1000) (w : World) (hr : RdB w A n c l) (hB : Blk w B 106 #[.map (some b)]) (hS : OwnS w b S) :
    Calls Try.prog 98 #[.slice A n c, .func (.func 119) #[] #[.pointer (some ⟨B, 0, none⟩)]] w fun e w' => ∃ A' n' c', e = .returned (.slice A' n' c') ∧ OwnB w' w.heap.size A' n' c' (dropL l S) ∧ Below w.heap.size w w' := by
  obtain ⟨i0, hi0, hz0, hz1, hz2⟩ := info_parts infoB
  have HI := Lib.hid hi0; have HZ0 := Lib.hid hz0; have HZ1 := Lib.hid hz1; have HZ2 := Lib.hid hz2; clear hi0 hz0 hz1 hz2
  have HR := Lib.hid hr; have HW := Lib.hid hw; have HB := Lib.hid hB; have HS := Lib.hid hS; clear hr hw hB hS
  go_enter Try.func98, Try.ntmps98
  go_wp2
  go_loopw [10, 5] (fun i v wr => ∃ k : Nat, k ≤ n ∧ i = .int .i64 k ∧ wr.ownsRow w.heap.size 54 4 v (dropL (l.take k) S).length (bcells (dropL (l.take k) S)) ∧ Below w.heap.size w wr) (fun i _ _ => n - (intOf i).toNat)
  case atStart => exact ⟨0, Nat.zero_le _, rfl, World.ownsRow_nil _ _ _ _, Below.refl _ _⟩
  case round =>
    obtain ⟨k, hk, rfl, hown, hb⟩ := hrel
    by_cases hlt : k < n
    · have hlt' : (k : Int) < n := by omega
      obtain ⟨g, o, f, t, m, i, rfl, hbw, hx, c0, c1, c2, c3⟩ := (HR.out.below hb).get hlt
      have hwf := HW.out _ (List.mem_of_getElem? hx)
      have htk : l.take (k + 1) = l.take k ++ [⟨f, t, m, i⟩] := by rw [List.take_add_one, hx]; rfl
      have hdr : dropL (l.take (k + 1)) S = dropL (l.take k) S ++ (if decide (i ∈ S) = true then [] else [⟨f, t, m, i⟩]) := by
        rw [htk]; unfold dropL; rw [List.filter_append]; congr 1
        by_cases h : i ∈ S <;> simp [h]
      have hlen : (dropL (l.take k) S).length ≤ k := by
        have h1 := List.length_filter_le (fun x : Bnd => !decide (x.b ∈ S)) (l.take k)
        have h2 := List.length_take_le k l
        unfold dropL; omega
      have hb1 : Below wr.heap.size wr (wr.alloc (.cells #[.int .i64 f, .int .i64 t, .int .i64 m, .int .i64 i] 54)) := (Below.refl _ wr).alloc (Nat.le_refl _) _
      have hBe := hb.trans (hb1.mono hb.size)
      have hout := out_any B b S ⟨f, t, m, i⟩ hwf _ (HB.out.keep hBe) (HS.out.keep hBe)
      dsimp only at hout
      have C5 := Lib.hid (Blk.new wr 54 #[.int .i64 f, .int .i64 t, .int .i64 m, .int .i64 i])
      have HOUT := Lib.hid hout; have OW := Lib.hid (hown.alloc (.cells #[.int .i64 f, .int .i64 t, .int .i64 m, .int .i64 i] 54)); have HD := Lib.hid hdr; have HBE := Lib.hid hBe; clear hx hwf htk hdr hb1 hout hown hBe
      generalize decide (i ∈ S) = q at *
      cases q
      · rw [if_neg (by simp)] at HD
        go_wp2_with fail
        refine HOUT.out.mono ?_
        rintro e w1 ⟨rfl, hb1⟩
        have O1 := Lib.hid ((owns_below OW.out hb1).alloc (.cells #[.int .i64 f, .int .i64 t, .int .i64 m, .int .i64 i] 54))
        have N1 := Lib.hid (Blk.new w1 54 #[.int .i64 f, .int .i64 t, .int .i64 m, .int .i64 i])
        have hbb := HBE.out.trans (hb1.mono HBE.out.size)
        have hbb2 := hbb.alloc hbb.size (.cells #[.int .i64 f, .int .i64 t, .int .i64 m, .int .i64 i] 54)
        have C6 := C5.out.keep hb1
        have d0 : w1.cell? ⟨wr.heap.size, 0, none⟩ = some (.int .i64 f) := C6.cell 0
        have d1 : w1.cell? ⟨wr.heap.size, 1, none⟩ = some (.int .i64 t) := C6.cell 1
        have d2 : w1.cell? ⟨wr.heap.size, 2, none⟩ = some (.int .i64 m) := C6.cell 2
        have d3 : w1.cell? ⟨wr.heap.size, 3, none⟩ = some (.int .i64 i) := C6.cell 3
        clear C6
        go_wp2_with (at_builtin; refine wpList_append_own _ rfl (.tmp 17) (.tmp 19) 22 rfl w.heap.size 54 i0 _ 4 32 Try.underlying22 HI.out HZ0.out HZ1.out HZ2.out rfl (by omega) u5 _ _ rfl O1.out ⟨w1.heap.size, 0, none⟩ 1 1 (Bnd.cells ⟨f, t, m, i⟩) rfl rfl (fun j u hu => by rw [Addr.add_lit, Nat.zero_add, N1.out.cell]; simpa [Bnd.cells] using hu) (by simp [Bnd.cells, Value.oneCell']) (by unfold maxLen; omega) (by omega) hbb2.size ?_; intro v' w4 hown4 hg4 _; have HO4 := Lib.hid hown4; have HG4 := Lib.hid hg4; clear hown4 hg4)
        go_roundw
        case rel => exact ⟨k + 1, by omega, by go_num, (by rw [HD.out, List.length_append, bcells_append]; exact HO4.out), hbb2.grown HG4.out hbb2.size (fun q e => (O1.out.lt q e).1)⟩
        case measure => simp [intOf]; omega
      · rw [if_pos rfl, List.append_nil] at HD
        go_wp2_with fail
        refine HOUT.out.mono ?_
        rintro e w1 ⟨rfl, hb1⟩
        go_wp2
        go_roundw
        case rel => exact ⟨k + 1, by omega, by go_num, (by rw [HD.out]; exact owns_below OW.out hb1), HBE.out.trans (hb1.mono HBE.out.size)⟩
        case measure => simp [intOf]; omega
    · obtain rfl : k = n := by omega
      rw [List.take_of_length_le (by rw [HR.out.len]; exact Nat.le_refl _)] at hown
      obtain ⟨A5, c5, hv5, -⟩ := own_form hown
      have OW := Lib.hid hown; clear hown
      subst hv5
      go_wp2
      go_ret
      exact ⟨_, _, _, rfl, OW.out, hb⟩

end Go.Proofs.Ythlnialipjihdaa

/- without of gauge. -/
namespace Go.Proofs.Ythlnialipjihdaa
open Go.RowKit Go.Maps

set_option maxRecDepth 100000 in
set_option maxHeartbeats 2000000 in
theorem without_any (p : Int) (A B : Option Addr) (n c m d : Nat) (l : List Bnd) (S : List Int) (hw : ∀ x ∈ l, Wf x.b) (hS : ∀ v ∈ S, Wf v) (hn : n ≤ 1000) (hm : m ≤ 100000) (w : World) (hr : RdB w A n c l) (hq : RdI w B m d S) :
    Calls Try.prog 101 #[.agg #[.int .i64 p, .slice A n c], .slice B m d] w fun e w' => ∃ A' n' c', e = .returned (.agg #[.int .i64 p, .slice A' n' c']) ∧ OwnB w' w.heap.size A' n' c' (dropL l S) ∧ Below w.heap.size w w' := by
  have hB : Below w.heap.size w ((w.alloc (.cells #[.int .i64 p, .slice A n c] 70)).alloc (.cells #[.int .i64 0, .slice none 0 0] 70)) := ((Below.refl _ w).alloc (Nat.le_refl _) _).alloc (by simp) _
  have hset := idSet_any B m d S hS hm _ (hq.below hB)
  have b0 := (Blk.new w 70 #[.int .i64 p, .slice A n c]).alloc (.cells #[.int .i64 0, .slice none 0 0] 70)
  have b1 := Blk.new (w.alloc (.cells #[.int .i64 p, .slice A n c] 70)) 70 #[.int .i64 0, .slice none 0 0]
  simp only [World.size_alloc] at b1
  have HSET := Lib.hid hset; have B0 := Lib.hid b0; have B1 := Lib.hid b1; have HR := Lib.hid hr; have HW := Lib.hid hw; clear hset b0 b1 hr hq hw hS
  go_enter Try.func101, Try.ntmps101
  go_wp2_with (go_at_call 97; refine HSET.out.mono ?_; rintro e wg ⟨b1, rfl, -, hos, hb1⟩; have HOS := Lib.hid hos; clear hos)
  have hB1 := hB.trans (hb1.mono hB.size)
  have C0 := Lib.hid (((B0.out.keep hb1)).alloc (.cells #[.map (some b1)] 106)).drew
  have CR := Lib.hid (((B1.out.keep hb1)).alloc (.cells #[.map (some b1)] 106)).drew
  have CM := Lib.hid (Blk.new wg 106 #[.map (some b1)]).drew
  have HB1 := Lib.hid (hB1.alloc hB1.size (.cells #[.map (some b1)] 106)).drew
  have RD1 := Lib.hid (HR.out.below (hB1.alloc hB1.size (.cells #[.map (some b1)] 106))).drew
  have HS1 := Lib.hid (show OwnS (wg.alloc (.cells #[.map (some b1)] 106)).drew b1 S from HOS.out.keep ((Below.refl _ wg).alloc (Nat.le_refl _) _).drew)
  have hlt := hB1.size
  generalize wg.alloc (.cells #[.map (some b1)] 106) = W0 at *
  refine wp_region_held_drew (S := (fun W' => Blk W' w.heap.size 70 #[.int .i64 p, .slice A n c])) (by kernel_rfl) C0.out (fun _ => ?_)
  obtain ⟨w909, hw910⟩ : ∃ w', w' = W0.drew := ⟨_, rfl⟩
  rw [← hw910] at C0 CR CM HB1 RD1 HS1
  rw [← hw910]
  clear hw910
  refine' wpAnyH_take (i := 0) (oi := { dst := some 8, op := Go.Op.fieldAddr 70 (Go.Operand.tmp 2) 0, type := 0, pos := "graph.go:67", after := #[], guard := none }) (v := _) rfl (by kernel_rfl) (by kernel_rfl) (by kernel_rfl) (fun _ _ _ h => h) (Or.inl ⟨by rfl, ?hyR911⟩) C0.out ?reR911
  case hyR911 => (rintro W' hS0; clear hS0; go_simp; try with_reducible rfl)
  try simp only [Act.put, List.setIfInBounds_toArray, List.set_cons_zero, List.set_cons_succ]
  refine' wpAnyH_take (i := 1) (oi := { dst := some 9, op := Go.Op.load 3 (Go.Operand.tmp 8), type := 3, pos := "graph.go:67", after := #[{ on := 0, ground := Go.Ground.data }], guard := none }) (v := _) rfl (by kernel_rfl) (by kernel_rfl) (by kernel_rfl) (fun _ _ _ h => h) (Or.inl ⟨by rfl, ?hyR912⟩) C0.out ?reR912
  case hyR912 => (rintro W' hS0; have hc0 : W'.cell? ⟨w.heap.size, 0, none⟩ = some (.int .i64 p) := Blk.cell hS0 0; clear hS0; go_simp; try with_reducible rfl)
  try simp only [Act.put, List.setIfInBounds_toArray, List.set_cons_zero, List.set_cons_succ]
  refine' wpAnyH_take (i := 2) (oi := { dst := some 10, op := Go.Op.fieldAddr 70 (Go.Operand.tmp 2) 1, type := 0, pos := "graph.go:67", after := #[], guard := none }) (v := _) rfl (by kernel_rfl) (by kernel_rfl) (by kernel_rfl) (fun _ _ _ h => h) (Or.inl ⟨by rfl, ?hyR913⟩) C0.out ?reR913
  case hyR913 => (rintro W' hS0; clear hS0; go_simp; try with_reducible rfl)
  try simp only [Act.put, List.setIfInBounds_toArray, List.set_cons_zero, List.set_cons_succ]
  refine' wpAnyH_take (i := 3) (oi := { dst := some 11, op := Go.Op.load 22 (Go.Operand.tmp 10), type := 22, pos := "graph.go:67", after := #[{ on := 2, ground := Go.Ground.data }], guard := none }) (v := _) rfl (by kernel_rfl) (by kernel_rfl) (by kernel_rfl) (fun _ _ _ h => h) (Or.inl ⟨by rfl, ?hyR914⟩) C0.out ?reR914
  case hyR914 => (rintro W' hS0; have hc0 : W'.cell? ⟨w.heap.size, 1, none⟩ = some (.slice A n c) := Blk.cell hS0 1; clear hS0; go_simp; try with_reducible rfl)
  try simp only [Act.put, List.setIfInBounds_toArray, List.set_cons_zero, List.set_cons_succ]
  refine' wpAnyH_take (i := 4) (oi := { dst := some 12, op := Go.Op.makeFunc (Go.Fn.func 119) #[] #[Go.Operand.tmp 5], type := 109, pos := "graph.go:67", after := #[], guard := none }) (v := _) rfl (by kernel_rfl) (by kernel_rfl) (by kernel_rfl) (fun _ _ _ h => h) (Or.inl ⟨by rfl, ?hyR915⟩) C0.out ?reR915
  case hyR915 => (rintro W' hS0; clear hS0; go_simp; try with_reducible rfl)
  try simp only [Act.put, List.setIfInBounds_toArray, List.set_cons_zero, List.set_cons_succ]
  refine wpAnyH_ready (rs := [5]) (by kernel_rfl) (by simp) ?_
  refine AllReadyH.cons (o := { dst := some 13, op := Go.Op.call { callee := Go.Callee.value (Go.Operand.func 98), args := #[Go.Operand.tmp 11, Go.Operand.tmp 12], argTypes := #[22, 109] }, type := 22, pos := "graph.go:67", after := #[{ on := 3, ground := Go.Ground.data }, { on := 4, ground := Go.Ground.data }], guard := none }) rfl (fun K hK => ?_) ?_
  · -- 5: call
    go_simp
    go_at_call 98
    refine (picked_any A n c wg.heap.size b1 l S HW.out hn _ RD1.out CM.out HS1.out).mono ?_
    rintro e w916 ⟨A6, n6, c6, rfl, ho6, hb917⟩
    dsimp only
    have HO6 := Lib.hid ho6; clear ho6
    have b0_918 := Lib.hid (Blk.keep (C0.out) hb917)
    have br_919 := Lib.hid (Blk.keep (CR.out) hb917)
    have bm_920 := Lib.hid (Blk.keep (CM.out) hb917)
    have bel_921 := Lib.hid (Below.trans (HB1.out) (Below.mono hb917 ((HB1.out).size)))
    have rd_922 := Lib.hid (RdB.below (RD1.out) hb917)
    refine hK.out _ _ b0_918.out (fun _ => ?_); clear hK K
    try simp only [Act.put, List.setIfInBounds_toArray, List.set_cons_zero, List.set_cons_succ]
    refine' wpAnyH_take (i := 6) (oi := { dst := some 14, op := Go.Op.build 70 #[(0, Go.Operand.tmp 9), (1, Go.Operand.tmp 13)], type := 70, pos := "graph.go:67", after := #[{ on := 1, ground := Go.Ground.data }, { on := 5, ground := Go.Ground.data }], guard := none }) (v := _) rfl (by kernel_rfl) (by kernel_rfl) (by kernel_rfl) (fun _ _ _ h => h) (Or.inl ⟨by rfl, ?hyR923⟩) b0_918.out ?reR923
    case hyR923 => (rintro W' hS0; clear hS0; go_simp; try with_reducible rfl)
    try simp only [Act.put, List.setIfInBounds_toArray, List.set_cons_zero, List.set_cons_succ]
    refine wpAnyH_ready (rs := [7]) (by kernel_rfl) (by simp) ?_
    refine AllReadyH.cons (o := { dst := none, op := Go.Op.store 70 (Go.Operand.tmp 4) (Go.Operand.tmp 14), type := 0, pos := "graph.go:67", after := #[{ on := 6, ground := Go.Ground.data }, { on := 5, ground := Go.Ground.chain }, { on := 0, ground := Go.Ground.phase }, { on := 1, ground := Go.Ground.phase }, { on := 2, ground := Go.Ground.phase }, { on := 3, ground := Go.Ground.phase }, { on := 4, ground := Go.Ground.phase }, { on := 5, ground := Go.Ground.phase }, { on := 6, ground := Go.Ground.phase }], guard := none }) rfl (fun K hK => ?_) ?_
    · -- 7: store
      have v0 : w916.cell? ⟨w.heap.size + 1, 0, none⟩ = some (.int .i64 0) := Blk.cell br_919.out 0
      have v1 : w916.cell? ⟨w.heap.size + 1, 1, none⟩ = some (.slice none 0 0) := Blk.cell br_919.out 1
      have f0 : w916.frozen? ⟨w.heap.size + 1, 0, none⟩ = false := Blk.frozen br_919.out 0
      have f1 : w916.frozen? ⟨w.heap.size + 1, 1, none⟩ = false := Blk.frozen br_919.out 1
      go_simp
      have k924 := Lib.hid (Blk.far (Blk.far (b0_918.out) (p := ⟨w.heap.size + 1, 0, none⟩) (by simp; try omega) (.int .i64 p)) (p := ⟨w.heap.size + 1, 1, none⟩) (by simp; try omega) (.slice A6 n6 c6))
      refine hK.out _ _ k924.out (fun _ => ?_); clear hK K
      try simp only [Act.put, List.setIfInBounds_toArray, List.set_cons_zero, List.set_cons_succ]
      refine wpAnyH_done (by kernel_rfl) ?_ _
      go_wp2
      refine bodyPost_ret (v := .agg #[.int .i64 p, .slice A6 n6 c6]) (by simp [results, Try.results101, go_sem, v0, v1]) rfl ?_
      refine ⟨A6, n6, c6, rfl, ?_, (by have hsz_ := Below.size bel_921.out; repeat' (first | with_reducible exact bel_921.out | with_reducible exact Below.refl _ _ | with_reducible refine Below.alloc ?_ ?_ _ | with_reducible refine Below.setCell ?_ ?_ _ | with_reducible refine Below.drew ?_ | with_reducible refine below_setRow ?_ ?_ _ | omega | (simp; done) | (simp; omega)))⟩
      exact owns_base (ownsRow_setCell_below (ownsRow_setCell_below HO6.out (a := ⟨w.heap.size + 1, 0, none⟩) (Blk.lt CR.out) _) (a := ⟨w.heap.size + 1, 1, none⟩) (Blk.lt CR.out) _) (Below.size HB1.out)
    exact AllReadyH.nil
  exact AllReadyH.nil
end Go.Proofs.Ythlnialipjihdaa

/- The library's sort and the keys of a map, at this program's numbers. -/
namespace Go.Proofs.Ythlnialipjihdaa
open Go.RowKit Go.Maps Go.Sort Go.Shelf

def keysA_ren : Go.Shelf.Ren := ⟨fun | 7 => 123 | 10 => 127 | n => n, fun | 23 => 106 | 26 => 3 | 3 => 4 | 28 => 131 | 0 => 0 | 27 => 130 | 33 => 73 | 4 => 4 | n => n, fun | n => n⟩
theorem keysA : Go.Proofs.SlLaysZI.n7 Try.prog keysA_ren where
  mixed := by kernel_rfl
  f7 := ⟨ "maps.Keys[map[int]bool,int,bool]", by decide, Try.func123.trans (congrArg some (by kernel_rfl))⟩
  f10 := ⟨ "maps.Keys[map[int]bool,int,bool]$1", by decide, Try.func127.trans (congrArg some (by kernel_rfl))⟩
  t0 := Try.underlying0
  a0 := Try.isAgg0
  z0 := Try.sizeOf0
  v0 := Try.zeroValue0
  t4 := Try.underlying4
  a4 := Try.isAgg4
  z4 := Try.sizeOf4
  v4 := Try.zeroValue4
  t23 := Try.underlying106
  a23 := Try.isAgg106
  z23 := Try.sizeOf106
  v23 := Try.zeroValue106
  t26 := Try.underlying3
  a26 := Try.isAgg3
  z26 := Try.sizeOf3
  v26 := Try.zeroValue3
  t27 := Try.underlying130
  a27 := Try.isAgg130
  z27 := Try.sizeOf130
  v27 := Try.zeroValue130
  t28 := Try.underlying131
  a28 := Try.isAgg131
  z28 := Try.sizeOf131
  v28 := Try.zeroValue131
  t33 := Try.underlying73
  a33 := Try.isAgg73
  z33 := Try.sizeOf73
  v33 := Try.zeroValue73
def sortedA_ren : Go.Shelf.Ren := ⟨fun | 6 => 122 | 8 => 125 | 9 => 126 | 11 => 128 | 13 => 130 | 12 => 129 | 23 => 140 | 24 => 141 | 14 => 131 | 15 => 132 | 16 => 133 | 17 => 134 | 18 => 135 | 19 => 136 | 20 => 137 | 21 => 138 | 22 => 139 | 25 => 142 | 26 => 143 | 27 => 144 | 28 => 145 | 29 => 146 | 30 => 147 | 31 => 148 | n => n, fun | 26 => 3 | 28 => 131 | 24 => 33 | 0 => 0 | 3 => 3 | 37 => 136 | 48 => 145 | 50 => 147 | 4 => 4 | 40 => 139 | 39 => 138 | 45 => 85 | 5 => 5 | 9 => 9 | 51 => 148 | 55 => 152 | 57 => 154 | 58 => 155 | 33 => 73 | n => n, fun | n => n⟩
theorem sortedA : Go.Proofs.SlLaysZI.n6 Try.prog sortedA_ren where
  mixed := by kernel_rfl
  f6 := ⟨ "slices.Sorted[int]", by decide, Try.func122.trans (congrArg some (by kernel_rfl))⟩
  f8 := ⟨ "slices.Collect[int]", by decide, Try.func125.trans (congrArg some (by kernel_rfl))⟩
  f11 := ⟨ "slices.AppendSeq[[]int,int]", by decide, Try.func128.trans (congrArg some (by kernel_rfl))⟩
  t0 := Try.underlying0
  a0 := Try.isAgg0
  z0 := Try.sizeOf0
  v0 := Try.zeroValue0
  t24 := Try.underlying33
  a24 := Try.isAgg33
  z24 := Try.sizeOf33
  v24 := Try.zeroValue33
  t26 := Try.underlying3
  a26 := Try.isAgg3
  z26 := Try.sizeOf3
  v26 := Try.zeroValue3
  t28 := Try.underlying131
  a28 := Try.isAgg131
  z28 := Try.sizeOf131
  v28 := Try.zeroValue131
  i26 := by kernel_rfl
def sortA_ren : Go.Shelf.Ren := ⟨fun | 5 => 126 | 8 => 130 | 7 => 129 | 19 => 140 | 20 => 141 | 10 => 131 | 11 => 132 | 12 => 133 | 13 => 134 | 14 => 135 | 15 => 136 | 16 => 137 | 17 => 138 | 18 => 139 | 30 => 142 | 31 => 143 | 32 => 144 | 33 => 145 | 34 => 146 | 35 => 147 | 40 => 148 | n => n, fun | 23 => 33 | 25 => 3 | 3 => 3 | 32 => 136 | 22 => 33 | 0 => 0 | 44 => 145 | 46 => 147 | 4 => 4 | 36 => 139 | 35 => 138 | 41 => 85 | 5 => 5 | 9 => 9 | 53 => 148 | 57 => 152 | 63 => 154 | 64 => 155 | n => n, fun | n => n⟩
theorem sortA : Go.Proofs.SlLaysM.n5 Try.prog sortA_ren where
  mixed := by kernel_rfl
  f5 := ⟨ "slices.Sort[[]int,int]", by decide, Try.func126.trans (congrArg some (by kernel_rfl))⟩
  f7 := ⟨ "slices.pdqsortOrdered[int]", by decide, Try.func129.trans (congrArg some (by kernel_rfl))⟩
  f8 := Try.func130.trans (congrArg some (by kernel_rfl))
  f10 := ⟨ "slices.insertionSortOrdered[int]", by decide, Try.func131.trans (congrArg some (by kernel_rfl))⟩
  f11 := ⟨ "slices.heapSortOrdered[int]", by decide, Try.func132.trans (congrArg some (by kernel_rfl))⟩
  f12 := ⟨ "slices.breakPatternsOrdered[int]", by decide, Try.func133.trans (congrArg some (by kernel_rfl))⟩
  f13 := ⟨ "slices.choosePivotOrdered[int]", by decide, Try.func134.trans (congrArg some (by kernel_rfl))⟩
  f14 := ⟨ "slices.reverseRangeOrdered[int]", by decide, Try.func135.trans (congrArg some (by kernel_rfl))⟩
  f15 := ⟨ "slices.partialInsertionSortOrdered[int]", by decide, Try.func136.trans (congrArg some (by kernel_rfl))⟩
  f16 := ⟨ "cmp.Less[int]", by decide, Try.func137.trans (congrArg some (by kernel_rfl))⟩
  f17 := ⟨ "slices.partitionEqualOrdered[int]", by decide, Try.func138.trans (congrArg some (by kernel_rfl))⟩
  f18 := ⟨ "slices.partitionOrdered[int]", by decide, Try.func139.trans (congrArg some (by kernel_rfl))⟩
  f19 := Try.func140.trans (congrArg some (by kernel_rfl))
  f20 := Try.func141.trans (congrArg some (by kernel_rfl))
  f30 := ⟨ "slices.siftDownOrdered[int]", by decide, Try.func142.trans (congrArg some (by kernel_rfl))⟩
  f31 := Try.func143.trans (congrArg some (by kernel_rfl))
  f32 := Try.func144.trans (congrArg some (by kernel_rfl))
  f33 := ⟨ "slices.medianAdjacentOrdered[int]", by decide, Try.func145.trans (congrArg some (by kernel_rfl))⟩
  f34 := ⟨ "slices.medianOrdered[int]", by decide, Try.func146.trans (congrArg some (by kernel_rfl))⟩
  f35 := ⟨ "cmp.isNaN[int]", by decide, Try.func147.trans (congrArg some (by kernel_rfl))⟩
  f40 := ⟨ "slices.order2Ordered[int]", by decide, Try.func148.trans (congrArg some (by kernel_rfl))⟩
  t0 := Try.underlying0
  a0 := Try.isAgg0
  z0 := Try.sizeOf0
  v0 := Try.zeroValue0
  t3 := Try.underlying3
  a3 := Try.isAgg3
  z3 := Try.sizeOf3
  v3 := Try.zeroValue3
  t4 := Try.underlying4
  a4 := Try.isAgg4
  z4 := Try.sizeOf4
  v4 := Try.zeroValue4
  t5 := Try.underlying5
  a5 := Try.isAgg5
  z5 := Try.sizeOf5
  v5 := Try.zeroValue5
  t9 := Try.underlying9
  a9 := Try.isAgg9
  z9 := Try.sizeOf9
  v9 := Try.zeroValue9
  t22 := Try.underlying33
  a22 := Try.isAgg33
  z22 := Try.sizeOf33
  v22 := Try.zeroValue33
  t23 := Try.underlying33
  a23 := Try.isAgg33
  z23 := Try.sizeOf33
  v23 := Try.zeroValue33
  t25 := Try.underlying3
  a25 := Try.isAgg3
  z25 := Try.sizeOf3
  v25 := Try.zeroValue3
  t32 := Try.underlying136
  a32 := Try.isAgg136
  z32 := Try.sizeOf136
  v32 := Try.zeroValue136
  t35 := Try.underlying138
  a35 := Try.isAgg138
  z35 := Try.sizeOf138
  v35 := Try.zeroValue138
  t36 := Try.underlying139
  a36 := Try.isAgg139
  z36 := Try.sizeOf139
  v36 := Try.zeroValue139
  t41 := Try.underlying85
  a41 := Try.isAgg85
  z41 := Try.sizeOf85
  v41 := Try.zeroValue85
  t44 := Try.underlying145
  a44 := Try.isAgg145
  z44 := Try.sizeOf145
  v44 := Try.zeroValue145
  t46 := Try.underlying147
  a46 := Try.isAgg147
  z46 := Try.sizeOf147
  v46 := Try.zeroValue147
  t53 := Try.underlying148
  a53 := Try.isAgg148
  z53 := Try.sizeOf148
  v53 := Try.zeroValue148
  t57 := Try.underlying152
  a57 := Try.isAgg152
  z57 := Try.sizeOf152
  v57 := Try.zeroValue152
  t63 := Try.underlying154
  a63 := Try.isAgg154
  z63 := Try.sizeOf154
  v63 := Try.zeroValue154
  t64 := Try.underlying155
  a64 := Try.isAgg155
  z64 := Try.sizeOf155
  v64 := Try.zeroValue155

theorem sortsA (m : Nat) : AnyZI.SortsIn Try.prog sortedA_ren Fence.wide m :=
  ⟨fun blk off cap ss W hH hblk hsz => callsIn_wide.2 (AnyM.slices_Sort_int sortA blk off cap ss W hH hblk hsz),
   fun p cap W => callsIn_wide.2 (AnyM.slices_Sort_int_none sortA p cap W)⟩

/-- maps.Keys at a map of numbers. -/
theorem keys_any (mb : Option Nat) (w : World) : Calls Try.prog 123 #[.map mb] w fun e w' => e = .returned (.func (.func 127) #[] #[.pointer (some ⟨w.heap.size, 0, none⟩)]) ∧ w' = w.alloc (.cells #[.map mb] 106) :=
  callsIn_wide.1 (AnyZI.keys_in keysA Fence.wide 5 trivial rfl mb w)

/-- slices.Sorted of the keys of a map. -/
theorem sorted_any {H : Type} (B b nn : Nat) (D0 : DataW H) (R : Value → Option (DataW H × List MemPlace)) (w : World) (hown : w.ownsMap Try.prog 3 R b nn D0) (hn : nn ≤ 100000) (hB : Blk w B 106 #[.map (some b)]) :
    Calls Try.prog 122 #[.func (.func 127) #[] #[.pointer (some ⟨B, 0, none⟩)]] w fun e w' => ∃ (v : Value) (ss : List Int), e = .returned v ∧ ss.Perm (intKeys D0) ∧
      w'.ownsRow w.heap.size 3 1 v ss.length ((ss.mergeSort (fun x y => decide (x ≤ y))).map encZ) ∧ Below w.heap.size w w' := by
  have hsz := hown.size_le
  have hseq : SeqGives Fence.wide 2 Try.prog 127 #[.pointer (some ⟨B, 0, none⟩)] encZ (fun ss => ss.Perm (intKeys D0)) (Maps.size D0) w :=
    AnyZI.keys_gives (ρ := keysA_ren) { keysA with } Fence.wide _ trivial rfl (by omega) B b nn D0 w hB.lt (hB.cell 0) hown
  have cS := AnyZI.sorted_in sortedA Fence.wide 5 trivial trivial trivial trivial rfl (by omega) (sortsA _) (enters_of Try.func126 (by kernel_rfl) rfl) 127 #[.pointer (some ⟨B, 0, none⟩)] trivial (enters_of Try.func127 (by kernel_rfl) rfl) _ _ (by unfold maxLen; omega) (by omega) _ hseq
  change CallsIn _ _ Try.prog 122 _ _ _ at cS
  refine (callsIn_wide.1 cS).mono ?_
  rintro e w' ⟨v, ss, h1, h2, h3, -, h5⟩
  exact ⟨v, ss, h1, h2, h3, h5⟩
end Go.Proofs.Ythlnialipjihdaa

/- idsOf of gauge: the Ids of bounds, each once, ascending. -/
namespace Go.Proofs.Ythlnialipjihdaa
open Go.RowKit Go.Maps

/-- A number in its place of an ascending list. -/
def insU (x : Int) : List Int → List Int
  | [] => [x]
  | y :: r => if x < y then x :: y :: r else if x = y then y :: r else y :: insU x r
def idsL (l : List Bnd) : List Int := (l.map (·.b)).foldr (fun x acc => if x = 0 then acc else insU x acc) []
theorem mem_insU (x z : Int) : ∀ l : List Int, z ∈ insU x l ↔ z = x ∨ z ∈ l
  | [] => by simp [insU]
  | y :: r => by
    unfold insU
    by_cases h1 : x < y
    · rw [if_pos h1]; simp
    · rw [if_neg h1]
      by_cases h2 : x = y
      · rw [if_pos h2]; subst h2; simp
      · rw [if_neg h2, List.mem_cons, mem_insU x z r, List.mem_cons]
        constructor
        · rintro (h | h | h)
          · exact .inr (.inl h)
          · exact .inl h
          · exact .inr (.inr h)
        · rintro (h | h | h)
          · exact .inr (.inl h)
          · exact .inl h
          · exact .inr (.inr h)
theorem insU_sorted (x : Int) : ∀ l : List Int, l.Pairwise (· < ·) → (insU x l).Pairwise (· < ·)
  | [], _ => by simp [insU]
  | y :: r, h => by
    rw [List.pairwise_cons] at h
    unfold insU
    by_cases h1 : x < y
    · rw [if_pos h1, List.pairwise_cons]
      exact ⟨fun z hz => by rcases List.mem_cons.1 hz with e | e; (subst e; exact h1); exact Int.lt_trans h1 (h.1 z e), List.pairwise_cons.2 h⟩
    · rw [if_neg h1]
      by_cases h2 : x = y
      · rw [if_pos h2]; exact List.pairwise_cons.2 h
      · rw [if_neg h2, List.pairwise_cons]
        exact ⟨fun z hz => by rcases (mem_insU x z r).1 hz with e | e; (subst e; omega); exact h.1 z e, insU_sorted x r h.2⟩
theorem fold_ids : ∀ l : List Int, (l.foldr (fun x acc => if x = 0 then acc else insU x acc) []).Pairwise (· < ·) ∧ ∀ z, z ∈ l.foldr (fun x acc => if x = 0 then acc else insU x acc) [] ↔ z ≠ 0 ∧ z ∈ l
  | [] => ⟨List.Pairwise.nil, fun z => by simp⟩
  | x :: r => by
    obtain ⟨h1, h2⟩ := fold_ids r
    rw [List.foldr_cons]
    by_cases hx : x = 0
    · rw [if_pos hx]
      refine ⟨h1, fun z => ?_⟩
      rw [h2 z, List.mem_cons, hx]
      constructor
      · exact fun h => ⟨h.1, .inr h.2⟩
      · exact fun h => ⟨h.1, h.2.resolve_left h.1⟩
    · rw [if_neg hx]
      refine ⟨insU_sorted x _ h1, fun z => ?_⟩
      rw [mem_insU, h2 z, List.mem_cons]
      constructor
      · rintro (h | h)
        · exact ⟨by rw [h]; exact hx, .inl h⟩
        · exact ⟨h.1, .inr h.2⟩
      · exact fun h => h.2.elim .inl (fun e => .inr ⟨h.1, e⟩)
theorem idsL_sorted (l : List Bnd) : (idsL l).Pairwise (· < ·) := (fold_ids _).1
theorem mem_idsL {l : List Bnd} {z : Int} : z ∈ idsL l ↔ z ≠ 0 ∧ ∃ x ∈ l, x.b = z := by
  unfold idsL
  rw [(fold_ids _).2 z, List.mem_map]
theorem idsL_length (l : List Bnd) : (idsL l).length ≤ l.length := by
  have key : ∀ r : List Int, (r.foldr (fun x acc => if x = 0 then acc else insU x acc) []).length ≤ r.length := by
    intro r
    induction r with
    | nil => exact Nat.le_refl _
    | cons x r ih =>
      rw [List.foldr_cons, List.length_cons]
      have hl : ∀ s : List Int, (insU x s).length ≤ s.length + 1 := by
        intro s
        induction s with
        | nil => exact Nat.le_refl _
        | cons y t iht =>
          unfold insU
          split
          · simp
          · split
            · simp
            · simpa using iht
      split
      · omega
      · have := hl (r.foldr (fun x acc => if x = 0 then acc else insU x acc) []); omega
  have := key (l.map (·.b))
  rwa [List.length_map] at this

/-- What the keys of such a map come to when they are sorted. -/
theorem keys_sorted {H : Type} {P : Program} {k : TypeId} {R : Value → Option (DataW H × List MemPlace)} {w : World} {b n : Nat} {D : DataW H} (hown : w.ownsMap P k R b n D) (hk : P.underlying k = some (.int .i64))
    {V : List Int} (hV : V.Pairwise (· < ·)) (hm : ∀ x, x ∈ V ↔ has D (.int .i64 x) = true) {ss : List Int} (hp : ss.Perm (intKeys D)) : ss.mergeSort (fun x y => decide (x ≤ y)) = V := by
  obtain ⟨es, hD, hpw, _⟩ := hown.entries (Maps.int_keyed hk)
  obtain ⟨es', hD', hko⟩ := hown.keysOf
  obtain rfl : es = es' := by rw [hD] at hD'; simpa using hD'
  subst hD
  have hnd : V.Nodup := hV.imp (fun h => Int.ne_of_lt h)
  have h1 := perm_intKeys hpw (fun p hp => by obtain ⟨v, hv⟩ := hko p hp; obtain ⟨x, _, hx, _⟩ := Maps.keyOf_i64 hk hv; exact ⟨x, hx⟩) hnd hm
  have h2 := mergeSort_of_perm_i (hp.trans h1.symm)
  have h3 : V.mergeSort leI = V := List.mergeSort_of_pairwise (hV.imp (fun h => by simpa [leI] using Int.le_of_lt h))
  exact h2.trans h3

set_option maxRecDepth 100000 in
set_option maxHeartbeats 2000000 in
theorem idsOf_any (A : Option Addr) (n c : Nat) (l : List Bnd) (hw : ∀ x ∈ l, Wf x.b) (hn : n ≤ 1000) (w : World) (hr : RdB w A n c l) :
    Calls Try.prog 114 #[.slice A n c] w fun e w' => ∃ A' n' c', e = .returned (.slice A' n' c') ∧ OwnI w' w.heap.size A' n' c' (idsL l) ∧ Below w.heap.size w w' := by
  obtain ⟨i0, hi0, hz0, hz1, hz2⟩ := info_parts infoI
  have HI := Lib.hid hi0; have HZ0 := Lib.hid hz0; have HZ1 := Lib.hid hz1; have HZ2 := Lib.hid hz2; clear hi0 hz0 hz1 hz2
  have HR := Lib.hid hr; have HW := Lib.hid hw; clear hr hw
  go_enter Try.func114, Try.ntmps114
  go_wp2
  go_loopw [9, 3] (fun i v wr => ∃ k : Nat, k ≤ n ∧ i = .int .i64 k ∧ wr.ownsRow w.heap.size 3 1 v k (((l.take k).map (·.b)).map (Value.int .i64)) ∧ Below w.heap.size w wr) (fun i _ _ => n - (intOf i).toNat)
  case atStart => exact ⟨0, Nat.zero_le _, rfl, World.ownsRow_nil _ _ _ _, Below.refl _ _⟩
  case round =>
    obtain ⟨k, hk, rfl, hown, hb⟩ := hrel
    by_cases hlt : k < n
    · have hlt' : (k : Int) < n := by omega
      obtain ⟨g, o, f, t, m, i, rfl, hbw, hx, c0, c1, c2, c3⟩ := (HR.out.below hb).get hlt
      have htk : (l.take (k + 1)).map (·.b) = (l.take k).map (·.b) ++ [i] := by rw [List.take_add_one, hx, List.map_append]; rfl
      have HTK := Lib.hid htk; clear htk hx
      have OW := Lib.hid ((hown.alloc (.cells #[.int .i64 f, .int .i64 t, .int .i64 m, .int .i64 i] 54)).alloc (.cells #[.int .i64 i] 3)); clear hown
      have n1 := (Blk.new (wr.alloc (.cells #[.int .i64 f, .int .i64 t, .int .i64 m, .int .i64 i] 54)) 3 #[.int .i64 i])
      simp only [World.size_alloc] at n1
      have N1 := Lib.hid n1; clear n1
      have hbb := (hb.alloc hb.size (.cells #[.int .i64 f, .int .i64 t, .int .i64 m, .int .i64 i] 54))
      have hbb2 := hbb.alloc hbb.size (.cells #[.int .i64 i] 3)
      have C5 := (Blk.new wr 54 #[.int .i64 f, .int .i64 t, .int .i64 m, .int .i64 i])
      have d3 : (wr.alloc (.cells #[.int .i64 f, .int .i64 t, .int .i64 m, .int .i64 i] 54)).cell? ⟨wr.heap.size, 3, none⟩ = some (.int .i64 i) := C5.cell 3
      clear C5
      go_wp2_with (at_builtin; refine wpList_append_own _ rfl (.tmp 13) (.tmp 16) 33 rfl w.heap.size 3 i0 _ 1 8 Try.underlying33 HI.out HZ0.out HZ1.out HZ2.out rfl (by omega) u3 _ _ rfl OW.out ⟨wr.heap.size + 1, 0, none⟩ 1 1 [.int .i64 i] rfl rfl (fun j u hu => by rw [Addr.add_lit, Nat.zero_add, N1.out.cell]; simpa using hu) (by simp [Value.oneCell']) (by unfold maxLen; omega) (by omega) hbb2.size ?_; intro v' w4 hown4 hg4 _; have HO4 := Lib.hid hown4; have HG4 := Lib.hid hg4; clear hown4 hg4)
      go_roundw
      case rel => exact ⟨k + 1, by omega, by go_num, (by rw [HTK.out, List.map_append]; exact HO4.out), hbb2.grown HG4.out hbb2.size (fun q e => (OW.out.lt q e).1)⟩
      case measure => simp [intOf]; omega
    · obtain rfl : k = n := by omega
      rw [List.take_of_length_le (by rw [HR.out.len]; exact Nat.le_refl _)] at hown
      obtain ⟨A5, c5, hv5, -⟩ := own_form hown
      subst hv5
      have hrd := (OwnI.rd (show OwnI wr w.heap.size A5 k c5 (l.map (·.b)) from hown)).1
      have hset := idSet_any A5 k c5 (l.map (·.b)) (fun v hv => by obtain ⟨x, hx, rfl⟩ := List.mem_map.1 hv; exact HW.out x hx) (by omega) wr hrd
      have HSET := Lib.hid hset; clear hset hrd hown
      go_wp2_with fail
      refine HSET.out.mono ?_
      rintro e w1 ⟨b1, rfl, hbase, ⟨nn, D, hown, hnn, hsd⟩, hb1⟩
      have hB1 := hb.trans (hb1.mono hb.size)
      rw [List.length_map, HR.out.len] at hnn
      have HO1 := Lib.hid hown; have HSD := Lib.hid (hsd.del 0); clear hown hsd
      go_wp2_with (at_delete; refine wpList_delete_own _ rfl _ _ 106 3 rfl 4 (Maps.int_keyed Try.underlying3) Try.underlying106 _ b1 nn _ rfl HO1.out _ _ rfl (Maps.keyOf_int_mk Try.underlying3 (wf_of (by omega) : Wf 0)) ?_; intro w2 hown2 hturn2; have HO2 := Lib.hid hown2; have HT2 := Lib.hid hturn2; clear hown2 hturn2)
      refine (keys_any _ _).mono ?_
      rintro e w3 ⟨rfl, rfl⟩
      have hB2 := hB1.grown HT2.out.grown hB1.size (fun q e => by cases e; have := hb.size; omega)
      have hB3 := hB2.alloc hB2.size (.cells #[.map (some b1)] 106)
      have HO3 := Lib.hid (HO2.out.alloc (.cells #[.map (some b1)] 106))
      go_wp2_with fail
      refine (sorted_any w2.heap.size b1 nn _ _ _ HO3.out (by omega) (Blk.new w2 106 #[.map (some b1)])).mono ?_
      rintro e w4 ⟨v, ss, rfl, hperm, hrow, hb4⟩
      have hV := keys_sorted HO3.out Try.underlying3 (idsL_sorted l) (fun x => by
        rw [HSD.out.2.1, decide_eq_true_eq, mem_idsL, List.mem_filter, List.mem_map]
        simp only [decide_eq_true_eq]
        exact And.comm) hperm
      rw [hV] at hrow
      have hlen := hrow.1
      rw [List.length_map, Nat.mul_one] at hlen
      rw [← hlen] at hrow
      obtain ⟨A6, c6, hv6, -⟩ := own_form hrow
      subst hv6
      have HROW := Lib.hid hrow; clear hrow hlen hperm hV
      go_wp2
      go_ret
      exact ⟨_, _, _, rfl, owns_base HROW.out hB3.size, hB3.trans (hb4.mono hB3.size)⟩
end Go.Proofs.Ythlnialipjihdaa
