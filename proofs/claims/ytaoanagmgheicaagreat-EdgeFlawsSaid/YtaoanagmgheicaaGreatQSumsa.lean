import Derived.Deep.DeepCutAuto
import Derived.Deep.OwnRows
import Derived.Great.BuildSlice
import Derived.Laws.AppendOwnNone
import Derived.Lib.SmallJoins
import Derived.Maps.OwnIn
import Derived.RangeFuncNested
import Derived.Shelf.SlIterI.Nil
import Derived.Shelf.Slices.Reverse
import Derived.Shelf.SortM.Plain
import Derived.Shelf.SortM.SortNone
import Derived.Sort.OwnSortedInts
import Derived.Test.YtaoanagmgheicaaGreatQMem
import Derived.Test.YtaoanagmgheicaaGreatQNuma
import Derived.Test.YtaoanagmgheicaaGreatQEnds
import Derived.Test.YtaoanagmgheicaaGreatQOpen
import Derived.Test.YtaoanagmgheicaaGreatQCircle
import Derived.Test.YtaoanagmgheicaaGreatQKeeps
import Derived.Test.YtaoanagmgheicaaGreatQNeeded
import Derived.Test.YtaoanagmgheicaaGreatQShz
set_option linter.unusedSimpArgs false
set_option linter.unusedVariables false
namespace Go.Proofs.YtaoanagmgheicaaGreat
open Go.RowKit
theorem blk_drewN {w : World} {g : Nat} {t : TypeId} {cs : Array Value} (h : Blk w g t cs) (n : Nat) : Blk (w.drewN n) g t cs := h
theorem rdB_drewN {w : World} {A : Option Addr} {n c : Nat} {l : List Bnd} (h : RdB w A n c l) (q : Nat) : RdB (w.drewN q) A n c l := ⟨h.len, h.cap, h.nil, h.cells⟩
theorem rdI_drewN {w : World} {A : Option Addr} {n c : Nat} {l : List Int} (h : RdI w A n c l) (q : Nat) : RdI (w.drewN q) A n c l := ⟨h.len, h.cap, h.nil, h.cells⟩
end Go.Proofs.YtaoanagmgheicaaGreat
/- What endOf answers, part by part; the code of Keeps. -/
namespace Go.Proofs.YtaoanagmgheicaaGreat
open Go.RowKit
theorem get_at' {x : List Int} {v : Nat} (hv : v < x.length) : x[v]? = some (at_ x v) := by
 rw [List.getElem?_eq_getElem hv]
 simp [at_, List.getD_eq_getElem?_getD, List.getElem?_eq_getElem hv]
end Go.Proofs.YtaoanagmgheicaaGreat
set_option linter.unusedSimpArgs false
set_option linter.unusedVariables false
namespace Go.Proofs.YtaoanagmgheicaaGreat
open Go.RowKit
def iv (y : List Int) (r : List Value) : Array Value := (y.map (Value.int .i64) ++ r).toArray
theorem iv_get {y : List Int} {r : List Value} {k : Nat} (h : k < y.length) : (iv y r)[k]? = some (.int .i64 (at_ y k)) := by
 unfold iv
 rw [List.getElem?_toArray, List.getElem?_append_left (by simpa using h), List.getElem?_map, List.getElem?_eq_getElem h]
 simp [at_, List.getD_eq_getElem?_getD, List.getElem?_eq_getElem h]
theorem iv_set {y : List Int} {r : List Value} {k : Nat} (h : k < y.length) (v : Int) : (iv y r).setIfInBounds k (.int .i64 v) = iv (y.set k v) r := by
 unfold iv
 rw [List.setIfInBounds_toArray, List.set_append_left _ _ (by simpa using h), List.map_set]
theorem own_iv {w : World} {base g n c : Nat} {y : List Int} (h : OwnI w base (some ⟨g, 0, none⟩) n c y) : ∃ r, Blk w g 3 (iv y r) ∧ base ≤ g ∧ y.length + r.length = c ∧ c ≤ maxLen ∧ y.length = n := by
 obtain ⟨hl, h⟩ := h
 rw [List.length_map, Nat.mul_one] at hl
 rcases h with ⟨h1, _⟩ | ⟨g', cap, cur, h1, hb, hg, hnc, hm, hs, ht⟩
 · cases h1
 · injection h1 with h1 _ h2
   injection h1 with h1
   injection h1 with h1
   subst h1 h2
   rw [Nat.mul_one] at ht hs
   refine ⟨cur.toList.drop n, ?_, hb, ?_, hm, hl⟩
   · unfold iv Blk
     rw [← ht, List.take_append_drop, hg]
   · simp only [List.length_drop, Array.length_toList, hs]; omega
theorem iv_own {w : World} {base g n c : Nat} {y : List Int} {r : List Value} (h : Blk w g 3 (iv y r)) (hb : base ≤ g) (hn : y.length = n) (hc : y.length + r.length = c) (hm : c ≤ maxLen) : OwnI w base (some ⟨g, 0, none⟩) n c y := by
 subst hn hc
 refine ⟨by simp, .inr ⟨g, _, iv y r, rfl, hb, h, by omega, hm, by simp [iv], ?_⟩⟩
 unfold iv
 rw [Nat.mul_one, List.toList_toArray, List.take_append_of_le_length (by simp), List.take_of_length_le (by simp)]
theorem iv_rd {w : World} {g : Nat} {y : List Int} {r : List Value} (h : Blk w g 3 (iv y r)) {n c : Nat} (hn : y.length = n) (hc : n ≤ c) : RdI w (some ⟨g, 0, none⟩) n c y := by
 refine ⟨hn, hc, (fun h => by cases h), .inr ⟨g, 0, rfl, h.lt, fun j u hu => ?_⟩⟩
 rw [Nat.zero_add, h.cell]
 obtain ⟨z, hz, rfl⟩ := List.mem_map.1 (List.mem_of_getElem? hu)
 have hj : j < y.length := by have := (List.getElem?_eq_some_iff.1 hu).1; simpa using this
 rw [iv_get hj]
 rw [List.getElem?_map, get_at' hj] at hu
 exact hu
theorem relax_no {far : Int} {y : List Int} {b : Bnd} (h : ¬ (look y b.f < far ∧ look y b.f + b.m < look y b.t)) : rrelax far y b = y := by unfold rrelax; rw [if_neg h]
theorem relax_yes {far : Int} {y : List Int} {b : Bnd} (h : look y b.f < far ∧ look y b.f + b.m < look y b.t) : rrelax far y b = y.set b.t.toNat (look y b.f + b.m) := by unfold rrelax; rw [if_pos h]
theorem rsums_step {far : Int} {l : List Bnd} {p k : Nat} {y : List Int} (hk : k < p + 1) : rsums far l (p + 1 - k) y = if rround far l y = y then some y else rsums far l (p + 1 - (k + 1)) (rround far l y) := by
 obtain ⟨d, hd⟩ : ∃ d, p + 1 - k = d + 1 := ⟨p - k, by omega⟩
 rw [hd, show p + 1 - (k + 1) = d from by omega]
 rfl
theorem fold_take {far : Int} {l : List Bnd} {j : Nat} {b : Bnd} {y : List Int} (h : l[j]? = some b) : (l.take (j + 1)).foldl (rrelax far) y = rrelax far ((l.take j).foldl (rrelax far) y) b := by
 rw [List.take_add_one, h, List.foldl_append]
 rfl
def Bd (r : Int) (y : List Int) : Prop := ∀ v, v < y.length → -(1000000000000 + r) ≤ at_ y v ∧ at_ y v ≤ 1000000000000
theorem Bd.relax {r : Int} {y : List Int} (h : Bd r y) {t : Nat} {v : Int} (ht : t < y.length) (h1 : -(1000000000000 + (r + 100000000)) ≤ v) (h2 : v ≤ 1000000000000) (hr : 0 ≤ r) : Bd (r + 100000000) (y.set t v) := fun u hu => by
 rw [List.length_set] at hu
 rw [at_set _ _ _ _ ht]
 split
 · exact ⟨h1, h2⟩
 · have := h u hu; omega
theorem Bd.more {r s : Int} {y : List Int} (h : Bd r y) (hrs : r ≤ s) : Bd s y := fun u hu => by have := h u hu; omega
theorem wrap_small {x : Int} (h1 : -9223372036854775808 ≤ x) (h2 : x ≤ 9223372036854775807) : IntKind.i64.wrap x = x := by
 simp only [IntKind.wrap, IntKind.bits, IntKind.signed]
 simp
 omega
theorem ints_one2 (Z : List Int) : ∀ v ∈ Z.map (Value.int .i64), v.oneCell' = true := fun v hv => by
 obtain ⟨z, _, rfl⟩ := List.mem_map.1 hv
 rfl
theorem own_some2 {w : World} {base : Nat} {e : TypeId} {size : Nat} {A : Option Addr} {n c m : Nat} {xs : List Value} (h : w.ownsRow base e size (.slice A n c) m xs) (hn : 1 ≤ n) : ∃ g, A = some ⟨g, 0, none⟩ ∧ base ≤ g := by
 rcases h.2 with ⟨h1, _⟩ | ⟨g, cap, cur, h1, hb, _⟩
 · injection h1 with _ h1 _; omega
 · injection h1 with h1 _ _
   exact ⟨g, h1, hb⟩
set_option maxRecDepth 100000 in
set_option maxHeartbeats 8000000 in
theorem sums_any (p : Nat) (far : Int) (A B : Option Addr) (n c m d : Nat) (l : List Bnd) (x0 : List Int) (w : World) (hr : RdB w A n c l) (hn400 : n ≤ 402)
 (he : ∀ c ∈ l, 0 ≤ c.f ∧ c.f < p ∧ 0 ≤ c.t ∧ c.t < p ∧ c.f ≠ c.t ∧ -100000000 ≤ c.m ∧ c.m ≤ 100000000) (hp1 : 1 ≤ p) (hp : p ≤ 60) (hq : RdI w B m d x0) (hx : x0.length = p) (hb : Bd 0 x0) (hf1 : -1000000000000 ≤ far) (hf2 : far ≤ 1000000000000) :
 Calls Tryz.prog 158 #[.agg #[.int .i64 (p : Int), .slice A n c], .slice B m d, .int .i64 far] w (RetB ((rsums far l (p + 1) x0).getD []) (rsums far l (p + 1) x0).isSome w) := by
 obtain rfl : m = p := by rw [← hq.len, hx]
 obtain ⟨v0_, hv0_⟩ : ∃ v, x0[0]? = some v := ⟨x0[0]'(by omega), List.getElem?_eq_getElem _⟩
 obtain ⟨bz, oz, hBz⟩ := rdI_some hq hv0_
 subst hBz
 clear hv0_
 obtain ⟨V, hV⟩ : ∃ V, rsums far l (m + 1) x0 = V := ⟨_, rfl⟩
 rw [hV]
 have HV := Lib.hid hV; clear hV
 obtain ⟨i0, hi0, hz0, hz1, hz2⟩ := info_parts infoI
 have hB : Below w.heap.size w (w.alloc (.cells #[.int .i64 (m : Int), .slice A n c] 46)) := (Below.refl _ w).alloc (Nat.le_refl _) _
 have hbs := (Blk.new w 46 #[.int .i64 (m : Int), .slice A n c]).alloc (.cells #[] 3)
 have hown : ((w.alloc (.cells #[.int .i64 (m : Int), .slice A n c] 46)).alloc (.cells #[] 3)).ownsRow (w.heap.size + 1) 3 1 (.slice (some ⟨w.heap.size + 1, 0, none⟩) 0 0) 0 [] := by
  have h := World.ownsRow_lit (base := (w.alloc (.cells #[.int .i64 (m : Int), .slice A n c] 46)).heap.size) (e := 3) (size := 1) (w.alloc (.cells #[.int .i64 (m : Int), .slice A n c] 46)) #[] 0 (Nat.le_refl _) (by unfold maxLen; omega) rfl
  rw [World.size_alloc] at h
  exact h
 have hB0 : Below w.heap.size w ((w.alloc (.cells #[.int .i64 (m : Int), .slice A n c] 46)).alloc (.cells #[] 3)) := hB.alloc hB.size _
 have hq2 := hq.below hB0
 have hrn := hr.len
 have HO := Lib.hid hown; have HL := Lib.hid hq2; have HB0 := Lib.hid hB0; have HR := Lib.hid hr; have HBS := Lib.hid hbs; clear hown hq2 hB hB0 hr hq hbs
 have HI := Lib.hid hi0; have HZ0 := Lib.hid hz0; have HZ1 := Lib.hid hz1; have HZ2 := Lib.hid hz2; clear hi0 hz0 hz1 hz2
 have HE := Lib.hid he; have HBD := Lib.hid hb; clear he hb
 go_enter Tryz.func158, Tryz.ntmps158
 go_wp2_with (at_builtin; refine wpList_append_own _ rfl (.tmp 13) (.tmp 14) 31 rfl (w.heap.size + 1) 3 i0 _ 1 8 Tryz.underlying31 HI.out HZ0.out HZ1.out HZ2.out rfl (by omega) _ 0 [] rfl HO.out ⟨bz, oz, none⟩ m d (x0.map (Value.int .i64)) rfl (by rw [List.length_map, HL.out.len, Nat.mul_one]) (HL.out.cells.hc _ rfl) (ints_one2 x0) (by unfold maxLen; omega) (by omega) (by simp) ?_; intro v' w' hown' hg' _; rw [Nat.zero_add, List.nil_append] at hown'; obtain ⟨B', d', rfl, -⟩ := own_form hown'; have HO' := Lib.hid hown'; have HG' := Lib.hid (show World.grownBy _ w' (some (w.heap.size + 1)) from hg'); clear hown' hg')
 have hB1 : Below w.heap.size w w' := HB0.out.grown HG'.out (by simp; try omega) (fun k e => by cases e; omega)
 have hBS1 := blk_grown HBS.out HG'.out (by simp)
 obtain ⟨g, hgB, hgb⟩ := own_some2 HO'.out (by omega)
 subst hgB
 obtain ⟨r, hiv, -, hrc, hdm, -⟩ := own_iv HO'.out
 have HB1 := Lib.hid hB1; have HBS1 := Lib.hid hBS1; have HIV0 := Lib.hid hiv; clear hB1 hBS1 hiv HO' HG' HO HL HB0 HBS HI HZ0 HZ1 HZ2
 go_loopw [9] (fun i wr => ∃ (k : Nat) (y : List Int), k ≤ m + 1 ∧ i = .int .i64 k ∧ rsums far l (m + 1 - k) y = V ∧ y.length = m ∧ Bd (k * 50000000000) y ∧ Blk wr w.heap.size 46 #[.int .i64 (m : Int), .slice A n c] ∧ Blk wr g 3 (iv y r) ∧ Below w.heap.size w wr) (fun i _ => m + 1 - (intOf i).toNat)
 case atStart => exact ⟨0, x0, Nat.zero_le _, rfl, HV.out, hx, HBD.out, HBS1.out, HIV0.out, HB1.out⟩
 case round =>
  clear HB1 HBS1 HIV0 HV HBD
  obtain ⟨k, y, hk, rfl, hsum, hyl, hbd, hbs, hby, hbel⟩ := hrel
  have HS := Lib.hid hsum; have HBD := Lib.hid hbd; have HBS := Lib.hid hbs; have HBY := Lib.hid hby; have HBE := Lib.hid hbel; clear hsum hbd hbs hby hbel
  have z0 : wr.cell? ⟨w.heap.size, 0, none⟩ = some (.int .i64 (m : Int)) := Blk.cell HBS.out 0
  by_cases hlt : k < m + 1
  · have hle : (k : Int) ≤ m := by omega
    go_wp2
    clear z0
    go_loopw [11, 10] (fun i sv wr => ∃ (j : Nat) (z : List Int) (b : Bool), j ≤ n ∧ i = .int .i64 j ∧ sv = .bool b ∧ z = (l.take j).foldl (rrelax far) y ∧ z.length = m ∧ Bd (k * 50000000000 + j * 100000000) z ∧ (b = decide (z = y)) ∧ Blk wr w.heap.size 46 #[.int .i64 (m : Int), .slice A n c] ∧ Blk wr g 3 (iv z r) ∧ Below w.heap.size w wr) (fun i _ _ => n - (intOf i).toNat)
    case atStart => exact ⟨0, y, true, Nat.zero_le _, rfl, rfl, rfl, hyl, by simpa using HBD.out, by simp, HBS.out, HBY.out, HBE.out⟩
    case round =>
     clear HBS HBY HBE HBD
     obtain ⟨j, z, b, hj, rfl, rfl, hzf, hzl, hbd, hbz, hbs, hby, hbel⟩ := hrel
     have HZF := Lib.hid hzf; have HBD := Lib.hid hbd; have HBZ := Lib.hid hbz; have HBS := Lib.hid hbs; have HBY := Lib.hid hby; have HBE := Lib.hid hbel; clear hzf hbd hbz hbs hby hbel
     have z0 : wr.cell? ⟨w.heap.size, 0, none⟩ = some (.int .i64 (m : Int)) := Blk.cell HBS.out 0
     have z1 : wr.cell? ⟨w.heap.size, 1, none⟩ = some (.slice A n c) := Blk.cell HBS.out 1
     by_cases hjn : j < n
     · obtain ⟨ba, oa, f, t, mm, i, hA, hbw, hx2, c0, c1, c2, c3⟩ := (HR.out.below HBE.out).get hjn
       obtain ⟨e1, e2, e3, e4, e5, e6, e7⟩ := HE.out _ (List.mem_of_getElem? hx2)
       simp only at e1 e2 e3 e4 e5 e6 e7
       obtain ⟨f, rfl⟩ := Int.eq_ofNat_of_zero_le e1
       obtain ⟨t, rfl⟩ := Int.eq_ofNat_of_zero_le e3
       have hft : f < m := by omega
       have htt : t < m := by omega
       have hne : f ≠ t := by omega
       have HX := Lib.hid hx2; clear hx2 e1 e3
       subst hA
       obtain ⟨vf, hvf⟩ : ∃ v, at_ z f = v := ⟨_, rfl⟩
       obtain ⟨vt, hvt⟩ : ∃ v, at_ z t = v := ⟨_, rfl⟩
       have hb1 := HBD.out f (by omega)
       have hb2 := HBD.out t (by omega)
       rw [hvf] at hb1
       rw [hvt] at hb2
       have hcf : (iv z r)[f]? = some (.int .i64 vf) := by rw [iv_get (by omega), hvf]
       have hct : (iv z r)[t]? = some (.int .i64 vt) := by rw [iv_get (by omega), hvt]
       have VF := Lib.hid hcf; have VT := Lib.hid hct; clear hcf hct
       have hlook : look z (f : Int) = vf ∧ look z (t : Int) = vt := ⟨by rw [look_at, hvf], by rw [look_at, hvt]⟩
       have HLK := Lib.hid hlook; clear hlook hvf hvt
       have hgl := HBY.out.lt
       have y1 : wr.cell? ⟨g, f, none⟩ = some (.int .i64 vf) := (Blk.cell HBY.out f).trans VF.out
       have y2 : wr.cell? ⟨g, t, none⟩ = some (.int .i64 vt) := (Blk.cell HBY.out t).trans VT.out
       have hend : ∀ (b' : Bool) (z' : List Int) (W : World), rrelax far z ⟨f, t, mm, i⟩ = z' → z'.length = m → Bd (k * 50000000000 + j * 100000000 + 100000000) z' → b' = decide (z' = y) → Blk W w.heap.size 46 #[.int .i64 (m : Int), .slice (some ⟨ba, oa, none⟩) n c] → Blk W g 3 (iv z' r) → Below w.heap.size w W →
        ∃ (j' : Nat) (z : List Int) (b : Bool), j' ≤ n ∧ Value.int .i64 ((j + 1 : Nat) : Int) = .int .i64 j' ∧ Value.bool b' = .bool b ∧ z = (l.take j').foldl (rrelax far) y ∧ z.length = m ∧ Bd (k * 50000000000 + j' * 100000000) z ∧ (b = decide (z = y)) ∧ Blk W w.heap.size 46 #[.int .i64 (m : Int), .slice (some ⟨ba, oa, none⟩) n c] ∧ Blk W g 3 (iv z r) ∧ Below w.heap.size w W :=
        fun b' z' W h1 h2 h3 h4 h5 h6 h7 => ⟨j + 1, z', b', by omega, rfl, rfl, by rw [fold_take HX.out, ← HZF.out, h1], h2, by rw [show (k : Int) * 50000000000 + ((j + 1 : Nat) : Int) * 100000000 = k * 50000000000 + j * 100000000 + 100000000 from by omega]; exact h3, h4, h5, h6, h7⟩
       have HEND := Lib.hid hend; clear hend
       by_cases q1 : vf < far
       · by_cases q2 : vf + mm < vt
         · have d1 : decide (vf < far) = true := decide_eq_true q1
           have d2 : decide (vf + mm < vt) = true := decide_eq_true q2
           go_wp2_with fail
           go_quiet (fail)
           go_wp2_with fail
           clear y1 y2 z0 z1 c0 c1 c2 c3 d1 d2
           have BB := Lib.hid (Blk.drew (blk_drewN (Blk.new wr 30 #[.int .i64 (f : Int), .int .i64 (t : Int), .int .i64 mm, .int .i64 i]) nq))
           have BY := Lib.hid (Blk.drew (blk_drewN (HBY.out.alloc (.cells #[.int .i64 (f : Int), .int .i64 (t : Int), .int .i64 mm, .int .i64 i] 30)) nq))
           have BS := Lib.hid (Blk.drew (blk_drewN (HBS.out.alloc (.cells #[.int .i64 (f : Int), .int .i64 (t : Int), .int .i64 mm, .int .i64 i] 30)) nq))
           have BE := Lib.hid (Below.drew (bdN (HBE.out.alloc HBE.out.size (.cells #[.int .i64 (f : Int), .int .i64 (t : Int), .int .i64 mm, .int .i64 i] 30)) nq))
           clear HBS HBY HBE
           have YF := Lib.hid ((Blk.cell BY.out f).trans VF.out)
           have hvf2 : ((iv z r).setIfInBounds t (.int .i64 (vf + mm)))[f]? = some (.int .i64 vf) := by rw [Array.getElem?_setIfInBounds_ne (by omega)]; exact VF.out
           have VF2 := Lib.hid hvf2
           have HIV := Lib.hid (iv_set (r := r) (show t < z.length by omega) (vf + mm))
           have HRY := Lib.hid (relax_yes (far := far) (y := z) (b := ⟨f, t, mm, i⟩) (by dsimp only; rw [HLK.out.1, HLK.out.2]; exact ⟨q1, q2⟩))
           have HZN : z.set t (vf + mm) ≠ y := by
            intro e
            have h1 := rfold_le far t (l.take j) y
            rw [← HZF.out, ← e, at_set _ _ _ _ (by omega), if_pos rfl] at h1
            have h2 := HLK.out.2
            rw [look_at] at h2
            omega
           clear hvf2
           have HWR := Lib.hid (wrap_small (x := vf + mm) (by omega) (by omega))
           generalize World.drewN (wr.alloc (.cells #[.int .i64 (f : Int), .int .i64 (t : Int), .int .i64 mm, .int .i64 i] 30)) nq = W0 at *
           refine wp_region_held_drew (S := (fun W' => Blk W' wr.heap.size 30 #[.int .i64 (f : Int), .int .i64 (t : Int), .int .i64 mm, .int .i64 i] ∧ W'.cell? ⟨g, f, none⟩ = some (.int .i64 vf))) (by kernel_rfl) ⟨BB.out, YF.out⟩ (fun _ => ?_)
           obtain ⟨w219, hw220⟩ : ∃ w', w' = W0.drew := ⟨_, rfl⟩
           rw [← hw220] at BB YF BY BS BE
           rw [← hw220]
           clear hw220
           refine' twH 0 ⟨BB.out, YF.out⟩ ?_
           refine' twH 1 ⟨BB.out, YF.out⟩ ?_
           refine' tkH 2 ⟨BB.out, YF.out⟩ ?hyR223 ?_
           case hyR223 => (rintro W' ⟨hS0, hS1⟩; have hc0 := Blk.nth hS0 1; clear hS0 hS1; go_simp; try with_reducible rfl)
           refine' twH 3 ⟨BB.out, YF.out⟩ ?_
           try simp only [Act.put, qsA, qsZ, qsS]
           refine' twH 4 ⟨BB.out, YF.out⟩ ?_
           refine' tkH 5 ⟨BB.out, YF.out⟩ ?hyR226 ?_
           case hyR226 => (rintro W' ⟨hS0, hS1⟩; have hc0 := Blk.nth hS0 0; clear hS0 hS1; go_simp; try with_reducible rfl)
           refine' twH 6 ⟨BB.out, YF.out⟩ ?_
           refine' tkH 7 ⟨BB.out, YF.out⟩ ?hyR228 ?_
           case hyR228 => (rintro W' ⟨hS0, hS1⟩; go_simp; try with_reducible rfl)
           try simp only [Act.put, qsA, qsZ, qsS]
           refine' twH 8 ⟨BB.out, YF.out⟩ ?_
           refine' tkH 9 ⟨BB.out, YF.out⟩ ?hyR230 ?_
           case hyR230 => (rintro W' ⟨hS0, hS1⟩; have hc0 := Blk.nth hS0 2; clear hS0 hS1; go_simp; try with_reducible rfl)
           refine' twH 10 ⟨BB.out, YF.out⟩ ?_
           refine' twH 11 ⟨BB.out, YF.out⟩ ?_
           try simp only [Act.put, qsA, qsZ, qsS]
           refine oneH 12 rfl fun K hK => ?_
           have v0 : w219.cell? ⟨g, t, none⟩ = some (.int .i64 vt) := (Blk.cell BY.out _).trans VT.out
           have f0 : w219.frozen? ⟨g, t, none⟩ = false := Blk.frozen BY.out _
           go_simp
           rw [HWR.out]
           have k233 := Lib.hid (Blk.far (BB.out) (p := ⟨g, t, none⟩) (by simp; omega) (.int .i64 (vf + mm)))
           have k234 := Lib.hid (Blk.far (BS.out) (p := ⟨g, t, none⟩) (by simp; omega) (.int .i64 (vf + mm)))
           have k235 := Lib.hid (Blk.set_ (BY.out) t (.int .i64 (vf + mm)))
           have k236 := Lib.hid ((Blk.cell k235.out f).trans VF2.out)
           have k237 := Lib.hid (Below.setCell (BE.out) (p := ⟨g, t, none⟩) (by simp; omega) (.int .i64 (vf + mm)))
           obtain ⟨w238, hw239⟩ : ∃ w', w' = (w219.setCell ⟨g, t, none⟩ (.int .i64 (vf + mm))) := ⟨_, rfl⟩
           rw [← hw239] at k233 k235 k234 k237 k236
           rw [← hw239]
           clear hw239 v0 f0
           refine hK.out _ _ ⟨k233.out, k236.out⟩ (fun _ => ?_); clear hK K
           try simp only [Act.put, qsA, qsZ, qsS]
           refine wpAnyH_done (by kernel_rfl) ?_ _
           have hby := k235.out
           rw [HIV.out] at hby
           have HBYF := Lib.hid hby; clear hby
           go_wp2
           go_roundw
           case rel => exact HEND.out false _ _ (by rw [HRY.out]; dsimp only; rw [HLK.out.1, Int.toNat_natCast]) (by rw [List.length_set]; exact hzl) (HBD.out.relax (by omega) (by omega) (by omega) (by omega)) (by simp [HZN]) k234.out HBYF.out k237.out
           case measure => (simp [intOf]; omega)
         · have d1 : decide (vf < far) = true := decide_eq_true q1
           have d2 : decide (vf + mm < vt) = false := decide_eq_false q2
           go_wp2_with fail
           go_quiet (fail)
           go_wp2
           go_roundw
           case rel => exact HEND.out b z _ (relax_no (fun h => (Int.not_lt.2 q2) (by have h2 := h.2; dsimp only at h2; rw [HLK.out.1, HLK.out.2] at h2; exact h2))) hzl (HBD.out.more (by omega)) HBZ.out (blk_drewN (HBS.out.alloc _) _) (blk_drewN (HBY.out.alloc _) _) (bdN (HBE.out.alloc HBE.out.size _) _)
           case measure => simp [intOf]; omega
       · have d1 : decide (vf < far) = false := decide_eq_false q1
         go_wp2_with fail
         go_quiet (fail)
         go_wp2
         go_roundw
         case rel => exact HEND.out b z _ (relax_no (fun h => (Int.not_lt.2 q1) (by have h2 := h.1; dsimp only at h2; rw [HLK.out.1] at h2; exact h2))) hzl (HBD.out.more (by omega)) HBZ.out (blk_drewN (HBS.out.alloc _) _) (blk_drewN (HBY.out.alloc _) _) (bdN (HBE.out.alloc HBE.out.size _) _)
         case measure => simp [intOf]; omega
     · obtain rfl : j = n := by omega
       have hzr : rround far l y = z := by rw [HZF.out, List.take_of_length_le (by omega)]; rfl
       have HSTEP := Lib.hid (rsums_step (far := far) (l := l) (y := y) hlt)
       have HZR := Lib.hid hzr; clear hzr
       by_cases hzy : z = y
       · subst hzy
         have hb : b = true := by rw [HBZ.out]; simp
         subst hb
         have hVs : V = some z := by rw [← HS.out, HSTEP.out, if_pos HZR.out]
         subst hVs
         go_wp2
         go_ret2
         exact ⟨_, _, _, rfl, iv_own HBY.out (by omega) hzl (by omega) hdm, HBE.out⟩
       · have hb : b = false := by rw [HBZ.out]; simp [hzy]
         subst hb
         go_wp2
         go_roundw
         case rel => exact ⟨k + 1, z, by omega, by go_num, by rw [← HS.out, HSTEP.out, HZR.out, if_neg hzy], hzl, by have h := HBD.out; exact h.more (by omega), HBS.out, HBY.out, HBE.out⟩
         case measure => simp [intOf]; omega
  · obtain rfl : k = m + 1 := by omega
    have hgt : ¬ ((m + 1 : Nat) : Int) ≤ m := by omega
    have hVs : V = none := by rw [← HS.out, Nat.sub_self]; rfl
    subst hVs
    go_wp2
    go_ret2
    exact ⟨none, 0, 0, rfl, OwnI.nil_ _ _, HBE.out⟩
end Go.Proofs.YtaoanagmgheicaaGreat
