import Derived.LoopNIn
import Derived.RangeFuncBound
import Derived.RangeFuncNested
import Derived.Shelf.Abstract
import Derived.Sort.CutIn
import Derived.Sort.QuietIn
import Derived.Test.YtjjmifcjailpaaaGreatTMem
import Derived.Great.BuildSlice
set_option maxHeartbeats 4000000
set_option linter.unusedSimpArgs false
set_option linter.unusedVariables false
namespace Go.Proofs.YtjjmifcjailpaaaGreat
open Go.RowKit
attribute [local go_sem] Oper.semAt_some
def out (l : List Bnd) (x : List Int) (i : Nat) : Option (Nat × Int) :=
 match l[i]? with
 | some b => if look x b.f = Inf then none else some (i, look x b.f + b.m)
 | none => none
def outs (l : List Bnd) (x : List Int) (k : Nat) : List (Nat × Int) := (List.range k).filterMap (out l x)
theorem outs_succ (l : List Bnd) (x : List Int) (k : Nat) : outs l x (k + 1) = outs l x k ++ (out l x k).toList := by
 unfold outs
 rw [List.range_succ, List.filterMap_append]
 cases h : out l x k <;> simp [h]
theorem outs_len (l : List Bnd) (x : List Int) (k : Nat) : (outs l x k).length ≤ k := by
 have := List.length_filterMap_le (out l x) (List.range k)
 rw [List.length_range] at this
 exact this
theorem outs_prefix (l : List Bnd) (x : List Int) {k n : Nat} (h : k ≤ n) : outs l x k <+: outs l x n := by
 obtain ⟨d, rfl⟩ := Nat.exists_eq_add_of_le h
 clear h
 induction d with
 | zero => exact List.prefix_refl _
 | succ d ih => rw [show k + (d + 1) = (k + d) + 1 from rfl, outs_succ]; exact ih.trans (List.prefix_append _ _)
abbrev Yl (l : List Bnd) := { q : Nat × Int // q.1 < l.length ∧ -1000000000000 ≤ q.2 ∧ q.2 ≤ 1000000000000 }
def encY {l : List Bnd} (q : Yl l) : Array Value := #[.int .i64 (q.1.1 : Int), .int .i64 q.1.2]
def KeepT (n₀ Bg Bx : Nat) (W W' : World) : Prop := Below n₀ W W' ∧ W'.heap[Bg]? = W.heap[Bg]? ∧ W'.heap[Bx]? = W.heap[Bx]?
theorem KeepT.refl (n₀ Bg Bx : Nat) (W : World) : KeepT n₀ Bg Bx W W := ⟨Below.refl _ _, rfl, rfl⟩
theorem KeepT.trans {n₀ Bg Bx : Nat} {A B C : World} (h : KeepT n₀ Bg Bx A B) (k : KeepT n₀ Bg Bx B C) : KeepT n₀ Bg Bx A C :=
 ⟨h.1.trans k.1, k.2.1.trans h.2.1, k.2.2.trans h.2.2⟩
theorem KeepT.alloc {n₀ Bg Bx : Nat} {W : World} (o : Obj) (h : n₀ ≤ W.heap.size) (hg : Bg < W.heap.size) (hx : Bx < W.heap.size) : KeepT n₀ Bg Bx W (W.alloc o) :=
 ⟨(Below.refl _ _).alloc h _, Below.heap_alloc _ _ _ hg, Below.heap_alloc _ _ _ hx⟩
theorem keepT_b {n₀ Bg Bx : Nat} {w : World} (hn : n₀ ≤ w.heap.size) (hg : Bg < w.heap.size) (hx : Bx < w.heap.size) (W : World) (k : Nat) (o o' : Obj) (hl : w.heap.size ≤ k) (h : W.heap[k]? = some o) (h1 : o.isCells = false) (h2 : o.isWalk = false) : KeepT n₀ Bg Bx W (W.putObj k o') :=
 ⟨belowK_b hn W k o o' hl h h1 h2, World.putObj_heap_other (by omega), World.putObj_heap_other (by omega)⟩
set_option maxRecDepth 100000 in
theorem onward1_in (nn : Nat) (hn : 1 ≤ nn) (lp n₀ Bg Bx n c : Nat) (p : Int) (A : Option Addr) (l : List Bnd) (x : List Int)
 (hn400 : n ≤ 402) (hx60 : x.length = 60) (hok : ∀ b ∈ l, 0 ≤ b.f ∧ b.f < 60 ∧ -100000000 ≤ b.m ∧ b.m ≤ 100000000) (hxv : ∀ i, i < 60 → at_ x i = Inf ∨ (-900000000000 ≤ at_ x i ∧ at_ x i ≤ 900000000000))
 (J Jx : List (Yl l) → World → Prop) (w₀ : World) (hn₀ : n₀ = w₀.heap.size) (hr : RdB w₀ A n c l)
 (hY : ∀ pre q W, J pre W → pre.length < l.length → YieldAt Fence.wide (nn - 1) Tryz.prog lp (encY q) W fun e W' =>
  (e = .returned (.bool true) ∧ J (pre ++ [q]) W' ∧ KeepT n₀ Bg Bx W W') ∨ (e = .returned (.bool false) ∧ Jx (pre ++ [q]) W'))
 (W : World) (hJa : AbidesFrom W.heap.size J) (hW : Below n₀ w₀ W) (hg : Blk W Bg 128 #[.int .i64 p, .slice A n c]) (hbx : Blk W Bx 148 (arr x)) (h0 : J [] W) :
 CallsIn Fence.wide nn Tryz.prog 173 #[.func (.yield lp) #[] #[], .pointer (some ⟨Bg, 0, none⟩), .pointer (some ⟨Bx, 0, none⟩)] W fun e W' => (∃ v, e = .returned v) ∧
  ((∃ ys, ys.map (·.1) = outs l x l.length ∧ J ys W') ∨ (∃ pre, pre.map (·.1) <+: outs l x l.length ∧ Jx pre W')) := by
 have HR := Lib.hid hr; clear hr
 have HL := Lib.hid HR.out.len
 have HOK := Lib.hid hok; clear hok
 have HXV := Lib.hid hxv; clear hxv
 have HX60 := Lib.hid hx60; clear hx60
 have HN0 := Lib.hid hn₀; clear hn₀
 have HJ := Lib.hid hJa; clear hJa
 have HG := Lib.hid hg; clear hg
 have HBX := Lib.hid hbx; clear hbx
 have hg1 : W.cell? ⟨Bg, 1, none⟩ = some (.slice A n c) := HG.out.cell 1
 refine callsIn_of_wp Tryz.func173 rfl trivial ?_ rfl
 simp only [Tryz.ntmps173, List.size_toArray, List.length_cons, List.length_nil, Nat.reduceAdd, Nat.reduceSub, Array.replicate_succ, Array.replicate_zero, List.push_toArray, List.append_toArray, List.nil_append, List.cons_append]
 gi_wp2
 gi_loopw [9] (fun i wr => ∃ k : Nat, k ≤ n ∧ i = .int .i64 k ∧ (∃ ys : List (Yl l), ys.map (·.1) = outs l x k ∧ J ys wr) ∧ KeepT n₀ Bg Bx W wr)
  (fun i _ => n - (intOf i).toNat)
 case atStart => exact ⟨0, Nat.zero_le _, rfl, ⟨[], rfl, h0⟩, KeepT.refl _ _ _ _⟩
 case round =>
  obtain ⟨k, hk, rfl, ⟨ys, hys, hJs⟩, hkp⟩ := hrel
  have HYS := Lib.hid hys; clear hys
  by_cases hlt : k < n
  · have hB := hkp.1
    have hlt' : (k : Int) < n := by omega
    obtain ⟨b, o, f, t, m, i, rfl, hbw, hx, c0, c1, c2, c3⟩ := (HR.out.below ((hW.trans hB).mono (by rw [HN0.out]; exact Nat.le_refl _))).get hlt
    have HX := Lib.hid hx; clear hx
    obtain ⟨hf0, hf1, hm0, hm1⟩ := HOK.out _ (List.mem_of_getElem? HX.out)
    obtain ⟨f, rfl⟩ := Int.eq_ofNat_of_zero_le hf0
    have hfl : f < 60 := by have h1 : (f : Int) < 60 := hf1; omega
    have hm0 : -100000000 ≤ m := hm0
    have hm1 : m ≤ 100000000 := hm1
    have hbx1 : Blk wr Bx 148 (arr x) := hkp.2.2.trans HBX.out
    have cx : wr.cell? ⟨Bx, f, none⟩ = some (.int .i64 (at_ x f)) := by rw [hbx1.cell]; exact arr_get x f (by rw [HX60.out]; exact hfl)
    have hgl := hkp.2.1.trans HG.out
    have hbg1 : Blk wr Bg 128 _ := hgl
    have zg := hbg1.lt
    have zx := hbx1.lt
    have hxf := HXV.out f hfl
    obtain ⟨v, hv⟩ : ∃ v, at_ x f = v := ⟨_, rfl⟩
    rw [hv] at cx hxf
    have HV := Lib.hid (show look x (f : Int) = v from hv); clear hv
    clear hbx1 hbg1 hgl
    have hn0w : n₀ ≤ wr.heap.size := by have h1 := (hW.trans hB).size; rw [HN0.out]; exact h1
    have hJal : ∀ q, J ys ((wr.alloc (.cells #[.int .i64 (f : Int), .int .i64 t, .int .i64 m, .int .i64 i] 70)).drewN q) := fun q =>
     HJ.out ys wr _ none hJs ⟨rfl, rfl, rfl, by show wr.heap.size ≤ (wr.alloc _).heap.size; simp, fun g hg _ => Below.heap_alloc wr _ g hg⟩ (fun r e => by cases e)
    have HJL := Lib.hid hJal; clear hJal
    by_cases hI : v = Inf
    · subst hI
      unfold Inf at cx
      have hk3 : ∀ q, KeepT n₀ Bg Bx wr ((wr.alloc (.cells #[.int .i64 (f : Int), .int .i64 t, .int .i64 m, .int .i64 i] 70)).drewN q) := fun q => by
       have := KeepT.alloc (n₀ := n₀) (Bg := Bg) (Bx := Bx) (W := wr) (.cells #[.int .i64 (f : Int), .int .i64 t, .int .i64 m, .int .i64 i] 70) hn0w zg zx
       exact ⟨⟨this.1.os, this.1.tape, this.1.output, this.1.size, this.1.block⟩, this.2.1, this.2.2⟩
      have hJ3 : ∀ q, J ys ((wr.alloc (.cells #[.int .i64 (f : Int), .int .i64 t, .int .i64 m, .int .i64 i] 70)).drewN q) := fun q => HJL.out q
      have HK3 := Lib.hid hk3; clear hk3
      have HJ3 := Lib.hid hJ3; clear hJ3
      gi_wp2
      refine wpIn_region_quiet_lit rfl (by kernel_rfl) (by kernel_rfl) ?_
      repeat (gi_big_quiet_step (fail))
      refine BigFrame.wpQuietIn_skip (fun _ _ _ _ => trivial) rfl ?_
      simp only [Act.put, List.setIfInBounds_toArray, List.set_cons_succ, List.set_cons_zero]
      repeat (gi_big_quiet_step (fail))
      refine wpQuietIn_nil ?_
      intro _ hw'
      obtain ⟨nq, hw''⟩ := hw'
      subst hw''
      gi_wp2
      go_roundw
      case rel => exact ⟨k + 1, by omega, by go_num, ⟨ys, by rw [outs_succ, HYS.out]; unfold out; rw [HX.out]; simp only; rw [if_pos HV.out]; simp, HJ3.out _⟩, hkp.trans (HK3.out _)⟩
      case measure => simp [intOf]; omega
    · have hne : (v != 9223372036854775807) = true := by simpa [Inf] using hI
      have hvr : -900000000000 ≤ v ∧ v ≤ 900000000000 := hxf.resolve_left hI
      obtain ⟨hv0, hv1⟩ := hvr
      clear hxf
      have hkl : k < l.length := by rw [HL.out]; exact hlt
      have hJ2 : J ys (wr.alloc (.cells #[.int .i64 (f : Int), .int .i64 t, .int .i64 m, .int .i64 i] 70)).drew := HJL.out 1
      have hlo : -1000000000000 ≤ v + m := by omega
      have hhi : v + m ≤ 1000000000000 := by omega
      obtain ⟨q, hq⟩ : ∃ q : Yl l, q.1 = (k, v + m) := ⟨⟨(k, v + m), hkl, hlo, hhi⟩, rfl⟩
      have hlen : ys.length < l.length := by
       have h1 := congrArg List.length HYS.out
       rw [List.length_map] at h1
       have h2 := outs_len l x k
       omega
      obtain ⟨fn, tmps, assign, body, hy, hR⟩ := hY ys q _ hJ2 hlen
      have hy : (Instr.yield lp #[.int .i64 (k : Int), .int .i64 (v + m)]).run Tryz.prog (wr.alloc (.cells #[.int .i64 (f : Int), .int .i64 t, .int .i64 m, .int .i64 i] 70)).drew = .ok (.round lp fn tmps assign body) (wr.alloc (.cells #[.int .i64 (f : Int), .int .i64 t, .int .i64 m, .int .i64 i] 70)).drew := by
       unfold encY at hy; rw [hq] at hy; exact hy
      have hout : outs l x (k + 1) = (ys ++ [q]).map (·.1) := by
       rw [outs_succ, List.map_append, HYS.out, List.map_cons, List.map_nil, hq]
       unfold out
       rw [HX.out]
       simp only
       rw [if_neg (by rw [HV.out]; exact hI), HV.out]
       simp
      have HOUT := Lib.hid hout; clear hout
      clear hq
      have hwr : IntKind.i64.wrap (v + m) = v + m := IntWalk.i64_in _ (by omega)
      have hR2 := hR.mono (R' := fun e W' => ∃ bv : Bool, e = .returned (.bool bv) ∧ Hid ((bv = true ∧ J (ys ++ [q]) W' ∧ KeepT n₀ Bg Bx (wr.alloc (.cells #[.int .i64 (f : Int), .int .i64 t, .int .i64 m, .int .i64 i] 70)).drew W') ∨ (bv = false ∧ Jx (ys ++ [q]) W')))
       (fun e W' h => h.elim (fun ⟨h1, h2⟩ => ⟨true, h1, .inl ⟨rfl, h2⟩⟩) (fun ⟨h1, h2⟩ => ⟨false, h1, .inr ⟨rfl, h2⟩⟩))
      clear hR hY
      have hk3 : KeepT n₀ Bg Bx wr (wr.alloc (.cells #[.int .i64 (f : Int), .int .i64 t, .int .i64 m, .int .i64 i] 70)).drew := by
       have := KeepT.alloc (n₀ := n₀) (Bg := Bg) (Bx := Bx) (W := wr) (.cells #[.int .i64 (f : Int), .int .i64 t, .int .i64 m, .int .i64 i] 70) hn0w zg zx
       exact ⟨⟨this.1.os, this.1.tape, this.1.output, this.1.size, this.1.block⟩, this.2.1, this.2.2⟩
      have HK3 := Lib.hid hk3; clear hk3
      gi_wp2
      gi_region_with (refine hR2.mono ?_; rintro e W3 ⟨bv, rfl, hbv⟩)
      all_goals
       rcases hbv with ⟨rfl, hJ3, hk4⟩ | ⟨rfl, hJx3⟩
       · gi_wp2
         go_roundw
         case rel => exact ⟨k + 1, by omega, by go_num, ⟨ys ++ [q], HOUT.out.symm, hJ3⟩, hkp.trans (HK3.out.trans hk4)⟩
         case measure => simp [intOf]; omega
       · gi_wp2
         refine bodyPost_ret (results_none rfl _ _ _) rfl ?_
         exact ⟨⟨_, rfl⟩, .inr ⟨ys ++ [q], by rw [← HOUT.out]; exact outs_prefix l x (by omega), hJx3⟩⟩
  · obtain rfl : k = n := by omega
    gi_wp2
    go_end0
    exact ⟨⟨_, rfl⟩, .inl ⟨ys, by rw [HYS.out, HL.out], hJs⟩⟩
end Go.Proofs.YtjjmifcjailpaaaGreat
/- onward and longer of gauge: one round of sums. -/
namespace Go.Proofs.YtjjmifcjailpaaaGreat
open Go.RowKit Go.Shelf
attribute [local go_sem] Oper.semAt_some
theorem onward_in (nn : Nat) (p : Int) (A : Option Addr) (n c : Nat) (x : List Int) (w : World) :
 CallsIn Fence.wide nn Tryz.prog 166 #[.agg #[.int .i64 p, .slice A n c], .agg (arr x)] w fun e w' =>
  e = .returned (.func (.func 173) #[] #[.pointer (some ⟨w.heap.size, 0, none⟩), .pointer (some ⟨w.heap.size + 1, 0, none⟩)]) ∧
  w' = (w.alloc (.cells #[.int .i64 p, .slice A n c] 128)).alloc (.cells (arr x) 148) := by
 refine callsIn_of_wp Tryz.func166 rfl trivial ?_ rfl
 simp only [Tryz.ntmps166, List.size_toArray, List.length_cons, List.length_nil, Nat.reduceAdd, Nat.reduceSub, Array.replicate_succ, Array.replicate_zero, List.push_toArray, List.append_toArray, List.nil_append, List.cons_append]
 gi_wp2
 go_ret
 exact ⟨rfl, rfl⟩
theorem onward_stops (nn : Nat) (hn : 1 ≤ nn) (Bg Bx n c : Nat) (p : Int) (A : Option Addr) (l : List Bnd) (x : List Int)
 (hn400 : n ≤ 402) (hx60 : x.length = 60) (hok : ∀ b ∈ l, 0 ≤ b.f ∧ b.f < 60 ∧ -100000000 ≤ b.m ∧ b.m ≤ 100000000) (hxv : ∀ i, i < 60 → at_ x i = Inf ∨ (-900000000000 ≤ at_ x i ∧ at_ x i ≤ 900000000000))
 (w₀ w : World) (hr : RdB w₀ A n c l) (hW : Below w₀.heap.size w₀ w) (hg : Blk w Bg 128 #[.int .i64 p, .slice A n c]) (hbx : Blk w Bx 148 (arr x)) :
 SeqStopsK Fence.wide nn Tryz.prog 173 #[.pointer (some ⟨Bg, 0, none⟩), .pointer (some ⟨Bx, 0, none⟩)] (encY (l := l)) (KeepT w₀.heap.size Bg Bx)
  (fun ys => ys.map (·.1) = outs l x l.length) (fun pre => pre.map (·.1) <+: outs l x l.length) l.length w := fun lp J Jx W hWw hJ _ hY h0 =>
 onward1_in nn hn lp w₀.heap.size Bg Bx n c p A l x hn400 hx60 hok hxv J Jx w₀ rfl hr hY W hJ (hW.trans (hWw.mono hW.size)) (hg.keep hWw) (hbx.keep hWw) h0
def foldQ (l : List Bnd) (y : List Int) (qs : List (Nat × Int)) : List Int :=
 qs.foldl (fun y q => match l[q.1]? with | some b => y.set b.t.toNat (min (look y b.t) q.2) | none => y) y
theorem foldQ_snoc (l : List Bnd) (y : List Int) (qs : List (Nat × Int)) (k : Nat) (s : Int) {b : Bnd} (h : l[k]? = some b) :
 foldQ l y (qs ++ [(k, s)]) = (foldQ l y qs).set b.t.toNat (min (look (foldQ l y qs) b.t) s) := by
 unfold foldQ
 rw [List.foldl_append]
 simp only [List.foldl_cons, List.foldl_nil, h]
theorem foldQ_length (l : List Bnd) : ∀ (qs : List (Nat × Int)) (y : List Int), (foldQ l y qs).length = y.length
 | [], _ => rfl
 | q :: qs, y => by
  unfold foldQ
  rw [List.foldl_cons]
  have := foldQ_length l qs
  unfold foldQ at this
  rw [this]
  split <;> simp
theorem foldQ_outs (l : List Bnd) (x : List Int) : ∀ k, k ≤ l.length → foldQ l x (outs l x k) = (l.take k).foldl (relax x) x
 | 0, _ => by simp [outs, foldQ]
 | k + 1, h => by
  have ih := foldQ_outs l x k (by omega)
  have hk : l[k]? = some l[k] := List.getElem?_eq_getElem (by omega)
  rw [outs_succ, List.take_add_one, List.foldl_append, ← ih, hk]
  unfold out
  rw [hk]
  simp only [Option.toList, List.foldl_cons, List.foldl_nil]
  by_cases hI : look x l[k].f = Inf
  · rw [if_pos hI]
    simp only [List.append_nil]
    unfold relax
    rw [if_pos hI]
  · rw [if_neg hI]
    simp only
    rw [foldQ_snoc _ _ _ _ _ hk]
    unfold relax
    rw [if_neg hI]
theorem foldQ_all (l : List Bnd) (x : List Int) {qs : List (Nat × Int)} (h : qs = outs l x l.length) : foldQ l x qs = longer l x := by
 rw [h, foldQ_outs l x _ (Nat.le_refl _), List.take_length]
 rfl
theorem blk_own {X Y : World} {row : Option Nat} {g : Nat} {t : TypeId} {cs : Array Value} (h : Blk X g t cs) (hg : X.grownBy Y row) (hr : ∀ r, row = some r → ∃ o : Obj, X.heap[r]? = some o ∧ o.isCells = false) : Blk Y g t cs := by
 refine (hg.block g h.lt (fun e => ?_)).trans h
 obtain ⟨o, ho, hc⟩ := hr g e.symm
 unfold Blk at h
 rw [h] at ho
 injection ho with ho
 subst ho
 cases hc
set_option maxRecDepth 100000 in
theorem longer_in (p : Int) (A : Option Addr) (n c : Nat) (l : List Bnd) (x : List Int) (hx : x.length = 60)
 (hn400 : n ≤ 402) (hok : ∀ b ∈ l, 0 ≤ b.f ∧ b.f < 60 ∧ 0 ≤ b.t ∧ b.t < 60 ∧ -100000000 ≤ b.m ∧ b.m ≤ 100000000) (hxv : ∀ i, i < 60 → at_ x i = Inf ∨ (-900000000000 ≤ at_ x i ∧ at_ x i ≤ 900000000000))
 (w : World) (hr : RdB w A n c l) :
 CallsIn Fence.wide 5 Tryz.prog 151 #[.agg #[.int .i64 p, .slice A n c], .agg (arr x)] w fun e w' => e = .returned (.agg (arr (longer l x))) ∧ Below w.heap.size w w' := by
 have HX := Lib.hid hx; clear hx
 have HR := Lib.hid hr; clear hr
 have HOK := Lib.hid hok; clear hok
 have HXV := Lib.hid hxv; clear hxv
 have b1 := Blk.new (w.alloc (.cells #[.int .i64 p, .slice A n c] 128)) 148 (arr x)
 rw [World.size_alloc] at b1
 have b2 := b1.alloc (.cells (arr zeros) 148)
 have b3 := b2.alloc (.cells (arr zeros) 148)
 have b4 := Blk.new (((w.alloc (.cells #[.int .i64 p, .slice A n c] 128)).alloc (.cells (arr x) 148)).alloc (.cells (arr zeros) 148)) 148 (arr zeros)
 simp only [World.size_alloc] at b4
 have b5 := (Blk.new ((w.alloc (.cells #[.int .i64 p, .slice A n c] 128)).alloc (.cells (arr x) 148)) 148 (arr zeros)).alloc (.cells (arr zeros) 148)
 simp only [World.size_alloc] at b5
 have b6 := (((Blk.new w 128 #[.int .i64 p, .slice A n c]).alloc (.cells (arr x) 148)).alloc (.cells (arr zeros) 148)).alloc (.cells (arr zeros) 148)
 have B2 := Lib.hid b2; have B3 := Lib.hid b3; have B4 := Lib.hid b4; have B5 := Lib.hid b5; have B6 := Lib.hid b6; clear b1 b2 b3 b4 b5 b6
 refine callsIn_of_wp_marks Tryz.func151 rfl trivial ?_ rfl
 simp only [Tryz.ntmps151, List.size_toArray, List.length_cons, List.length_nil, Nat.reduceAdd, Nat.reduceSub, Array.replicate_succ, Array.replicate_zero, List.push_toArray, List.append_toArray, List.nil_append, List.cons_append]
 gi_upto_region 2 with (first | (refine wpListIn_alloc_row rfl 148 rfl (arr zeros) zero_sums.1 ?_; simp only [World.size_alloc]) | (refine wpListIn_load_row rfl 148 (.tmp 3) rfl _ rfl _ (arr x) (0, 0) _ B2.out Tryz.underlying148 rfl (size_sums HX.out) ?_) | (refine wpListIn_store_row rfl 148 (.tmp 5) (.tmp 9) rfl _ (arr x) rfl rfl _ _ B4.out (size_sums HX.out) (by rw [arr_size, arr_size, HX.out, zeros_length]) (arr_one x) ?_))
 have c3 := B4.out.row (arr x)
 have c1 := B3.out.rowFar (g' := w.heap.size + 1 + 1 + 1) (by omega) (arr x)
 have c2 := B5.out.rowFar (g' := w.heap.size + 1 + 1 + 1) (by omega) (arr x)
 have c0 := B6.out.rowFar (g' := w.heap.size + 1 + 1 + 1) (by omega) (arr x)
 have hB0 : Below w.heap.size w (((((w.alloc (.cells #[.int .i64 p, .slice A n c] 128)).alloc (.cells (arr x) 148)).alloc (.cells (arr zeros) 148)).alloc (.cells (arr zeros) 148)).setRow (w.heap.size + 1 + 1 + 1) (arr x)) :=
  below_setRow (((((Below.refl _ w).alloc (Nat.le_refl _) _).alloc (by simp) _).alloc (by simp; omega) _).alloc (by simp; omega) _) (by omega) _
 have hsz : (((((w.alloc (.cells #[.int .i64 p, .slice A n c] 128)).alloc (.cells (arr x) 148)).alloc (.cells (arr zeros) 148)).alloc (.cells (arr zeros) 148)).setRow (w.heap.size + 1 + 1 + 1) (arr x)).heap.size = w.heap.size + 4 := by simp
 generalize (((((w.alloc (.cells #[.int .i64 p, .slice A n c] 128)).alloc (.cells (arr x) 148)).alloc (.cells (arr zeros) 148)).alloc (.cells (arr zeros) 148)).setRow (w.heap.size + 1 + 1 + 1) (arr x)) = W0 at *
 clear B2 B3 B4 B5 B6
 have k0 : W0.cell? ⟨w.heap.size, 0, none⟩ = some (.int .i64 p) := c0.cell 0
 have k1 : W0.cell? ⟨w.heap.size, 1, none⟩ = some (.slice A n c) := c0.cell 1
 have C0 := Lib.hid c0; have C1 := Lib.hid c1; have C2 := Lib.hid c2; have C3 := Lib.hid c3; clear c0 c1 c2 c3
 have HSZ := Lib.hid hsz; clear hsz
 have hlt0 : w.heap.size + 3 < W0.heap.size := by have := HSZ.out; omega
 gi_wp2_with (first | (refine wpListIn_load_row rfl 148 (.tmp 3) rfl _ rfl _ (arr x) (0, 0) _ C1.out Tryz.underlying148 rfl (size_sums HX.out) ?_) | (refine ⟨trivial, ?_⟩; gi_at_call 166; refine (onward_in _ _ _ _ _ _ _).mono ?_; rintro e w' ⟨rfl, rfl⟩))
 have d0 := Blk.new W0 128 #[.int .i64 p, .slice A n c]
 have d1 := d0.alloc (.cells (arr x) 148)
 have d2 := Blk.new (W0.alloc (.cells #[.int .i64 p, .slice A n c] 128)) 148 (arr x)
 simp only [World.size_alloc] at d2
 have hB1 : Below w.heap.size w ((W0.alloc (.cells #[.int .i64 p, .slice A n c] 128)).alloc (.cells (arr x) 148)) := (hB0.alloc (by omega) _).alloc (by simp; omega) _
 have hsz1 : ((W0.alloc (.cells #[.int .i64 p, .slice A n c] 128)).alloc (.cells (arr x) 148)).heap.size = w.heap.size + 6 := by simp [HSZ.out]
 refine wpIn_rangeFunc_ownG rfl (by omega) (gf := 173) (lb := #[.pointer (some ⟨W0.heap.size, 0, none⟩), .pointer (some ⟨W0.heap.size + 1, 0, none⟩)]) rfl trivial (enters_of Tryz.func173 (by kernel_rfl) rfl)
  (onward_stops (5 - 1) (by omega) W0.heap.size (W0.heap.size + 1) n c p A l x hn400 HX.out (fun b hb => ⟨(HOK.out b hb).1, (HOK.out b hb).2.1, (HOK.out b hb).2.2.2.2.1, (HOK.out b hb).2.2.2.2.2⟩) HXV.out w _ HR.out hB1 d1 d2)
  KeepT.trans (keepT_b (by rw [hsz1]; omega) (by rw [hsz1, HSZ.out]; omega) (by rw [hsz1, HSZ.out]; omega)) (Below.refl _ _) (fun _ => rfl)
  (fun pre W => (Blk W (w.heap.size + 3) 148 (arr (foldQ l x (pre.map (·.1)))) ∧ Blk W (w.heap.size + 2) 148 (arr zeros) ∧ Blk W w.heap.size 128 #[.int .i64 p, .slice A n c]) ∧ Below w.heap.size w W)
  (fun _ _ _ => False)
  (OwnFrom.and (Own.from (fun s X Y row hs hg hr => ⟨blk_own hs.1 hg hr, blk_own hs.2.1 hg hr, blk_own hs.2.2 hg hr⟩) _) (ownFrom_below (Nat.le_refl _) (by omega)))
  (fun _ _ _ _ _ hs _ _ => hs)
  ⟨⟨(C3.out.alloc _).alloc _, (C2.out.alloc _).alloc _, (C0.out.alloc _).alloc _⟩, hB1⟩
  (fun q => { tmps := #[.agg #[.int .i64 p, .slice A n c], .agg (arr x), .pointer (some ⟨w.heap.size, 0, none⟩), .pointer (some ⟨w.heap.size + 1, 0, none⟩), .pointer (some ⟨w.heap.size + 1 + 1, 0, none⟩), .pointer (some ⟨w.heap.size + 1 + 1 + 1, 0, none⟩),
   .int .i64 (q.1.1 : Int), .int .i64 q.1.2, undef, .agg (arr x), .agg #[.int .i64 p, .slice A n c], .agg (arr x), .func (.func 173) #[] #[.pointer (some ⟨W0.heap.size, 0, none⟩), .pointer (some ⟨W0.heap.size + 1, 0, none⟩)],
   .int .i64 (q.1.1 : Int), .int .i64 q.1.2, undef, undef, undef, undef, undef, undef, undef, undef, undef, undef, undef, undef, undef, undef], defers := [] }) ?assign ?body ?done ?stop
 case assign =>
  intro lp q W K hK
  dsimp only [encY]
  gi_wp2
  exact hK
 case body =>
  rintro lp pre q W ⟨⟨e3, e2, e0⟩, hB⟩ hlen
  have hqn : q.1.1 < n := by have := HR.out.len; have := q.2.1; omega
  obtain ⟨b, o, f, t, m, i, hA, hbw, hxx, r0, r1, r2, r3⟩ := (HR.out.below hB).get hqn
  subst hA
  have HXX := Lib.hid hxx; clear hxx
  obtain ⟨-, -, ht0, ht1, -, -⟩ := HOK.out _ (List.mem_of_getElem? HXX.out)
  obtain ⟨t, rfl⟩ := Int.eq_ofNat_of_zero_le ht0
  have htl : t < 60 := by have h1 : (t : Int) < 60 := ht1; omega
  obtain ⟨y, hy⟩ : ∃ y, foldQ l x (pre.map (·.1)) = y := ⟨_, rfl⟩
  rw [hy] at e3
  have hyl : y.length = 60 := by rw [← hy, foldQ_length, HX.out]
  have HY := Lib.hid hy; clear hy
  have u0 : W.cell? ⟨w.heap.size, 1, none⟩ = some (.slice (some ⟨b, o, none⟩) n c) := e0.cell 1
  have u3 : W.cell? ⟨w.heap.size + 1 + 1 + 1, t, none⟩ = some (.int .i64 (at_ y t)) := by rw [show w.heap.size + 1 + 1 + 1 = w.heap.size + 3 from rfl, e3.cell]; exact arr_get y t (by rw [hyl]; exact htl)
  have u4 : W.frozen? ⟨w.heap.size + 1 + 1 + 1, t, none⟩ = false := e3.frozen t
  have E3 := Lib.hid e3; have E2 := Lib.hid e2; have E0 := Lib.hid e0; clear e3 e2 e0
  have HYL := Lib.hid hyl; clear hyl
  obtain ⟨v, hv⟩ : ∃ v, at_ y t = v := ⟨_, rfl⟩
  rw [hv] at u3
  have HV := Lib.hid hv; clear hv
  have key : ∀ u, u = min v q.1.2 → ownPostG (w.heap.size + 6) (KeepT w.heap.size W0.heap.size (W0.heap.size + 1))
   (fun pre W => (Blk W (w.heap.size + 3) 148 (arr (foldQ l x (pre.map (·.1)))) ∧ Blk W (w.heap.size + 2) 148 (arr zeros) ∧ Blk W w.heap.size 128 #[.int .i64 p, .slice (some ⟨b, o, none⟩) n c]) ∧ Below w.heap.size w W)
   (fun _ _ _ => False) (pre ++ [q]) W Exit.normal { tmps := #[], defers := [] } (W.setCell ⟨w.heap.size + 1 + 1 + 1, t, none⟩ (.int .i64 u)) := by
   intro u hu
   have hs0 := HSZ.out
   refine ⟨(KeepsOthers.setCell _ _ _).from _, ⟨(Below.refl _ W).setCell (p := ⟨w.heap.size + 1 + 1 + 1, t, none⟩) (by simp; omega) _, heap_setCell_other _ _ _ _ (by simp; omega), heap_setCell_other _ _ _ _ (by simp; omega)⟩, ⟨?_, E2.out.far (by simp) _, E0.out.far (by simp; omega) _⟩, hB.setCell (p := ⟨w.heap.size + 1 + 1 + 1, t, none⟩) (by simp; omega) _⟩
   have h1 := E3.out.set_ t (.int .i64 u)
   rw [arr_set] at h1
   rw [List.map_append, List.map_cons, List.map_nil, show q.1 = (q.1.1, q.1.2) from rfl, foldQ_snoc l x _ q.1.1 q.1.2 HXX.out, HY.out]
   have h2 : min (look y (t : Int)) q.1.2 = u := by rw [hu, ← HV.out]; rfl
   show Blk _ _ _ (arr (y.set ((t : Int)).toNat (min (look y (t : Int)) q.1.2)))
   rw [h2]
   exact h1
  have KEY := Lib.hid key; clear key
  gi_wp2
  all_goals exact KEY.out _ (by omega)
 case done =>
  rintro D ys W hD hS ⟨⟨e3, e2, e0⟩, hB⟩ hK
  rw [foldQ_all l x hS] at e3
  have hll : (longer l x).length = 60 := by rw [longer_length, HX.out]
  have E3 := Lib.hid e3; have E2 := Lib.hid e2; clear e3 e2 e0
  have HLL := Lib.hid hll; clear hll
  have HK := Lib.hid hK; clear hK
  gi_wp2_with (first | (refine wpListIn_load_row rfl 148 (.tmp 5) rfl _ rfl _ (arr (longer l x)) (0, 0) _ E3.out Tryz.underlying148 rfl (size_sums HLL.out) ?_) | (refine wpListIn_store_row rfl 148 (.tmp 4) (.tmp 28) rfl _ (arr (longer l x)) rfl rfl _ _ E2.out (size_sums HLL.out) (by rw [arr_size, arr_size, HLL.out, zeros_length]) (arr_one _) ?_))
  have hK' : (W.setRow (w.heap.size + 2) (arr (longer l x))).heap[D]? = some (.deferred (some [])) := (setRow_other _ _ _ _ (by rw [hsz1] at hD; omega)).trans HK.out
  refine ⟨by simp, .inl ⟨_, _, rfl, run_takeDeferred hK', ?_⟩⟩
  have h4 := E2.out.row (arr (longer l x))
  refine ⟨_, results_cell_row rfl _ _ (w.heap.size + 2) 148 (arr (longer l x)) (0, 0) _ rfl ((World.putObj_heap_other (by rw [hsz1] at hD; omega)).trans h4) Tryz.underlying148 rfl (size_sums HLL.out), rfl, ?_⟩
  exact (below_setRow hB (by omega) _).trans (belowK_b (w := w) (Nat.le_refl _) _ D _ _ (by rw [hsz1] at hD; omega) hK' rfl rfl)
 case stop =>
  rintro D c pre W _ _ h _
  exact h.elim
theorem longer_any (p : Int) (A : Option Addr) (n c : Nat) (l : List Bnd) (x : List Int) (hx : x.length = 60)
 (hn400 : n ≤ 402) (hok : ∀ b ∈ l, 0 ≤ b.f ∧ b.f < 60 ∧ 0 ≤ b.t ∧ b.t < 60 ∧ -100000000 ≤ b.m ∧ b.m ≤ 100000000) (hxv : ∀ i, i < 60 → at_ x i = Inf ∨ (-900000000000 ≤ at_ x i ∧ at_ x i ≤ 900000000000))
 (w : World) (hr : RdB w A n c l) :
 Calls Tryz.prog 151 #[.agg #[.int .i64 p, .slice A n c], .agg (arr x)] w fun e w' => e = .returned (.agg (arr (longer l x))) ∧ Below w.heap.size w w' :=
 callsIn_wide.1 (longer_in p A n c l x hx hn400 hok hxv w hr)
end Go.Proofs.YtjjmifcjailpaaaGreat
set_option linter.unusedSimpArgs false
set_option linter.unusedVariables false
namespace Go.Proofs.YtjjmifcjailpaaaGreat
open Go.RowKit
theorem eql_sums {x y : List Int} (hx : x.length = 60) (hy : y.length = 60) (w : World) : (Op.equalIn 10000 148 (.agg (arr x)) (.agg (arr y))).run Tryz.prog w = .ok (decide (x = y)) w :=
 run_equal_arr 9998 148 3 60 Tryz.underlying148 Tryz.underlying3 (fun w => by kernel_rfl) x y hx hy w
def Wd (r : Int) (x : List Int) : Prop := x.length = 60 ∧ ∀ i, i < 60 → at_ x i = Inf ∨ (-r ≤ at_ x i ∧ at_ x i ≤ r)
def OkB (l : List Bnd) : Prop := ∀ b ∈ l, 0 ≤ b.f ∧ b.f < 60 ∧ 0 ≤ b.t ∧ b.t < 60 ∧ -100000000 ≤ b.m ∧ b.m ≤ 100000000
theorem Wd.longer {l : List Bnd} {r : Int} {x : List Int} (h : Wd r x) (hok : OkB l) (hr : 0 ≤ r) : Wd (r + 100000000) (longer l x) := by
 refine ⟨by rw [longer_length]; exact h.1, fun i hi => ?_⟩
 rcases longer_cases l x i with e | ⟨c, hc, hf, ht, he⟩
 · rw [e]
   rcases h.2 i hi with h1 | h1
   · exact .inl h1
   · exact .inr (by omega)
 · obtain ⟨f0, f1, t0, t1, m0, m1⟩ := hok c hc
   rw [look_eq] at hf he
   rcases h.2 c.f.toNat (by omega) with h1 | h1
   · exact absurd h1 hf
   · exact .inr (by omega)
theorem settle_step {l : List Bnd} {p k : Nat} {y : List Int} (hk : k < p) : settle l (p - k) y = if longer l y = y then some y else settle l (p - (k + 1)) (longer l y) := by
 obtain ⟨d, hd⟩ : ∃ d, p - k = d + 1 := ⟨p - k - 1, by omega⟩
 rw [hd, show p - (k + 1) = d from by omega]
 rfl
def SettledR (l : List Bnd) (p : Nat) (x : List Int) (w : World) (e : Ending) (w' : World) : Prop :=
 ∃ y ok, y.length = 60 ∧ e = .returned (.tuple #[.agg (arr y), .bool ok]) ∧ Below w.heap.size w w' ∧ ((ok = true ∧ settle l p x = some y) ∨ (ok = false ∧ settle l p x = none ∧ y = zeros))
set_option maxRecDepth 100000 in
theorem settled_any (p : Nat) (A : Option Addr) (n c : Nat) (l : List Bnd) (x : List Int) (hx : Wd 800000000000 x) (hp : p ≤ 60) (hn400 : n ≤ 402) (hok : OkB l) (w : World) (hr : RdB w A n c l) :
 Calls Tryz.prog 147 #[.agg #[.int .i64 (p : Int), .slice A n c], .agg (arr x)] w (SettledR l p x w) := by
 have HR := Lib.hid hr; clear hr
 have HX := Lib.hid hx; clear hx
 have HOK := Lib.hid hok; clear hok
 have b1 := (Blk.new (w.alloc (.cells #[.int .i64 (p : Int), .slice A n c] 128)) 148 (arr x)).alloc (.cells (arr zeros) 148)
 have b2 := Blk.new ((w.alloc (.cells #[.int .i64 (p : Int), .slice A n c] 128)).alloc (.cells (arr x) 148)) 148 (arr zeros)
 have b0 := ((Blk.new w 128 #[.int .i64 (p : Int), .slice A n c]).alloc (.cells (arr x) 148)).alloc (.cells (arr zeros) 148)
 simp only [World.size_alloc] at b1 b2
 have B0 := Lib.hid b0; have B1 := Lib.hid b1; have B2 := Lib.hid b2; clear b0 b1 b2
 have hm : Tryz.prog.eqGuardType Tryz.prog.depth 148 = false := by kernel_rfl
 go_enter Tryz.func147, Tryz.ntmps147
 go_wp2_with (first | (refine wpList_alloc_row rfl 148 rfl (arr zeros) zero_sums.1 ?_; simp only [World.size_alloc]))
 have hB0 : Below w.heap.size w (((w.alloc (.cells #[.int .i64 (p : Int), .slice A n c] 128)).alloc (.cells (arr x) 148)).alloc (.cells (arr zeros) 148)) := (((Below.refl _ w).alloc (Nat.le_refl _) _).alloc (by simp) _).alloc (by simp; omega) _
 go_loopw [9] (fun i wr => ∃ (k : Nat) (y : List Int), k ≤ p ∧ i = .int .i64 k ∧ Wd (800000000000 + k * 100000000) y ∧ settle l (p - k) y = settle l p x ∧ Blk wr w.heap.size 128 #[.int .i64 (p : Int), .slice A n c] ∧ Blk wr (w.heap.size + 1) 148 (arr y) ∧ Blk wr (w.heap.size + 2) 148 (arr zeros) ∧ Below w.heap.size w wr) (fun i _ => p - (intOf i).toNat)
 case atStart => exact ⟨0, x, Nat.zero_le _, rfl, by simpa using HX.out, rfl, B0.out, B1.out, B2.out, hB0⟩
 case round =>
  obtain ⟨k, y, hk, rfl, hy, hset, c0, c1, c2, hB⟩ := hrel
  have k0 : wr.cell? ⟨w.heap.size, 0, none⟩ = some (.int .i64 (p : Int)) := c0.cell 0
  have k1 : wr.cell? ⟨w.heap.size, 1, none⟩ = some (.slice A n c) := c0.cell 1
  have C0 := Lib.hid c0; have C1 := Lib.hid c1; have C2 := Lib.hid c2; clear c0 c1 c2
  have HY := Lib.hid hy; have HSET := Lib.hid hset; clear hy hset
  have hlt2 := C2.out.lt
  by_cases hlt : k < p
  · have hlt' : (k : Int) < p := by omega
    go_wp2_with (first | (refine wpList_load_row rfl 148 (.tmp 3) rfl _ rfl _ (arr y) (0, 0) _ C1.out Tryz.underlying148 rfl (size_sums HY.out.1) ?_))
    refine (longer_any (p : Int) A n c l y HY.out.1 hn400 HOK.out (fun i hi => ?_) wr (HR.out.below (hB.mono (Nat.le_refl _)))).mono ?_
    · rcases HY.out.2 i hi with h | h
      · exact .inl h
      · exact .inr (by omega)
    rintro e w1 ⟨rfl, hb1⟩
    have hstep := settle_step (l := l) (y := y) hlt
    have HST := Lib.hid hstep; clear hstep
    have hlong := HY.out.longer HOK.out (by omega)
    have HL := Lib.hid hlong; clear hlong
    have hs1 := hb1.size
    have d1 := (C1.out.keep hb1).alloc (.cells (arr (longer l y)) 148)
    have d2 := (C2.out.keep hb1).alloc (.cells (arr (longer l y)) 148)
    have d0 := (C0.out.keep hb1).alloc (.cells (arr (longer l y)) 148)
    have d3 := Blk.new w1 148 (arr (longer l y))
    have z3 := Blk.new w1 148 (arr zeros)
    have hBw : Below w.heap.size w (w1.alloc (.cells (arr (longer l y)) 148)) := (hB.trans (hb1.mono hB.size)).alloc (Nat.le_trans hB.size hs1) _
    have D0 := Lib.hid d0; have D1 := Lib.hid d1; have D2 := Lib.hid d2; have D3 := Lib.hid d3; have Z3 := Lib.hid z3; clear d0 d1 d2 d3 z3
    by_cases heq : longer l y = y
    · have heqv : ∀ w, (Op.equalIn 10000 148 (.agg (arr (longer l y))) (.agg (arr y))).run Tryz.prog w = .ok true w := fun w => by rw [eql_sums HL.out.1 HY.out.1, decide_eq_true heq]
      have HEQ := Lib.hid heq; clear heq
      go_wp2_with (first | (refine wpList_alloc_row rfl 148 rfl (arr zeros) zero_sums.1 ?_; simp only [World.size_alloc]) | (refine wpList_store_row rfl 148 (.tmp 6) (.tmp 13) rfl _ (arr (longer l y)) rfl rfl _ (arr zeros) Z3.out (size_sums HL.out.1) ((arr_size _).trans (zeros_length.trans (HL.out.1.symm.trans (arr_size _).symm))) (arr_one _) ?_; rw [World.setRow_alloc_new]) | (refine wpList_load_row rfl 148 (.tmp 6) rfl _ rfl _ (arr (longer l y)) (0, 0) _ D3.out Tryz.underlying148 rfl (size_sums HL.out.1) ?_) | (refine wpList_load_row rfl 148 (.tmp 3) rfl _ rfl _ (arr y) (0, 0) _ D1.out Tryz.underlying148 rfl (size_sums HY.out.1) ?_) | (refine wpList_store_row rfl 148 (.tmp 4) (.tmp 17) rfl _ (arr y) rfl rfl _ (arr zeros) D2.out (size_sums HY.out.1) ((arr_size _).trans (zeros_length.trans (HY.out.1.symm.trans (arr_size _).symm))) (arr_one _) ?_))
      refine bodyPost_ret (results_row_tmp rfl _ _ (w.heap.size + 2) 148 (arr y) (0, 0) _ rfl (D2.out.row (arr y)) Tryz.underlying148 rfl (size_sums HY.out.1)) rfl ?_
      exact ⟨y, true, HY.out.1, rfl, below_setRow hBw (by omega) _, .inl ⟨rfl, by rw [← HSET.out, HST.out, if_pos HEQ.out]⟩⟩
    · have heqv : ∀ w, (Op.equalIn 10000 148 (.agg (arr (longer l y))) (.agg (arr y))).run Tryz.prog w = .ok false w := fun w => by rw [eql_sums HL.out.1 HY.out.1, decide_eq_false heq]
      have HEQ := Lib.hid heq; clear heq
      go_wp2_with (first | (refine wpList_alloc_row rfl 148 rfl (arr zeros) zero_sums.1 ?_; simp only [World.size_alloc]) | (refine wpList_store_row rfl 148 (.tmp 6) (.tmp 13) rfl _ (arr (longer l y)) rfl rfl _ (arr zeros) Z3.out (size_sums HL.out.1) ((arr_size _).trans (zeros_length.trans (HL.out.1.symm.trans (arr_size _).symm))) (arr_one _) ?_; rw [World.setRow_alloc_new]) | (refine wpList_load_row rfl 148 (.tmp 6) rfl _ rfl _ (arr (longer l y)) (0, 0) _ D3.out Tryz.underlying148 rfl (size_sums HL.out.1) ?_) | (refine wpList_load_row rfl 148 (.tmp 3) rfl _ rfl _ (arr y) (0, 0) _ D1.out Tryz.underlying148 rfl (size_sums HY.out.1) ?_) | (refine wpList_store_row rfl 148 (.tmp 3) (.tmp 18) rfl _ (arr (longer l y)) rfl rfl _ (arr y) D1.out (size_sums HL.out.1) ((arr_size _).trans (HY.out.1.trans (HL.out.1.symm.trans (arr_size _).symm))) (arr_one _) ?_))
      go_roundw
      case rel => exact ⟨k + 1, longer l y, by omega, by go_num, by have := HL.out; rwa [show (800000000000 + (k : Int) * 100000000 + 100000000) = 800000000000 + ((k + 1 : Nat) : Int) * 100000000 from by omega] at this, by rw [← HSET.out, HST.out, if_neg HEQ.out], D0.out.rowFar (by omega) _, D1.out.row _, D2.out.rowFar (by omega) _, below_setRow hBw (by omega) _⟩
      case measure => simp [intOf]; omega
  · obtain rfl : k = p := by omega
    go_wp2_with (first | (refine wpList_build0 rfl 148 rfl (arr zeros) built_sums ?_) | (refine wpList_store_row rfl 148 (.tmp 4) (.tmp 20) rfl _ (arr zeros) rfl rfl _ (arr zeros) C2.out (size_sums zeros_length) ((arr_size _).trans (zeros_length.trans (zeros_length.symm.trans (arr_size _).symm))) (arr_one _) ?_))
    refine bodyPost_ret (results_row_tmp rfl _ _ (w.heap.size + 2) 148 (arr zeros) (0, 0) _ rfl (C2.out.row (arr zeros)) Tryz.underlying148 rfl (size_sums zeros_length)) rfl ?_
    refine ⟨zeros, false, zeros_length, rfl, below_setRow hB (by omega) _, .inr ⟨rfl, ?_, rfl⟩⟩
    rw [← HSET.out, Nat.sub_self]
    rfl
end Go.Proofs.YtjjmifcjailpaaaGreat
/- Rows of sixty numbers in one block: arrays of arrays, and slices of arrays. -/
namespace Go.Proofs.YtjjmifcjailpaaaGreat
open Go.RowKit
def flat (rs : List (List Int)) : List Int := rs.flatten
def Sixty (rs : List (List Int)) : Prop := ∀ r ∈ rs, r.length = 60
theorem flat_length : ∀ {rs : List (List Int)}, Sixty rs → (flat rs).length = rs.length * 60
 | [], _ => rfl
 | r :: rs, h => by
  have ih := flat_length (rs := rs) (fun x hx => h x (List.mem_cons_of_mem _ hx))
  have h1 := h r (List.mem_cons_self ..)
  unfold flat at ih ⊢
  rw [List.flatten_cons, List.length_append, ih, h1, List.length_cons]
  omega
theorem flat_append (a b : List (List Int)) : flat (a ++ b) = flat a ++ flat b := List.flatten_append
theorem flat_get : ∀ {rs : List (List Int)}, Sixty rs → ∀ {k : Nat} {r : List Int}, rs[k]? = some r → ∀ {j : Nat}, j < 60 → (flat rs)[k * 60 + j]? = r[j]?
 | [], _, k, r, h, _, _ => by simp at h
 | x :: rs, hs, 0, r, h, j, hj => by
  have h1 := hs x (List.mem_cons_self ..)
  simp only [List.getElem?_cons_zero, Option.some.injEq] at h
  subst h
  unfold flat
  rw [List.flatten_cons, Nat.zero_mul, Nat.zero_add, List.getElem?_append_left (by omega)]
 | x :: rs, hs, k + 1, r, h, j, hj => by
  have h1 := hs x (List.mem_cons_self ..)
  rw [List.getElem?_cons_succ] at h
  have ih := flat_get (rs := rs) (fun y hy => hs y (List.mem_cons_of_mem _ hy)) h hj
  unfold flat at ih ⊢
  rw [List.flatten_cons, List.getElem?_append_right (by omega), h1, show (k + 1) * 60 + j - 60 = k * 60 + j from by omega, ih]
theorem Sixty.set {rs : List (List Int)} (h : Sixty rs) (k : Nat) {y : List Int} (hy : y.length = 60) : Sixty (rs.set k y) := fun r hr => by
 rcases List.mem_or_eq_of_mem_set hr with h1 | h1
 · exact h r h1
 · rw [h1]; exact hy
theorem Sixty.get {rs : List (List Int)} (h : Sixty rs) {k : Nat} {r : List Int} (hk : rs[k]? = some r) : r.length = 60 := h r (List.mem_of_getElem? hk)
theorem flat_set : ∀ {rs : List (List Int)}, Sixty rs → ∀ {k : Nat} {y : List Int}, k < rs.length → y.length = 60 → flat (rs.set k y) = (flat rs).take (k * 60) ++ y ++ (flat rs).drop (k * 60 + 60)
 | [], _, k, _, h, _ => by simp at h
 | x :: rs, hs, 0, y, _, hy => by
  have h1 := hs x (List.mem_cons_self ..)
  unfold flat
  rw [List.set_cons_zero, List.flatten_cons, List.flatten_cons, Nat.zero_mul, Nat.zero_add, List.take_zero, List.nil_append, List.drop_append, List.drop_eq_nil_of_le (by omega), h1, Nat.sub_self, List.drop_zero, List.nil_append]
 | x :: rs, hs, k + 1, y, h, hy => by
  have h1 := hs x (List.mem_cons_self ..)
  have ih := flat_set (rs := rs) (fun z hz => hs z (List.mem_cons_of_mem _ hz)) (k := k) (y := y) (by simpa using h) hy
  unfold flat at ih ⊢
  have e1 : (x ++ rs.flatten).take ((k + 1) * 60) = x ++ rs.flatten.take (k * 60) := by
   rw [List.take_append, List.take_of_length_le (by omega), h1, show (k + 1) * 60 - 60 = k * 60 from by omega]
  have e2 : (x ++ rs.flatten).drop ((k + 1) * 60 + 60) = rs.flatten.drop (k * 60 + 60) := by
   rw [List.drop_append, List.drop_eq_nil_of_le (by omega), h1, show (k + 1) * 60 + 60 - 60 = k * 60 + 60 from by omega, List.nil_append]
  rw [List.set_cons_succ, List.flatten_cons, List.flatten_cons, ih, e1, e2]
  simp only [List.append_assoc]
theorem blk_setCells {t : TypeId} {b : Nat} : ∀ (y : List Int) (o : Nat) (w : World) (x : List Int), Blk w b t (arr x) → o + y.length ≤ x.length →
 Blk (w.setCells b o (y.map (Value.int .i64))) b t (arr (x.take o ++ y ++ x.drop (o + y.length)))
 | [], o, w, x, h, _ => by
  rw [List.append_nil, List.length_nil, Nat.add_zero, List.take_append_drop]
  exact h
 | v :: y, o, w, x, h, hl => by
  rw [List.length_cons] at hl
  have h1 := h.set_ o (.int .i64 v)
  rw [arr_set] at h1
  have ih := blk_setCells y (o + 1) _ (x.set o v) h1 (by rw [List.length_set]; omega)
  rw [List.map_cons, World.setCells]
  have e1 : (x.set o v).take (o + 1) = x.take o ++ [v] := by
   rw [List.take_add_one, List.take_set_of_le (Nat.le_refl _), List.getElem?_set_self (by omega)]
   rfl
  have e2 : (x.set o v).drop (o + 1 + y.length) = x.drop (o + (v :: y).length) := by
   rw [List.drop_set_of_lt (by omega), List.length_cons, show o + 1 + y.length = o + (y.length + 1) from by omega]
  rw [e1, e2] at ih
  simpa using ih
theorem setCells_other {b g : Nat} (hg : g ≠ b) : ∀ (y : List Value) (o : Nat) (w : World), (w.setCells b o y).heap[g]? = w.heap[g]?
 | [], _, _ => rfl
 | v :: y, o, w => by rw [World.setCells, setCells_other hg y (o + 1)]; exact heap_setCell_other _ _ _ _ (by simpa using hg)
theorem below_setCells {B : Nat} {a : World} {b : Nat} (hb : B ≤ b) : ∀ (y : List Value) (o : Nat) (w : World), Below B a w → Below B a (w.setCells b o y)
 | [], _, _, h => h
 | v :: y, o, w, h => by rw [World.setCells]; exact below_setCells hb y (o + 1) _ (h.setCell (by simpa using hb) _)
theorem Blk.farRow {w : World} {g b : Nat} {t : TypeId} {cs : Array Value} (h : Blk w g t cs) (hg : g ≠ b) (o : Nat) (y : List Value) : Blk (w.setCells b o y) g t cs := (setCells_other hg y o w).trans h
theorem Blk.range {w : World} {b : Nat} {t : TypeId} {rs : List (List Int)} (h : Blk w b t (arr (flat rs))) (hs : Sixty rs) {k : Nat} {r : List Int} (hk : rs[k]? = some r) : w.rangeAt b (k * 60) (r.map (Value.int .i64)) := fun j v hv => by
 have hj : j < 60 := by
  have := (List.getElem?_eq_some_iff.1 hv).1
  rw [List.length_map, hs.get hk] at this
  exact this
 rw [h.cell]
 have h1 := flat_get hs hk hj
 rw [List.getElem?_map] at hv
 simp only [arr, List.getElem?_toArray, List.getElem?_map, h1]
 exact hv
theorem Blk.there {w : World} {b : Nat} {t : TypeId} {rs : List (List Int)} (h : Blk w b t (arr (flat rs))) (hs : Sixty rs) {k : Nat} (hk : k < rs.length) : w.there b (k * 60) 60 := fun j hj => by
 refine ⟨?_, h.frozen _⟩
 rw [h.cell, arr_get _ _ (by rw [flat_length hs]; omega)]
 rfl
theorem Blk.rowSet {w : World} {b : Nat} {t : TypeId} {rs : List (List Int)} (h : Blk w b t (arr (flat rs))) (hs : Sixty rs) {k : Nat} (hk : k < rs.length) {y : List Int} (hy : y.length = 60) :
 Blk (w.setCells b (k * 60) (y.map (Value.int .i64))) b t (arr (flat (rs.set k y))) := by
 have := blk_setCells y (k * 60) w (flat rs) h (by rw [hy, flat_length hs]; omega)
 rw [hy] at this
 rw [flat_set hs hk hy]
 exact this
theorem Blk.at {w : World} {b : Nat} {t : TypeId} {rs : List (List Int)} (h : Blk w b t (arr (flat rs))) (hs : Sixty rs) {k : Nat} {r : List Int} (hk : rs[k]? = some r) {j : Nat} (hj : j < 60) : w.cell? ⟨b, k * 60 + j, none⟩ = some (.int .i64 (at_ r j)) := by
 rw [h.cell]
 have h1 := flat_get hs hk hj
 have hl := hs.get hk
 simp only [arr, List.getElem?_toArray, List.getElem?_map, h1]
 simp [at_, List.getD_eq_getElem?_getD, List.getElem?_eq_getElem (show j < r.length by omega)]
def zeroRows : List (List Int) := List.replicate 60 zeros
theorem zero_rows : (∀ w, (zeroValue 185).run Tryz.prog w = .ok (.agg (arr (flat zeroRows))) w) ∧ (Tryz.prog.info? 185).map (·.size) = some 3600 :=
 zero_of_info (by kernel_rfl)
theorem size_map {x : List Int} (h : x.length = 60) : (Tryz.prog.info? 148).map (·.size) = some (x.map (Value.int .i64)).length := by rw [zero_sums.2, List.length_map, h]
theorem infoS : (Tryz.prog.info? 148).map (fun i => (i.zero, i.size, i.bytes)) = some (some (.agg (arr zeros)), 60, 480) := by kernel_rfl
theorem run_build_one (w : World) {x : List Int} (hx : x.length = 60) : (Instr.buildSlice 201 1 #[(0, .agg (arr x))]).run Tryz.prog w = .ok (.slice (some ⟨w.heap.size, 0, none⟩) 1 1) (w.alloc (.cells (arr x) 148)) := by
 obtain ⟨ie, hq, hz, hs, -⟩ := info_parts infoS
 refine run_buildSlice w _ 148 1 _ (arr x) ie _ Tryz.underlying201 hq hz (by rw [hs]; decide) (by rw [hs]; decide) ?_
 have := Great.fill_whole (s := 60) (by decide) [.agg (arr x)] ((Array.range (1 * ie.size)).map (fun k => (Value.agg (arr zeros)).cells[k % (Value.agg (arr zeros)).cells.size]!)) (by simp [Value.cells, arr_size, hx]) (by simp [hs])
 simpa [hs, Value.cells] using this
end Go.Proofs.YtjjmifcjailpaaaGreat
/- A region that draws its order and only reads, inside a round of a range over a function. -/
namespace Go.Proofs.YtjjmifcjailpaaaGreat
open Go.RowKit
section
variable {F : Fence} {n : Nat} {P : Program}
theorem wpIn_round {o : Oper} {a : Act} {w : World} {K : Act → World → Prop} {Q : Exit → Act → World → Prop} {l : Nat} (hro : F.round = none) (hd : ∀ c, o.op ≠ .defer c) (h : o.wpIn F n P a w K Q) : o.wpIn (F.inRound l) n P a w K Q := by
 refine ⟨h.1, ?_⟩
 have h2 := h.2
 rw [hro, Oper.semAt_none] at h2
 rw [show (F.inRound l).round = some l from rfl, Oper.semAt_some l _ _ hd]
 exact h2
def noDefer (o : Oper) : Bool := match o.op with | .defer _ => false | _ => true
theorem noDefer_spec {o : Oper} (h : noDefer o = true) : ∀ c, o.op ≠ .defer c := by
 intro c hc
 unfold noDefer at h
 rw [hc] at h
 cases h
theorem wpAny_round {md : Region.Mode} {ops : Array Oper} {Q : Exit → Act → World → Prop} {l : Nat} (hro : F.round = none) (hd : ∀ (i : Nat) o, ops[i]? = some o → noDefer o = true) : ∀ (fuel : Nat) (listed : Array Bool) (a : Act) (w : World),
 wpAnyIn F n P md ops Q fuel listed a w → wpAnyIn (F.inRound l) n P md ops Q fuel listed a w
 | 0, _, _, _, h => h
 | fuel + 1, listed, a, w, h => by
  refine ⟨h.1, fun i hi => ?_⟩
  have h1 := h.2 i hi
  unfold wpOpIn at h1 ⊢
  cases ho : ops[i]? with
  | none => rw [ho] at h1; exact wpAny_round hro hd fuel _ _ _ h1
  | some o =>
   rw [ho] at h1
   simp only at h1 ⊢
   by_cases hw : Region.wanted o (yielded ops a.tmps) = true
   · rw [if_pos hw] at h1 ⊢
     exact wpIn_round hro (noDefer_spec (hd i o ho)) (Oper.wpIn_mono (fun a w h => wpAny_round hro hd fuel _ _ _ h) h1)
   · rw [if_neg hw] at h1 ⊢
     exact ⟨h1.1, wpAny_round hro hd fuel _ _ _ h1.2⟩
theorem wpIn_region_quiet_round {id : Nat} {Q : Exit → Act → World → Prop} {a : Act} {w : World} {lp : Nat} {l : List Oper} (hro : F.round = none) (hm : P.follows .mixedOrders = true) (hB : Region.lexB .any l.toArray = true) (hd : l.all noDefer = true)
 (h : wpQuietIn F n P l.toArray (fun w' => ∃ n, w' = w.drewN n) (fun a' => ∀ w', (∃ n, w' = w.drewN n) → Q .normal a' w') l a) : (Code.region id l.toArray true).wpIn (F.inRound lp) n P Q a w := by
 simp only [Region.lexB, Bool.and_eq_true] at hB
 refine wpIn_region_any hm (wpAny_round hro (fun i o ho => ?_) _ _ _ _ (wpAnyIn_of_quiet (Q := fun a' => ∀ w', (∃ n, w' = w.drewN n) → Q .normal a' w') hro (fun _ w' hw' h => h w' hw') _ _ _ _ ⟨1, rfl⟩ ?_))
 · exact List.all_eq_true.1 hd o (List.mem_of_getElem? (by simpa using ho))
 · have := wpAnyQIn_lex (F := F) (n := n) (C := fun w' => ∃ n, w' = w.drewN n) (md := .any) hB.1 l 0 (Array.replicate l.toArray.size false) a (by simp) (by simpa using hB.2) h
   simpa using this
end
end Go.Proofs.YtjjmifcjailpaaaGreat
set_option linter.unusedSimpArgs false
set_option linter.unusedVariables false
namespace Go.Proofs.YtjjmifcjailpaaaGreat
open Go.RowKit
theorem settle_len {l : List Bnd} {p : Nat} {x y : List Int} (h : settle l p x = some y) : y.length = x.length := by
 obtain ⟨k, _, e, _⟩ := settle_some h
 rw [e, rounds_length]
def setL (l : List Bnd) (p : Nat) (x : List Int) : List Int := (settle l p x).getD zeros
theorem setL_length {l : List Bnd} {p : Nat} {x : List Int} (hx : x.length = 60) : (setL l p x).length = 60 := by
 unfold setL
 cases h : settle l p x with
 | none => rfl
 | some y => exact (settle_len h).trans hx
theorem settled_f (p : Nat) (A : Option Addr) (n c : Nat) (l : List Bnd) (x : List Int) (hx : Wd 800000000000 x) (hp : p ≤ 60) (hn400 : n ≤ 402) (hok : OkB l) (w : World) (hr : RdB w A n c l) :
 Calls Tryz.prog 147 #[.agg #[.int .i64 (p : Int), .slice A n c], .agg (arr x)] w fun e w' => e = .returned (.tuple #[.agg (arr (setL l p x)), .bool (settle l p x).isSome]) ∧ Below w.heap.size w w' :=
 (settled_any p A n c l x hx hp hn400 hok w hr).mono fun e w' h => by
  obtain ⟨y, ok, _, rfl, hb, ⟨rfl, h1⟩ | ⟨rfl, h1, h2⟩⟩ := h
  · unfold setL; rw [h1]; exact ⟨rfl, hb⟩
  · unfold setL; rw [h1, h2]; exact ⟨rfl, hb⟩
theorem at_zeros (i : Nat) : at_ zeros i = 0 := by
 unfold at_ zeros
 rw [List.getD_eq_getElem?_getD, List.getElem?_replicate]
 split <;> rfl
theorem wd_zeros {r : Int} (h : 0 ≤ r) : Wd r zeros := ⟨rfl, fun i _ => .inr (by rw [at_zeros]; omega)⟩
theorem solution_any (p : Nat) (A : Option Addr) (n c : Nat) (l : List Bnd) (hp : p ≤ 60) (hn400 : n ≤ 402) (hok : OkB l) (w : World) (hr : RdB w A n c l) :
 Calls Tryz.prog 114 #[.agg #[.int .i64 (p : Int), .slice A n c]] w fun e w' => e = .returned (.tuple #[.agg (arr (setL l p zeros)), .bool (settle l p zeros).isSome]) ∧ Below w.heap.size w w' := by
 have hl := setL_length (l := l) (p := p) zeros_length
 have hB : Below w.heap.size w ((w.alloc (.cells #[.int .i64 (p : Int), .slice A n c] 128)).alloc (.cells (arr zeros) 148)) := ((Below.refl _ w).alloc (Nat.le_refl _) _).alloc (by simp) _
 have hr2 := hr.below hB
 have hc := settled_f p A n c l zeros (wd_zeros (by omega)) hp hn400 hok _ hr2
 have b2 := Blk.new (w.alloc (.cells #[.int .i64 (p : Int), .slice A n c] 128)) 148 (arr zeros)
 simp only [World.size_alloc] at b2
 generalize settle l p zeros = q at *
 generalize setL l p zeros = z at *
 have HC := Lib.hid hc; have B2 := Lib.hid b2; have HL := Lib.hid hl; clear hc b2 hr2 hr hl
 go_enter Tryz.func114, Tryz.ntmps114
 go_wp2_with (first | (refine wpList_alloc_row rfl 148 rfl (arr zeros) zero_sums.1 ?_; simp only [World.size_alloc]) | (refine wpList_build0 rfl 148 rfl (arr zeros) built_sums ?_))
 refine HC.out.mono ?_
 rintro e w1 ⟨rfl, hb1⟩
 have b3 := B2.out.keep hb1
 have B3 := Lib.hid b3; clear b3
 go_wp2_with (first | (refine wpList_store_row rfl 148 (.tmp 2) (.tmp 7) rfl _ (arr z) rfl rfl _ (arr zeros) B3.out (size_sums HL.out) ((arr_size _).trans (zeros_length.trans (HL.out.symm.trans (arr_size _).symm))) (arr_one _) ?_))
 refine bodyPost_ret (results_row_tmp rfl _ _ (w.heap.size + 1) 148 (arr z) (0, 0) _ rfl (B3.out.row (arr z)) Tryz.underlying148 rfl (size_sums HL.out)) rfl ?_
 exact ⟨rfl, below_setRow (hB.trans (hb1.mono hB.size)) (by omega) _⟩
def startL (a : Nat) : List Int := (List.replicate 60 Inf).set a 0
def startK (k : Nat) : List Int := List.replicate k Inf ++ List.replicate (60 - k) 0
theorem startK_length {k : Nat} (h : k ≤ 60) : (startK k).length = 60 := by simp [startK]; omega
theorem startK_set {k : Nat} (h : k < 60) : (startK k).set k Inf = startK (k + 1) := by
 unfold startK
 obtain ⟨d, hd⟩ : ∃ d, 60 - k = d + 1 := ⟨60 - k - 1, by omega⟩
 rw [hd, show 60 - (k + 1) = d from by omega, List.set_append_right _ _ (by simp)]
 rw [show List.replicate (d + 1) (0 : Int) = 0 :: List.replicate d 0 from rfl, List.length_replicate, Nat.sub_self, List.set_cons_zero, show List.replicate (k + 1) Inf = List.replicate k Inf ++ [Inf] from List.replicate_succ', List.append_assoc]
 rfl
theorem startK_all : startK 60 = List.replicate 60 Inf := by simp [startK]
theorem startL_length (a : Nat) : (startL a).length = 60 := by simp [startL]
theorem at_startL {a : Nat} (ha : a < 60) (i : Nat) (hi : i < 60) : at_ (startL a) i = if a = i then 0 else Inf := by
 unfold startL
 rw [at_set _ _ _ _ (by simpa using ha)]
 split
 · rfl
 · unfold at_
   rw [List.getD_eq_getElem?_getD, List.getElem?_replicate]
   simp [hi]
theorem wd_startL {r : Int} (h : 0 ≤ r) {a : Nat} (ha : a < 60) : Wd r (startL a) := ⟨startL_length a, fun i hi => by
 rw [at_startL ha i hi]
 split
 · exact .inr (by omega)
 · exact .inl rfl⟩
theorem start_any (a : Nat) (ha : a < 60) (w : World) :
 Calls Tryz.prog 150 #[.int .i64 (a : Int)] w fun e w' => e = .returned (.agg (arr (startL a))) ∧ Below w.heap.size w w' := by
 have b0 := (Blk.new w 148 (arr zeros)).alloc (.cells (arr zeros) 148)
 have b1 := Blk.new (w.alloc (.cells (arr zeros) 148)) 148 (arr zeros)
 simp only [World.size_alloc] at b1
 have hB : Below w.heap.size w ((w.alloc (.cells (arr zeros) 148)).alloc (.cells (arr zeros) 148)) := ((Below.refl _ w).alloc (Nat.le_refl _) _).alloc (by simp) _
 have B0 := Lib.hid b0; have B1 := Lib.hid b1; clear b0 b1
 go_enter Tryz.func150, Tryz.ntmps150
 go_wp2_with (first | (refine wpList_alloc_row rfl 148 rfl (arr zeros) zero_sums.1 ?_; simp only [World.size_alloc]))
 go_loopw [5] (fun i wr => ∃ k : Nat, k ≤ 60 ∧ i = .int .i64 k ∧ Blk wr (w.heap.size + 1) 148 (arr (startK k)) ∧ Blk wr w.heap.size 148 (arr zeros) ∧ Below w.heap.size w wr) (fun i _ => 60 - (intOf i).toNat)
 case atStart => exact ⟨0, by omega, rfl, B1.out, B0.out, hB⟩
 case round =>
  obtain ⟨k, hk, rfl, c1, c0, hBr⟩ := hrel
  have C1 := Lib.hid c1; have C0 := Lib.hid c0; clear c1 c0
  by_cases hlt : k < 60
  · have hlt' : (k : Int) < 60 := by omega
    have u0 : wr.cell? ⟨w.heap.size + 1, k, none⟩ = some (.int .i64 (at_ (startK k) k)) := (C1.out.cell k).trans (arr_get _ k (by rw [startK_length hk]; exact hlt))
    have u1 : wr.frozen? ⟨w.heap.size + 1, k, none⟩ = false := C1.out.frozen k
    have hset := C1.out.set_ k (.int .i64 Inf)
    rw [arr_set, startK_set hlt] at hset
    have HS := Lib.hid hset; clear hset
    go_wp2
    go_roundw
    case rel => exact ⟨k + 1, by omega, by go_num, HS.out, C0.out.far (by simp) _, hBr.setCell (p := ⟨w.heap.size + 1, k, none⟩) (by simp) _⟩
    case measure => simp [intOf]; omega
  · obtain rfl : k = 60 := by omega
    have ha' : (a : Int) < 60 := by omega
    have u0 : wr.cell? ⟨w.heap.size + 1, a, none⟩ = some (.int .i64 (at_ (startK 60) a)) := (C1.out.cell a).trans (arr_get _ a (by rw [startK_length hk]; exact ha))
    have u1 : wr.frozen? ⟨w.heap.size + 1, a, none⟩ = false := C1.out.frozen a
    have hset := C1.out.set_ a (.int .i64 0)
    rw [arr_set, startK_all] at hset
    have HS : Hid (Blk (wr.setCell ⟨w.heap.size + 1, a, none⟩ (.int .i64 0)) (w.heap.size + 1) 148 (arr (startL a))) := Lib.hid hset; clear hset
    have hz := C0.out.far (p := ⟨w.heap.size + 1, a, none⟩) (by simp) (.int .i64 0)
    have HZ := Lib.hid hz; clear hz
    go_wp2_with (first | (refine wpList_load_row rfl 148 (.tmp 3) rfl _ rfl _ (arr (startL a)) (0, 0) _ HS.out Tryz.underlying148 rfl (size_sums (startL_length a)) ?_) | (refine wpList_store_row rfl 148 (.tmp 2) (.tmp 13) rfl _ (arr (startL a)) rfl rfl _ (arr zeros) HZ.out (size_sums (startL_length a)) ((arr_size _).trans (zeros_length.trans ((startL_length a).symm.trans (arr_size _).symm))) (arr_one _) ?_))
    refine bodyPost_ret (results_cell_row rfl _ _ w.heap.size 148 (arr (startL a)) (0, 0) _ rfl (HZ.out.row _) Tryz.underlying148 rfl (size_sums (startL_length a))) rfl ?_
    exact ⟨rfl, below_setRow (hBr.setCell (p := ⟨w.heap.size + 1, a, none⟩) (by simp) _) (by omega) _⟩
set_option maxRecDepth 100000 in
theorem from_any (p a : Nat) (A : Option Addr) (n c : Nat) (l : List Bnd) (hp : p ≤ 60) (ha : a < 60) (hn400 : n ≤ 402) (hok : OkB l) (w : World) (hr : RdB w A n c l) :
 Calls Tryz.prog 171 #[.agg #[.int .i64 (p : Int), .slice A n c], .int .i64 (a : Int)] w fun e w' => e = .returned (.agg (arr (setL l p (startL a)))) ∧ Below w.heap.size w w' := by
 have hl := setL_length (l := l) (p := p) (startL_length a)
 have hB : Below w.heap.size w ((w.alloc (.cells #[.int .i64 (p : Int), .slice A n c] 128)).alloc (.cells (arr zeros) 148)).drew := (((Below.refl _ w).alloc (Nat.le_refl _) _).alloc (by simp) _).drew
 have hc1 := start_any a ha
 have hc2 := fun w' hw' => settled_f p A n c l (startL a) (wd_startL (by omega) ha) hp hn400 hok w' (hr.below hw')
 have b0 := ((Blk.new w 128 #[.int .i64 (p : Int), .slice A n c]).alloc (.cells (arr zeros) 148)).drew
 have b2 := (Blk.new (w.alloc (.cells #[.int .i64 (p : Int), .slice A n c] 128)) 148 (arr zeros)).drew
 simp only [World.size_alloc] at b2
 generalize setL l p (startL a) = z at *
 have HL := Lib.hid hl; have HC1 := Lib.hid hc1; have HC2 := Lib.hid hc2; have B0 := Lib.hid b0; have B2 := Lib.hid b2; have HBD := Lib.hid hB; clear hl hc1 hc2 hr b0 b2 hB
 go_enter Tryz.func171, Tryz.ntmps171
 go_wp2_with (first | (refine wpList_alloc_row rfl 148 rfl (arr zeros) zero_sums.1 ?_; simp only [World.size_alloc]))
 refine wp_region_any (by kernel_rfl) ?_
 change wpAny _ _ _ _ _ _ _ (World.drew _)
 refine' twY 1 ?_
 try simp only [Act.put, qsA, qsZ, qsS]
 refine wpAny_ready (rs := [0, 2, 7]) (by kernel_rfl) (by simp) ?_
 refine rdY rfl (fun K hK => ?_) ?_
 · -- 0: load
  rw [if_pos (by rfl)]
  refine wp_load_row 128 (.tmp 2) rfl w.heap.size rfl 128 #[.int .i64 (p : Int), .slice A n c] (0, 0) _ B0.out Tryz.underlying128 rfl (by kernel_rfl) ?_
  refine hK _ _ ?_; clear hK K
  try simp only [Act.put, qsA, qsZ, qsS]
  refine wpAny_ready (rs := [2, 7]) (by kernel_rfl) (by simp) ?_
  refine rdY rfl (fun K hK => ?_) ?_
  · -- 2: call
   go_simp
   go_at_call 150
   refine (HC1.out _).mono ?_
   rintro e h7 ⟨rfl, a2⟩
   dsimp only
   replace a2 := Lib.hid a2
   refine hK _ _ ?_; clear hK K
   try simp only [Act.put, qsA, qsZ, qsS]
   refine wpAny_ready (rs := [3, 7]) (by kernel_rfl) (by simp) ?_
   refine rdY rfl (fun K hK => ?_) ?_
   · -- 3: call
    replace HBD := bH HBD a2
    go_simp
    go_at_call 147
    refine (HC2.out _ HBD.out).mono ?_
    rintro e h8 ⟨rfl, b9⟩
    dsimp only
    replace b9 := Lib.hid b9
    refine hK _ _ ?_; clear hK K
    try simp only [Act.put, qsA, qsZ, qsS]
    refine' twY 4 ?_
    refine' twY 5 ?_
    refine' twY 6 ?_
    try simp only [Act.put, qsA, qsZ, qsS]
    refine oneY 7 rfl fun K hK => ?_
    replace B0 := kH (kH B0 a2) b9
    replace B2 := kH (kH B2 a2) b9
    replace HBD := bH HBD b9
    rw [if_pos (by rfl)]
    refine wp_alloc_row 148 rfl (arr zeros) zero_sums.1 ?_
    have h9 := Lib.hid (Nat.ne_of_lt (Blk.lt B0.out))
    have i0 := Lib.hid (Nat.ne_of_lt (Blk.lt B2.out))
    have i1 := Lib.hid (HBD.out.size)
    obtain ⟨o_, ho_⟩ : ∃ o, o = (.cells (arr zeros) 148 : Obj) := ⟨_, rfl⟩
    replace B0 := kA B0 o_
    replace B2 := kA B2 o_
    replace HBD := bA HBD o_
    subst ho_
    have d2 := Lib.hid (Blk.new (h8) 148 (arr zeros))
    obtain ⟨k8, f3⟩ : ∃ g, g = (h8).heap.size := ⟨_, rfl⟩
    obtain ⟨k9, f4⟩ : ∃ w', w' = (h8).alloc (.cells (arr zeros) 148) := ⟨_, rfl⟩
    rw [← f4] at B0 B2 HBD d2
    rw [← f3] at h9 i0 i1 d2
    rw [← f3, ← f4]
    clear f3 f4
    refine hK _ _ ?_; clear hK K
    try simp only [Act.put, qsA, qsZ, qsS]
    refine oneY 8 rfl fun K hK => ?_
    rw [if_pos (by rfl)]
    refine wp_store_row 148 (.tmp 5) (.tmp 12) rfl _ (arr z) rfl rfl 148 (arr zeros) d2.out (size_sums HL.out) ((arr_size _).trans (zeros_length.trans (HL.out.symm.trans (arr_size _).symm))) (arr_one _) ?_
    have j9 := Lib.hid (Blk.rowFar (B0.out) (h9.out) (arr z))
    have d3 := Lib.hid (Blk.rowFar (B2.out) (i0.out) (arr z))
    have f0 := Lib.hid (below_setRow (HBD.out) (i1.out) (arr z))
    have i2 := Lib.hid (Blk.row (d2.out) (arr z))
    obtain ⟨m6, f5⟩ : ∃ w', w' = (k9).setRow k8 (arr z) := ⟨_, rfl⟩
    rw [← f5] at j9 d3 f0 i2
    rw [← f5]
    clear f5
    refine hK _ _ ?_; clear hK K
    try simp only [Act.put, qsA, qsZ, qsS]
    refine' twY 9 ?_
    try simp only [Act.put, qsA, qsZ, qsS]
    refine wpAny_done (by kernel_rfl) ?_ _
    go_wp2_with (first | (refine wpList_load_row rfl 148 (.tmp 5) rfl _ rfl _ (arr z) (0, 0) _ i2.out Tryz.underlying148 rfl (size_sums HL.out) ?_) | (refine wpList_store_row rfl 148 (.tmp 4) (.tmp 14) rfl _ (arr z) rfl rfl _ (arr zeros) d3.out (size_sums HL.out) ((arr_size _).trans (zeros_length.trans (HL.out.symm.trans (arr_size _).symm))) (arr_one _) ?_))
    refine bodyPost_ret (results_cell_row rfl _ _ (w.heap.size + 1) 148 (arr z) (0, 0) _ rfl (Blk.row (d3.out) (arr z)) Tryz.underlying148 rfl (size_sums HL.out)) rfl ?_
    exact ⟨rfl, below_setRow (f0.out) (by omega) _⟩
   refine rdY rfl (fun K hK => ?_) ?_
   · -- 7: alloc
    replace B0 := kH B0 a2
    replace B2 := kH B2 a2
    replace HBD := bH HBD a2
    rw [if_pos (by rfl)]
    refine wp_alloc_row 148 rfl (arr zeros) zero_sums.1 ?_
    have i3 := Lib.hid (Nat.ne_of_lt (Blk.lt B0.out))
    have i4 := Lib.hid (Nat.ne_of_lt (Blk.lt B2.out))
    have i5 := Lib.hid (HBD.out.size)
    obtain ⟨o_, ho_⟩ : ∃ o, o = (.cells (arr zeros) 148 : Obj) := ⟨_, rfl⟩
    replace B0 := kA B0 o_
    replace B2 := kA B2 o_
    replace HBD := bA HBD o_
    subst ho_
    have b3 := Lib.hid (Blk.new (h7) 148 (arr zeros))
    obtain ⟨l0, f6⟩ : ∃ g, g = (h7).heap.size := ⟨_, rfl⟩
    obtain ⟨m7, f7⟩ : ∃ w', w' = (h7).alloc (.cells (arr zeros) 148) := ⟨_, rfl⟩
    rw [← f7] at B0 B2 HBD b3
    rw [← f6] at i3 i4 i5 b3
    rw [← f6, ← f7]
    clear f6 f7
    refine hK _ _ ?_; clear hK K
    try simp only [Act.put, qsA, qsZ, qsS]
    refine oneY 3 rfl fun K hK => ?_
    go_simp
    go_at_call 147
    refine (HC2.out _ HBD.out).mono ?_
    rintro e l1 ⟨rfl, b4⟩
    dsimp only
    replace b4 := Lib.hid b4
    refine hK _ _ ?_; clear hK K
    try simp only [Act.put, qsA, qsZ, qsS]
    refine' twY 4 ?_
    refine' twY 5 ?_
    refine' twY 6 ?_
    try simp only [Act.put, qsA, qsZ, qsS]
    refine oneY 8 rfl fun K hK => ?_
    replace b3 := kH b3 b4
    rw [if_pos (by rfl)]
    refine wp_store_row 148 (.tmp 5) (.tmp 12) rfl _ (arr z) rfl rfl 148 (arr zeros) b3.out (size_sums HL.out) ((arr_size _).trans (zeros_length.trans (HL.out.symm.trans (arr_size _).symm))) (arr_one _) ?_
    have k0 := Lib.hid (Blk.rowFar ((kH B0 b4).out) (i3.out) (arr z))
    have d4 := Lib.hid (Blk.rowFar ((kH B2 b4).out) (i4.out) (arr z))
    have f1 := Lib.hid (below_setRow ((bH HBD b4).out) (i5.out) (arr z))
    have i6 := Lib.hid (Blk.row (b3.out) (arr z))
    obtain ⟨m8, f8⟩ : ∃ w', w' = (l1).setRow l0 (arr z) := ⟨_, rfl⟩
    rw [← f8] at k0 d4 f1 i6
    rw [← f8]
    clear f8
    refine hK _ _ ?_; clear hK K
    try simp only [Act.put, qsA, qsZ, qsS]
    refine' twY 9 ?_
    try simp only [Act.put, qsA, qsZ, qsS]
    refine wpAny_done (by kernel_rfl) ?_ _
    go_wp2_with (first | (refine wpList_load_row rfl 148 (.tmp 5) rfl _ rfl _ (arr z) (0, 0) _ i6.out Tryz.underlying148 rfl (size_sums HL.out) ?_) | (refine wpList_store_row rfl 148 (.tmp 4) (.tmp 14) rfl _ (arr z) rfl rfl _ (arr zeros) d4.out (size_sums HL.out) ((arr_size _).trans (zeros_length.trans (HL.out.symm.trans (arr_size _).symm))) (arr_one _) ?_))
    refine bodyPost_ret (results_cell_row rfl _ _ (w.heap.size + 1) 148 (arr z) (0, 0) _ rfl (Blk.row (d4.out) (arr z)) Tryz.underlying148 rfl (size_sums HL.out)) rfl ?_
    exact ⟨rfl, below_setRow (f1.out) (by omega) _⟩
   exact AllReady.nil
  refine rdY rfl (fun K hK => ?_) ?_
  · -- 7: alloc
   rw [if_pos (by rfl)]
   refine wp_alloc_row 148 rfl (arr zeros) zero_sums.1 ?_
   have i7 := Lib.hid (Nat.ne_of_lt (Blk.lt B0.out))
   have i8 := Lib.hid (Nat.ne_of_lt (Blk.lt B2.out))
   have i9 := Lib.hid (HBD.out.size)
   obtain ⟨o_, ho_⟩ : ∃ o, o = (.cells (arr zeros) 148 : Obj) := ⟨_, rfl⟩
   replace B0 := kA B0 o_
   replace B2 := kA B2 o_
   replace HBD := bA HBD o_
   subst ho_
   have b5 := Lib.hid (Blk.new (((w.alloc (.cells #[.int .i64 (p : Int), .slice A n c] 128)).alloc (.cells (arr zeros) 148)).drew) 148 (arr zeros))
   obtain ⟨l2, f9⟩ : ∃ g, g = (((w.alloc (.cells #[.int .i64 (p : Int), .slice A n c] 128)).alloc (.cells (arr zeros) 148)).drew).heap.size := ⟨_, rfl⟩
   obtain ⟨m9, g0⟩ : ∃ w', w' = (((w.alloc (.cells #[.int .i64 (p : Int), .slice A n c] 128)).alloc (.cells (arr zeros) 148)).drew).alloc (.cells (arr zeros) 148) := ⟨_, rfl⟩
   rw [← g0] at B0 B2 HBD b5
   rw [← f9] at i7 i8 i9 b5
   rw [← f9, ← g0]
   clear f9 g0
   refine hK _ _ ?_; clear hK K
   try simp only [Act.put, qsA, qsZ, qsS]
   refine oneY 2 rfl fun K hK => ?_
   go_simp
   go_at_call 150
   refine (HC1.out _).mono ?_
   rintro e n0 ⟨rfl, b6⟩
   dsimp only
   replace b6 := Lib.hid b6
   refine hK _ _ ?_; clear hK K
   try simp only [Act.put, qsA, qsZ, qsS]
   refine oneY 3 rfl fun K hK => ?_
   replace HBD := bH HBD b6
   go_simp
   go_at_call 147
   refine (HC2.out _ HBD.out).mono ?_
   rintro e l3 ⟨rfl, b7⟩
   dsimp only
   replace b7 := Lib.hid b7
   refine hK _ _ ?_; clear hK K
   try simp only [Act.put, qsA, qsZ, qsS]
   refine' twY 4 ?_
   refine' twY 5 ?_
   refine' twY 6 ?_
   try simp only [Act.put, qsA, qsZ, qsS]
   refine oneY 8 rfl fun K hK => ?_
   replace b5 := kH (kH b5 b6) b7
   rw [if_pos (by rfl)]
   refine wp_store_row 148 (.tmp 5) (.tmp 12) rfl _ (arr z) rfl rfl 148 (arr zeros) b5.out (size_sums HL.out) ((arr_size _).trans (zeros_length.trans (HL.out.symm.trans (arr_size _).symm))) (arr_one _) ?_
   have k1 := Lib.hid (Blk.rowFar ((kH (kH B0 b6) b7).out) (i7.out) (arr z))
   have d5 := Lib.hid (Blk.rowFar ((kH (kH B2 b6) b7).out) (i8.out) (arr z))
   have f2 := Lib.hid (below_setRow ((bH HBD b7).out) (i9.out) (arr z))
   have j0 := Lib.hid (Blk.row (b5.out) (arr z))
   obtain ⟨n1, g1⟩ : ∃ w', w' = (l3).setRow l2 (arr z) := ⟨_, rfl⟩
   rw [← g1] at k1 d5 f2 j0
   rw [← g1]
   clear g1
   refine hK _ _ ?_; clear hK K
   try simp only [Act.put, qsA, qsZ, qsS]
   refine' twY 9 ?_
   try simp only [Act.put, qsA, qsZ, qsS]
   refine wpAny_done (by kernel_rfl) ?_ _
   go_wp2_with (first | (refine wpList_load_row rfl 148 (.tmp 5) rfl _ rfl _ (arr z) (0, 0) _ j0.out Tryz.underlying148 rfl (size_sums HL.out) ?_) | (refine wpList_store_row rfl 148 (.tmp 4) (.tmp 14) rfl _ (arr z) rfl rfl _ (arr zeros) d5.out (size_sums HL.out) ((arr_size _).trans (zeros_length.trans (HL.out.symm.trans (arr_size _).symm))) (arr_one _) ?_))
   refine bodyPost_ret (results_cell_row rfl _ _ (w.heap.size + 1) 148 (arr z) (0, 0) _ rfl (Blk.row (d5.out) (arr z)) Tryz.underlying148 rfl (size_sums HL.out)) rfl ?_
   exact ⟨rfl, below_setRow (f2.out) (by omega) _⟩
  exact AllReady.nil
 refine rdY rfl (fun K hK => ?_) ?_
 · -- 2: call
  go_simp
  go_at_call 150
  refine (HC1.out _).mono ?_
  rintro e c6 ⟨rfl, a1⟩
  dsimp only
  replace a1 := Lib.hid a1
  refine hK _ _ ?_; clear hK K
  try simp only [Act.put, qsA, qsZ, qsS]
  refine wpAny_ready (rs := [0, 7]) (by kernel_rfl) (by simp) ?_
  refine rdY rfl (fun K hK => ?_) ?_
  · -- 0: load
   replace B0 := kH B0 a1
   rw [if_pos (by rfl)]
   refine wp_load_row 128 (.tmp 2) rfl w.heap.size rfl 128 #[.int .i64 (p : Int), .slice A n c] (0, 0) _ B0.out Tryz.underlying128 rfl (by kernel_rfl) ?_
   refine hK _ _ ?_; clear hK K
   try simp only [Act.put, qsA, qsZ, qsS]
   refine wpAny_ready (rs := [3, 7]) (by kernel_rfl) (by simp) ?_
   refine rdY rfl (fun K hK => ?_) ?_
   · -- 3: call
    replace HBD := bH HBD a1
    go_simp
    go_at_call 147
    refine (HC2.out _ HBD.out).mono ?_
    rintro e j1 ⟨rfl, c0⟩
    dsimp only
    replace c0 := Lib.hid c0
    refine hK _ _ ?_; clear hK K
    try simp only [Act.put, qsA, qsZ, qsS]
    refine' twY 4 ?_
    refine' twY 5 ?_
    refine' twY 6 ?_
    try simp only [Act.put, qsA, qsZ, qsS]
    refine oneY 7 rfl fun K hK => ?_
    replace B0 := kH B0 c0
    replace B2 := kH (kH B2 a1) c0
    replace HBD := bH HBD c0
    rw [if_pos (by rfl)]
    refine wp_alloc_row 148 rfl (arr zeros) zero_sums.1 ?_
    have j2 := Lib.hid (Nat.ne_of_lt (Blk.lt B0.out))
    have g4 := Lib.hid (Nat.ne_of_lt (Blk.lt B2.out))
    have g5 := Lib.hid (HBD.out.size)
    obtain ⟨o_, ho_⟩ : ∃ o, o = (.cells (arr zeros) 148 : Obj) := ⟨_, rfl⟩
    replace B0 := kA B0 o_
    replace B2 := kA B2 o_
    replace HBD := bA HBD o_
    subst ho_
    have b8 := Lib.hid (Blk.new (j1) 148 (arr zeros))
    obtain ⟨l4, g2⟩ : ∃ g, g = (j1).heap.size := ⟨_, rfl⟩
    obtain ⟨l5, g3⟩ : ∃ w', w' = (j1).alloc (.cells (arr zeros) 148) := ⟨_, rfl⟩
    rw [← g3] at B0 B2 HBD b8
    rw [← g2] at j2 g4 g5 b8
    rw [← g2, ← g3]
    clear g2 g3
    refine hK _ _ ?_; clear hK K
    try simp only [Act.put, qsA, qsZ, qsS]
    refine oneY 8 rfl fun K hK => ?_
    rw [if_pos (by rfl)]
    refine wp_store_row 148 (.tmp 5) (.tmp 12) rfl _ (arr z) rfl rfl 148 (arr zeros) b8.out (size_sums HL.out) ((arr_size _).trans (zeros_length.trans (HL.out.symm.trans (arr_size _).symm))) (arr_one _) ?_
    have j3 := Lib.hid (Blk.rowFar (B0.out) (j2.out) (arr z))
    have c1 := Lib.hid (Blk.rowFar (B2.out) (g4.out) (arr z))
    have c7 := Lib.hid (below_setRow (HBD.out) (g5.out) (arr z))
    have g6 := Lib.hid (Blk.row (b8.out) (arr z))
    obtain ⟨l6, d6⟩ : ∃ w', w' = (l5).setRow l4 (arr z) := ⟨_, rfl⟩
    rw [← d6] at j3 c1 c7 g6
    rw [← d6]
    clear d6
    refine hK _ _ ?_; clear hK K
    try simp only [Act.put, qsA, qsZ, qsS]
    refine' twY 9 ?_
    try simp only [Act.put, qsA, qsZ, qsS]
    refine wpAny_done (by kernel_rfl) ?_ _
    go_wp2_with (first | (refine wpList_load_row rfl 148 (.tmp 5) rfl _ rfl _ (arr z) (0, 0) _ g6.out Tryz.underlying148 rfl (size_sums HL.out) ?_) | (refine wpList_store_row rfl 148 (.tmp 4) (.tmp 14) rfl _ (arr z) rfl rfl _ (arr zeros) c1.out (size_sums HL.out) ((arr_size _).trans (zeros_length.trans (HL.out.symm.trans (arr_size _).symm))) (arr_one _) ?_))
    refine bodyPost_ret (results_cell_row rfl _ _ (w.heap.size + 1) 148 (arr z) (0, 0) _ rfl (Blk.row (c1.out) (arr z)) Tryz.underlying148 rfl (size_sums HL.out)) rfl ?_
    exact ⟨rfl, below_setRow (c7.out) (by omega) _⟩
   refine rdY rfl (fun K hK => ?_) ?_
   · -- 7: alloc
    replace B2 := kH B2 a1
    replace HBD := bH HBD a1
    rw [if_pos (by rfl)]
    refine wp_alloc_row 148 rfl (arr zeros) zero_sums.1 ?_
    have g7 := Lib.hid (Nat.ne_of_lt (Blk.lt B0.out))
    have g8 := Lib.hid (Nat.ne_of_lt (Blk.lt B2.out))
    have g9 := Lib.hid (HBD.out.size)
    obtain ⟨o_, ho_⟩ : ∃ o, o = (.cells (arr zeros) 148 : Obj) := ⟨_, rfl⟩
    replace B0 := kA B0 o_
    replace B2 := kA B2 o_
    replace HBD := bA HBD o_
    subst ho_
    have a3 := Lib.hid (Blk.new (c6) 148 (arr zeros))
    obtain ⟨k2, d7⟩ : ∃ g, g = (c6).heap.size := ⟨_, rfl⟩
    obtain ⟨l7, d8⟩ : ∃ w', w' = (c6).alloc (.cells (arr zeros) 148) := ⟨_, rfl⟩
    rw [← d8] at B0 B2 HBD a3
    rw [← d7] at g7 g8 g9 a3
    rw [← d7, ← d8]
    clear d7 d8
    refine hK _ _ ?_; clear hK K
    try simp only [Act.put, qsA, qsZ, qsS]
    refine oneY 3 rfl fun K hK => ?_
    go_simp
    go_at_call 147
    refine (HC2.out _ HBD.out).mono ?_
    rintro e k3 ⟨rfl, a4⟩
    dsimp only
    replace a4 := Lib.hid a4
    refine hK _ _ ?_; clear hK K
    try simp only [Act.put, qsA, qsZ, qsS]
    refine' twY 4 ?_
    refine' twY 5 ?_
    refine' twY 6 ?_
    try simp only [Act.put, qsA, qsZ, qsS]
    refine oneY 8 rfl fun K hK => ?_
    replace a3 := kH a3 a4
    rw [if_pos (by rfl)]
    refine wp_store_row 148 (.tmp 5) (.tmp 12) rfl _ (arr z) rfl rfl 148 (arr zeros) a3.out (size_sums HL.out) ((arr_size _).trans (zeros_length.trans (HL.out.symm.trans (arr_size _).symm))) (arr_one _) ?_
    have j4 := Lib.hid (Blk.rowFar ((kH B0 a4).out) (g7.out) (arr z))
    have c2 := Lib.hid (Blk.rowFar ((kH B2 a4).out) (g8.out) (arr z))
    have c8 := Lib.hid (below_setRow ((bH HBD a4).out) (g9.out) (arr z))
    have h0 := Lib.hid (Blk.row (a3.out) (arr z))
    obtain ⟨l8, d9⟩ : ∃ w', w' = (k3).setRow k2 (arr z) := ⟨_, rfl⟩
    rw [← d9] at j4 c2 c8 h0
    rw [← d9]
    clear d9
    refine hK _ _ ?_; clear hK K
    try simp only [Act.put, qsA, qsZ, qsS]
    refine' twY 9 ?_
    try simp only [Act.put, qsA, qsZ, qsS]
    refine wpAny_done (by kernel_rfl) ?_ _
    go_wp2_with (first | (refine wpList_load_row rfl 148 (.tmp 5) rfl _ rfl _ (arr z) (0, 0) _ h0.out Tryz.underlying148 rfl (size_sums HL.out) ?_) | (refine wpList_store_row rfl 148 (.tmp 4) (.tmp 14) rfl _ (arr z) rfl rfl _ (arr zeros) c2.out (size_sums HL.out) ((arr_size _).trans (zeros_length.trans (HL.out.symm.trans (arr_size _).symm))) (arr_one _) ?_))
    refine bodyPost_ret (results_cell_row rfl _ _ (w.heap.size + 1) 148 (arr z) (0, 0) _ rfl (Blk.row (c2.out) (arr z)) Tryz.underlying148 rfl (size_sums HL.out)) rfl ?_
    exact ⟨rfl, below_setRow (c8.out) (by omega) _⟩
   exact AllReady.nil
  refine rdY rfl (fun K hK => ?_) ?_
  · -- 7: alloc
   replace B0 := kH B0 a1
   replace B2 := kH B2 a1
   replace HBD := bH HBD a1
   rw [if_pos (by rfl)]
   refine wp_alloc_row 148 rfl (arr zeros) zero_sums.1 ?_
   have h1 := Lib.hid (Nat.ne_of_lt (Blk.lt B0.out))
   have h2 := Lib.hid (Nat.ne_of_lt (Blk.lt B2.out))
   have h3 := Lib.hid (HBD.out.size)
   obtain ⟨o_, ho_⟩ : ∃ o, o = (.cells (arr zeros) 148 : Obj) := ⟨_, rfl⟩
   replace B0 := kA B0 o_
   replace B2 := kA B2 o_
   replace HBD := bA HBD o_
   subst ho_
   have a5 := Lib.hid (Blk.new (c6) 148 (arr zeros))
   obtain ⟨k4, e0⟩ : ∃ g, g = (c6).heap.size := ⟨_, rfl⟩
   obtain ⟨l9, e1⟩ : ∃ w', w' = (c6).alloc (.cells (arr zeros) 148) := ⟨_, rfl⟩
   rw [← e1] at B0 B2 HBD a5
   rw [← e0] at h1 h2 h3 a5
   rw [← e0, ← e1]
   clear e0 e1
   refine hK _ _ ?_; clear hK K
   try simp only [Act.put, qsA, qsZ, qsS]
   refine oneY 0 rfl fun K hK => ?_
   rw [if_pos (by rfl)]
   refine wp_load_row 128 (.tmp 2) rfl w.heap.size rfl 128 #[.int .i64 (p : Int), .slice A n c] (0, 0) _ B0.out Tryz.underlying128 rfl (by kernel_rfl) ?_
   refine hK _ _ ?_; clear hK K
   try simp only [Act.put, qsA, qsZ, qsS]
   refine oneY 3 rfl fun K hK => ?_
   go_simp
   go_at_call 147
   refine (HC2.out _ HBD.out).mono ?_
   rintro e k5 ⟨rfl, a6⟩
   dsimp only
   replace a6 := Lib.hid a6
   refine hK _ _ ?_; clear hK K
   try simp only [Act.put, qsA, qsZ, qsS]
   refine' twY 4 ?_
   refine' twY 5 ?_
   refine' twY 6 ?_
   try simp only [Act.put, qsA, qsZ, qsS]
   refine oneY 8 rfl fun K hK => ?_
   replace a5 := kH a5 a6
   rw [if_pos (by rfl)]
   refine wp_store_row 148 (.tmp 5) (.tmp 12) rfl _ (arr z) rfl rfl 148 (arr zeros) a5.out (size_sums HL.out) ((arr_size _).trans (zeros_length.trans (HL.out.symm.trans (arr_size _).symm))) (arr_one _) ?_
   have j5 := Lib.hid (Blk.rowFar ((kH B0 a6).out) (h1.out) (arr z))
   have c3 := Lib.hid (Blk.rowFar ((kH B2 a6).out) (h2.out) (arr z))
   have c9 := Lib.hid (below_setRow ((bH HBD a6).out) (h3.out) (arr z))
   have h4 := Lib.hid (Blk.row (a5.out) (arr z))
   obtain ⟨m0, e2⟩ : ∃ w', w' = (k5).setRow k4 (arr z) := ⟨_, rfl⟩
   rw [← e2] at j5 c3 c9 h4
   rw [← e2]
   clear e2
   refine hK _ _ ?_; clear hK K
   try simp only [Act.put, qsA, qsZ, qsS]
   refine' twY 9 ?_
   try simp only [Act.put, qsA, qsZ, qsS]
   refine wpAny_done (by kernel_rfl) ?_ _
   go_wp2_with (first | (refine wpList_load_row rfl 148 (.tmp 5) rfl _ rfl _ (arr z) (0, 0) _ h4.out Tryz.underlying148 rfl (size_sums HL.out) ?_) | (refine wpList_store_row rfl 148 (.tmp 4) (.tmp 14) rfl _ (arr z) rfl rfl _ (arr zeros) c3.out (size_sums HL.out) ((arr_size _).trans (zeros_length.trans (HL.out.symm.trans (arr_size _).symm))) (arr_one _) ?_))
   refine bodyPost_ret (results_cell_row rfl _ _ (w.heap.size + 1) 148 (arr z) (0, 0) _ rfl (Blk.row (c3.out) (arr z)) Tryz.underlying148 rfl (size_sums HL.out)) rfl ?_
   exact ⟨rfl, below_setRow (c9.out) (by omega) _⟩
  exact AllReady.nil
 refine rdY rfl (fun K hK => ?_) ?_
 · -- 7: alloc
  rw [if_pos (by rfl)]
  refine wp_alloc_row 148 rfl (arr zeros) zero_sums.1 ?_
  have e3 := Lib.hid (Nat.ne_of_lt (Blk.lt B0.out))
  have e4 := Lib.hid (Nat.ne_of_lt (Blk.lt B2.out))
  have e5 := Lib.hid (HBD.out.size)
  obtain ⟨o_, ho_⟩ : ∃ o, o = (.cells (arr zeros) 148 : Obj) := ⟨_, rfl⟩
  replace B0 := kA B0 o_
  replace B2 := kA B2 o_
  replace HBD := bA HBD o_
  subst ho_
  have a0 := Lib.hid (Blk.new (((w.alloc (.cells #[.int .i64 (p : Int), .slice A n c] 128)).alloc (.cells (arr zeros) 148)).drew) 148 (arr zeros))
  obtain ⟨j6, e6⟩ : ∃ g, g = (((w.alloc (.cells #[.int .i64 (p : Int), .slice A n c] 128)).alloc (.cells (arr zeros) 148)).drew).heap.size := ⟨_, rfl⟩
  obtain ⟨m1, e7⟩ : ∃ w', w' = (((w.alloc (.cells #[.int .i64 (p : Int), .slice A n c] 128)).alloc (.cells (arr zeros) 148)).drew).alloc (.cells (arr zeros) 148) := ⟨_, rfl⟩
  rw [← e7] at B0 B2 HBD a0
  rw [← e6] at e3 e4 e5 a0
  rw [← e6, ← e7]
  clear e6 e7
  refine hK _ _ ?_; clear hK K
  try simp only [Act.put, qsA, qsZ, qsS]
  refine wpAny_ready (rs := [0, 2]) (by kernel_rfl) (by simp) ?_
  refine rdY rfl (fun K hK => ?_) ?_
  · -- 0: load
   rw [if_pos (by rfl)]
   refine wp_load_row 128 (.tmp 2) rfl w.heap.size rfl 128 #[.int .i64 (p : Int), .slice A n c] (0, 0) _ B0.out Tryz.underlying128 rfl (by kernel_rfl) ?_
   refine hK _ _ ?_; clear hK K
   try simp only [Act.put, qsA, qsZ, qsS]
   refine oneY 2 rfl fun K hK => ?_
   go_simp
   go_at_call 150
   refine (HC1.out _).mono ?_
   rintro e m2 ⟨rfl, a7⟩
   dsimp only
   replace a7 := Lib.hid a7
   refine hK _ _ ?_; clear hK K
   try simp only [Act.put, qsA, qsZ, qsS]
   refine oneY 3 rfl fun K hK => ?_
   replace HBD := bH HBD a7
   go_simp
   go_at_call 147
   refine (HC2.out _ HBD.out).mono ?_
   rintro e k6 ⟨rfl, a8⟩
   dsimp only
   replace a8 := Lib.hid a8
   refine hK _ _ ?_; clear hK K
   try simp only [Act.put, qsA, qsZ, qsS]
   refine' twY 4 ?_
   refine' twY 5 ?_
   refine' twY 6 ?_
   try simp only [Act.put, qsA, qsZ, qsS]
   refine oneY 8 rfl fun K hK => ?_
   replace a0 := kH (kH a0 a7) a8
   rw [if_pos (by rfl)]
   refine wp_store_row 148 (.tmp 5) (.tmp 12) rfl _ (arr z) rfl rfl 148 (arr zeros) a0.out (size_sums HL.out) ((arr_size _).trans (zeros_length.trans (HL.out.symm.trans (arr_size _).symm))) (arr_one _) ?_
   have j7 := Lib.hid (Blk.rowFar ((kH (kH B0 a7) a8).out) (e3.out) (arr z))
   have c4 := Lib.hid (Blk.rowFar ((kH (kH B2 a7) a8).out) (e4.out) (arr z))
   have d0 := Lib.hid (below_setRow ((bH HBD a8).out) (e5.out) (arr z))
   have h5 := Lib.hid (Blk.row (a0.out) (arr z))
   obtain ⟨m3, e8⟩ : ∃ w', w' = (k6).setRow j6 (arr z) := ⟨_, rfl⟩
   rw [← e8] at j7 c4 d0 h5
   rw [← e8]
   clear e8
   refine hK _ _ ?_; clear hK K
   try simp only [Act.put, qsA, qsZ, qsS]
   refine' twY 9 ?_
   try simp only [Act.put, qsA, qsZ, qsS]
   refine wpAny_done (by kernel_rfl) ?_ _
   go_wp2_with (first | (refine wpList_load_row rfl 148 (.tmp 5) rfl _ rfl _ (arr z) (0, 0) _ h5.out Tryz.underlying148 rfl (size_sums HL.out) ?_) | (refine wpList_store_row rfl 148 (.tmp 4) (.tmp 14) rfl _ (arr z) rfl rfl _ (arr zeros) c4.out (size_sums HL.out) ((arr_size _).trans (zeros_length.trans (HL.out.symm.trans (arr_size _).symm))) (arr_one _) ?_))
   refine bodyPost_ret (results_cell_row rfl _ _ (w.heap.size + 1) 148 (arr z) (0, 0) _ rfl (Blk.row (c4.out) (arr z)) Tryz.underlying148 rfl (size_sums HL.out)) rfl ?_
   exact ⟨rfl, below_setRow (d0.out) (by omega) _⟩
  refine rdY rfl (fun K hK => ?_) ?_
  · -- 2: call
   go_simp
   go_at_call 150
   refine (HC1.out _).mono ?_
   rintro e m4 ⟨rfl, a9⟩
   dsimp only
   replace a9 := Lib.hid a9
   refine hK _ _ ?_; clear hK K
   try simp only [Act.put, qsA, qsZ, qsS]
   refine oneY 0 rfl fun K hK => ?_
   replace B0 := kH B0 a9
   rw [if_pos (by rfl)]
   refine wp_load_row 128 (.tmp 2) rfl w.heap.size rfl 128 #[.int .i64 (p : Int), .slice A n c] (0, 0) _ B0.out Tryz.underlying128 rfl (by kernel_rfl) ?_
   refine hK _ _ ?_; clear hK K
   try simp only [Act.put, qsA, qsZ, qsS]
   refine oneY 3 rfl fun K hK => ?_
   replace HBD := bH HBD a9
   go_simp
   go_at_call 147
   refine (HC2.out _ HBD.out).mono ?_
   rintro e k7 ⟨rfl, b1⟩
   dsimp only
   replace b1 := Lib.hid b1
   refine hK _ _ ?_; clear hK K
   try simp only [Act.put, qsA, qsZ, qsS]
   refine' twY 4 ?_
   refine' twY 5 ?_
   refine' twY 6 ?_
   try simp only [Act.put, qsA, qsZ, qsS]
   refine oneY 8 rfl fun K hK => ?_
   replace a0 := kH (kH a0 a9) b1
   rw [if_pos (by rfl)]
   refine wp_store_row 148 (.tmp 5) (.tmp 12) rfl _ (arr z) rfl rfl 148 (arr zeros) a0.out (size_sums HL.out) ((arr_size _).trans (zeros_length.trans (HL.out.symm.trans (arr_size _).symm))) (arr_one _) ?_
   have j8 := Lib.hid (Blk.rowFar ((kH B0 b1).out) (e3.out) (arr z))
   have c5 := Lib.hid (Blk.rowFar ((kH (kH B2 a9) b1).out) (e4.out) (arr z))
   have d1 := Lib.hid (below_setRow ((bH HBD b1).out) (e5.out) (arr z))
   have h6 := Lib.hid (Blk.row (a0.out) (arr z))
   obtain ⟨m5, e9⟩ : ∃ w', w' = (k7).setRow j6 (arr z) := ⟨_, rfl⟩
   rw [← e9] at j8 c5 d1 h6
   rw [← e9]
   clear e9
   refine hK _ _ ?_; clear hK K
   try simp only [Act.put, qsA, qsZ, qsS]
   refine' twY 9 ?_
   try simp only [Act.put, qsA, qsZ, qsS]
   refine wpAny_done (by kernel_rfl) ?_ _
   go_wp2_with (first | (refine wpList_load_row rfl 148 (.tmp 5) rfl _ rfl _ (arr z) (0, 0) _ h6.out Tryz.underlying148 rfl (size_sums HL.out) ?_) | (refine wpList_store_row rfl 148 (.tmp 4) (.tmp 14) rfl _ (arr z) rfl rfl _ (arr zeros) c5.out (size_sums HL.out) ((arr_size _).trans (zeros_length.trans (HL.out.symm.trans (arr_size _).symm))) (arr_one _) ?_))
   refine bodyPost_ret (results_cell_row rfl _ _ (w.heap.size + 1) 148 (arr z) (0, 0) _ rfl (Blk.row (c5.out) (arr z)) Tryz.underlying148 rfl (size_sums HL.out)) rfl ?_
   exact ⟨rfl, below_setRow (d1.out) (by omega) _⟩
  exact AllReady.nil
 exact AllReady.nil
end Go.Proofs.YtjjmifcjailpaaaGreat
