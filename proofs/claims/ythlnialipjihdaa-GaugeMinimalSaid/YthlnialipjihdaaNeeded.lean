/- needed of gauge: what still holds without an Id, from the last Id to the first one. -/
import Derived.Test.YthlnialipjihdaaBck
import Derived.Test.YthlnialipjihdaaIdz
import Derived.RangeFuncCalls
import Derived.Stop.RegionWithIn
set_option linter.unusedSimpArgs false
set_option linter.unusedVariables false
namespace Go.Proofs.Ythlnialipjihdaa
open Go.RowKit
attribute [local go_sem] Oper.semAt_some

/-- Without one Id more, if what holds holds. -/
def dropStep (holds : List Bnd → Bool) (st : List Bnd × List Int) (id : Int) : List Bnd × List Int := if holds (dropL st.1 [id]) = true then (dropL st.1 [id], st.2) else (st.1, st.2 ++ [id])
def neededV (holds : List Bnd → Bool) (l : List Bnd) : List Int := ((idsL l).reverse.foldl (dropStep holds) (l, [])).2.reverse
theorem fold_snoc (holds : List Bnd → Bool) (l : List Bnd) (ids : List Int) (id : Int) : (ids ++ [id]).foldl (dropStep holds) (l, []) = dropStep holds (ids.foldl (dropStep holds) (l, [])) id := by
  rw [List.foldl_append]; rfl

theorem rdB_own {X Y : World} {row : Option Nat} {A : Option Addr} {n c : Nat} {l : List Bnd} (h : RdB X A n c l) (hg : X.grownBy Y row) (hr : ∀ r, row = some r → ∃ o : Obj, X.heap[r]? = some o ∧ o.isCells = false) : RdB Y A n c l := by
  refine ⟨h.len, h.cap, h.nil, ?_⟩
  rcases h.cells with h1 | ⟨b, o, e, hlt, hc⟩
  · exact .inl h1
  · exact .inr ⟨b, o, e, Nat.lt_of_lt_of_le hlt hg.size, fun j u hu => cell_kept (hc j u hu) hg hr⟩
theorem row_own {X Y : World} {row : Option Nat} {base : Nat} {e : TypeId} {size : Nat} {v : Value} {n : Nat} {xs : List Value} (h : X.ownsRow base e size v n xs) (hg : X.grownBy Y row) (hr : ∀ r, row = some r → ∃ o : Obj, X.heap[r]? = some o ∧ o.isCells = false) : Y.ownsRow base e size v n xs := by
  refine h.kept hg ?_
  obtain ⟨_, h⟩ := h
  rcases h with ⟨rfl, _⟩ | ⟨g, cap, cur, rfl, _, hgc, _⟩
  · exact .inl rfl
  · refine .inr (fun he => ?_)
    obtain ⟨o, ho, hc⟩ := hr g he.symm
    rw [hgc] at ho
    injection ho with ho
    subst ho
    cases hc
theorem keepQ_b {Bs Br : Nat} {w : World} (hs : Bs < w.heap.size) (hr : Br < w.heap.size) (W : World) (k : Nat) (o o' : Obj) (hl : w.heap.size ≤ k) (_h : W.heap[k]? = some o) (_h1 : o.isCells = false) (_h2 : o.isWalk = false) : KeepQ Bs Br W (W.putObj k o') :=
  ⟨by simp [World.putObj], World.putObj_heap_other (by omega), World.putObj_heap_other (by omega)⟩

/-- A list of bounds: the one that came in, or one of the call's own. -/
def Src (w W : World) (A : Option Addr) (n c : Nat) (l : List Bnd) : Prop := RdB w A n c l ∨ OwnB W (w.heap.size + 3) A n c l
theorem Src.rd {w W : World} {A : Option Addr} {n c : Nat} {l : List Bnd} (h : Src w W A n c l) (hb : Below w.heap.size w W) : RdB W A n c l := h.elim (fun h => h.below hb) (fun h => (OwnB.rd h).1)
theorem Src.keep {w W W' : World} {A : Option Addr} {n c : Nat} {l : List Bnd} (h : Src w W A n c l) (hb : Below W.heap.size W W') : Src w W' A n c l := h.imp id (fun h => owns_below h hb)
theorem Src.set {w W : World} {A : Option Addr} {n c : Nat} {l : List Bnd} (h : Src w W A n c l) (a : Addr) (ha : a.block < w.heap.size + 3) (u : Value) : Src w (W.setCell a u) A n c l := h.imp id (fun h => ownsRow_setCell_below h ha _)
theorem Src.grown {w W W' : World} {A : Option Addr} {n c : Nat} {l : List Bnd} (h : Src w W A n c l) {v : Value} {base m : Nat} {xs : List Value} (hv : W.ownsRow base 3 1 v m xs) (hg : W.grownBy W' v.ownBlock) : Src w W' A n c l := h.imp id (fun h => by
  refine World.ownsRow.kept h hg ?_
  obtain ⟨_, h⟩ := h
  obtain ⟨_, hv⟩ := hv
  rcases h with ⟨h, _⟩ | ⟨g, cap, cur, h, _, hgc, _⟩
  · left; rw [h]; rfl
  · right
    rw [h]
    rcases hv with ⟨rfl, _⟩ | ⟨g', cap', cur', rfl, _, hgc', _⟩
    · intro e; cases e
    · intro e
      have e : some g = some g' := e
      injection e with e
      subst e
      rw [hgc] at hgc'
      injection hgc' with hgc'
      injection hgc' with _ hgc'
      cases hgc')

/-- What stands in memory while the Ids are gone through. -/
def NeedI (Ok : List Bnd → Prop) (holds : List Bnd → Bool) (l : List Bnd) (p : Int) (fv : Value) (w : World) (base : Nat) (pre : List (Qv Wf)) (W : World) : Prop :=
  (∃ A n c v, Ok ((pre.map (fun q : Qv Wf => q.1.2)).foldl (dropStep holds) (l, [])).1 ∧ Blk W w.heap.size 70 #[.int .i64 p, .slice A n c] ∧ Src w W A n c ((pre.map (fun q : Qv Wf => q.1.2)).foldl (dropStep holds) (l, [])).1 ∧ Blk W (w.heap.size + 1) 98 #[fv] ∧
    Blk W (w.heap.size + 2) 33 #[v] ∧ W.ownsRow base 3 1 v ((pre.map (fun q : Qv Wf => q.1.2)).foldl (dropStep holds) (l, [])).2.length (((pre.map (fun q : Qv Wf => q.1.2)).foldl (dropStep holds) (l, [])).2.map (Value.int .i64))) ∧ Below w.heap.size w W ∧ ((pre.map (fun q : Qv Wf => q.1.2)).foldl (dropStep holds) (l, [])).2.length ≤ pre.length ∧ base ≤ W.heap.size

theorem keepsFrom_below {B : Nat} {W W' : World} (h : Below W.heap.size W W') : KeepsFrom B W W' := ⟨h.size, fun k o _ hk _ => (h.block k (Array.getElem?_eq_some_iff.1 hk).1).trans hk⟩
theorem keepsFrom_grown {B : Nat} {X Y : World} {row : Option Nat} (hg : X.grownBy Y row) (hr : ∀ g, row = some g → ∃ cs t fr, X.heap[g]? = some (.cells cs t fr)) : KeepsFrom B X Y := ⟨hg.size, fun k o _ hk hc => by
  refine (hg.block k (Array.getElem?_eq_some_iff.1 hk).1 (fun e => ?_)).trans hk
  obtain ⟨cs, t, fr, h⟩ := hr k e.symm
  rw [h] at hk
  injection hk with hk
  subst hk
  cases hc⟩
theorem row_cells {X : World} {base : Nat} {e : TypeId} {size : Nat} {v : Value} {n : Nat} {xs : List Value} (h : X.ownsRow base e size v n xs) : ∀ g, v.ownBlock = some g → ∃ cs t fr, X.heap[g]? = some (.cells cs t fr) := fun g hg => by
  obtain ⟨_, h⟩ := h
  rcases h with ⟨rfl, _⟩ | ⟨g', cap, cur, rfl, _, hgc, _⟩
  · cases hg
  · have hg : some g' = some g := hg
    injection hg with hg
    subst hg
    exact ⟨_, _, _, hgc⟩
theorem keepQ_below {Bs Br : Nat} {W W' : World} (h : Below W.heap.size W W') (hs : Bs < W.heap.size) (hr : Br < W.heap.size) : KeepQ Bs Br W W' := ⟨h.size, h.block Bs hs, h.block Br hr⟩
theorem keepQ_set {Bs Br : Nat} (W : World) (a : Addr) (u : Value) (hs : Bs ≠ a.block) (hr : Br ≠ a.block) : KeepQ Bs Br W (W.setCell a u) := ⟨by simp, heap_setCell_other _ _ _ _ hs, heap_setCell_other _ _ _ _ hr⟩
theorem keepQ_grown {Bs Br : Nat} {X Y : World} {row : Option Nat} (hg : X.grownBy Y row) (hs : Bs < X.heap.size) (hr : Br < X.heap.size) (h1 : row ≠ some Bs) (h2 : row ≠ some Br) : KeepQ Bs Br X Y := ⟨hg.size, hg.block Bs hs (fun e => h1 e.symm), hg.block Br hr (fun e => h2 e.symm)⟩

set_option maxRecDepth 100000 in
set_option maxHeartbeats 4000000 in
theorem needed_in_doubt  (p : Int) (A : Option Addr) (n c : Nat) (l : List Bnd) (Ok : List Bnd → Prop) (holds : List Bnd → Bool) (hl : Ok l) (hdrop : ∀ l' S, Ok l' → Ok (dropL l' S)) (hW : ∀ l', Ok l' → (∀ x ∈ l', Wf x.b) ∧ l'.length ≤ 1000)
    (w : World) (hgood : ∀ (l' : List Bnd) (A' : Option Addr) (n' c' : Nat) (W : World), Ok l' → RdB W A' n' c' l' → Below w.heap.size w W → Calls Try.prog 93 #[.agg #[.int .i64 p, .slice A' n' c']] W fun e W' => e = .returned (.bool (holds l')) ∧ Below W.heap.size W W') (hr : RdB w A n c l) :
    CallsIn Fence.wide 5 Try.prog 88 #[.agg #[.int .i64 p, .slice A n c], .func (.func 93) #[] #[]] w fun e w' => ∃ A' n' c', e = .returned (.slice A' n' c') ∧ OwnI w' w.heap.size A' n' c' (neededV holds l) ∧ Below w.heap.size w w' := by
  obtain ⟨i0, hi0, hz0, hz1, hz2⟩ := info_parts infoI
  have HI := Lib.hid hi0; have HZ0 := Lib.hid hz0; have HZ1 := Lib.hid hz1; have HZ2 := Lib.hid hz2; clear hi0 hz0 hz1 hz2
  have HGO := Lib.hid hgood; have HDR := Lib.hid hdrop; have HWF := Lib.hid hW; have HOK := Lib.hid hl; clear hgood hdrop hW hl
  have hB0 : Below w.heap.size w (((w.alloc (.cells #[.int .i64 p, .slice A n c] 70)).alloc (.cells #[.func (.func 93) #[] #[]] 98)).alloc (.cells #[.slice none 0 0] 33)) := (((Below.refl _ w).alloc (Nat.le_refl _) _).alloc (by simp) _).alloc (by simp; omega) _
  have c0 := ((Blk.new w 70 #[.int .i64 p, .slice A n c]).alloc (.cells #[.func (.func 93) #[] #[]] 98)).alloc (.cells #[.slice none 0 0] 33)
  have c1 := (Blk.new (w.alloc (.cells #[.int .i64 p, .slice A n c] 70)) 98 #[.func (.func 93) #[] #[]]).alloc (.cells #[.slice none 0 0] 33)
  have c2 := Blk.new ((w.alloc (.cells #[.int .i64 p, .slice A n c] 70)).alloc (.cells #[.func (.func 93) #[] #[]] 98)) 33 #[.slice none 0 0]
  simp only [World.size_alloc] at c1 c2
  have hids := idsOf_any A n c l (HWF.out l HOK.out).1 (by have := (HWF.out l HOK.out).2; have := hr.len; omega) _ (hr.below hB0)
  have HIDS := Lib.hid hids; have C0 := Lib.hid c0; have C1 := Lib.hid c1; have C2 := Lib.hid c2; have HR := Lib.hid hr; clear hids c0 c1 c2 hr
  have k1 : (((w.alloc (.cells #[.int .i64 p, .slice A n c] 70)).alloc (.cells #[.func (.func 93) #[] #[]] 98)).alloc (.cells #[.slice none 0 0] 33)).cell? ⟨w.heap.size, 1, none⟩ = some (.slice A n c) := C0.out.cell 1
  refine callsIn_of_wp_marks Try.func88 rfl trivial ?_ rfl
  simp only [Try.ntmps88, List.size_toArray, List.length_cons, List.length_nil, Nat.reduceAdd, Nat.reduceSub, Array.replicate_succ, Array.replicate_zero, List.push_toArray, List.append_toArray, List.nil_append, List.cons_append]
  gi_wp2_with (first | (refine ⟨trivial, ?_⟩; gi_at_call 114; refine (callsIn_wide.2 HIDS.out).mono ?_; rintro e w2 ⟨A1, n1, c1, rfl, ho1, hb1⟩; have HO1 := Lib.hid ho1; clear ho1) | (refine ⟨trivial, ?_⟩; gi_at_call 113; refine (callsIn_wide.2 (backward_any _ _ _ _)).mono ?_; rintro e w' ⟨rfl, rfl⟩))
  have hB1 := hB0.trans (hb1.mono hB0.size)
  have hs2 := hb1.size
  simp only [World.size_alloc] at hs2
  obtain ⟨hrd1, -⟩ := OwnI.rd HO1.out
  have hbase := HO1.out.lt
  simp only [World.size_alloc] at hbase
  obtain ⟨Br, hA, hBr, hBr2⟩ : ∃ Br, (∀ b o, A1 = some ⟨b, o, none⟩ → b = Br) ∧ Br < w2.heap.size + 1 ∧ w.heap.size + 3 ≤ Br := by
    cases A1 with
    | none => exact ⟨w2.heap.size, (fun b o h => by cases h), by omega, by omega⟩
    | some ad =>
      have := hbase ad.block rfl
      exact ⟨ad.block, (fun b o h => by injection h with h; rw [h]), by omega, by omega⟩
  have hn1 : n1 ≤ 1000 := by
    have h1 := hrd1.len; have h2 := idsL_length l; have h3 := (HWF.out l HOK.out).2; omega
  have hW0s : (w2.alloc (.cells #[.slice A1 n1 c1] 33)).heap.size = w2.heap.size + 1 := by simp
  have D0 := Lib.hid ((C0.out.keep hb1).alloc (.cells #[.slice A1 n1 c1] 33))
  have D1 := Lib.hid ((C1.out.keep hb1).alloc (.cells #[.slice A1 n1 c1] 33))
  have D2 := Lib.hid ((C2.out.keep hb1).alloc (.cells #[.slice A1 n1 c1] 33))
  have DB := Lib.hid (Blk.new w2 33 #[.slice A1 n1 c1])
  have hB2 := hB1.alloc hB1.size (.cells #[.slice A1 n1 c1] 33)
  have RD := Lib.hid (HR.out.below hB2)
  have hseq := bwd_stops (Pv := Wf) (5 - 1) (by omega) w2.heap.size Br n1 c1 A1 (idsL l) (fun v hv => by obtain ⟨-, x, hx, rfl⟩ := mem_idsL.1 hv; exact (HWF.out l HOK.out).1 x hx) hn1 hA _ (hrd1.alloc (.cells #[.slice A1 n1 c1] 33)) DB.out (by rw [hW0s]; exact hBr)
  have HSEQ := Lib.hid hseq; clear hseq hrd1 hbase hA hb1 hB0 C0 C1 C2 HIDS HO1 k1
  refine wpIn_rangeFunc_ownG rfl (by omega) (gf := 121) (lb := #[.pointer (some ⟨w2.heap.size, 0, none⟩)]) rfl trivial (enters_of Try.func121 (by kernel_rfl) rfl)
    HSEQ.out KeepQ.trans (keepQ_b (by rw [hW0s]; omega) (by rw [hW0s]; exact hBr)) (Below.refl _ _) (fun _ => rfl)
    (fun pre W => NeedI Ok holds l p (.func (.func 93) #[] #[]) w (w2.heap.size + 1) pre W)
    (fun _ _ _ => False)
    (fun s X Y row hs hg hr => by
      obtain ⟨⟨A2, n2, c2, v2, h1, h2, h3, h4, h5, h6⟩, h7, h8⟩ := hs
      have hr2 := fun r e => (hr r e).2
      exact ⟨⟨A2, n2, c2, v2, h1, blk_own h2 hg hr2, h3.imp id (fun h => row_own h hg hr2), blk_own h4 hg hr2, blk_own h5 hg hr2, row_own h6 hg hr2⟩, h7.grown hg h7.size (fun q e => by have := (hr q e).1; rw [hW0s] at this; omega), h8.1, Nat.le_trans h8.2 hg.size⟩)
    (fun _ _ _ _ _ hs _ _ => hs)
    ⟨⟨A, n, c, .slice none 0 0, HOK.out, D0.out, .inl HR.out, D1.out, D2.out, World.ownsRow_nil _ _ _ _⟩, hB2, Nat.le_refl _, by rw [hW0s]; exact Nat.le_refl _⟩
    (fun q => { tmps := #[.agg #[.int .i64 p, .slice A n c], .func (.func 93) #[] #[], .pointer (some ⟨w.heap.size, 0, none⟩), .pointer (some ⟨w.heap.size + 1, 0, none⟩), .slice none 0 0, .pointer (some ⟨w.heap.size + 1 + 1, 0, none⟩), undef, .int .i64 q.1.2, undef,
      .pointer (some ⟨w.heap.size, 1, none⟩), .slice A n c, .slice A1 n1 c1, .func (.func 121) #[] #[.pointer (some ⟨w2.heap.size, 0, none⟩)], .int .i64 (q.1.1 : Int), .int .i64 q.1.2, undef, undef, undef, undef, undef, undef, undef, undef, undef, undef, undef, undef, undef, undef, undef], defers := [] }) ?assign ?body ?done ?stop
  case assign =>
    intro lp q W K hK
    dsimp only [encQ]
    gi_wp2
    exact hK
  case body =>
    rintro lp pre q W ⟨⟨A2, n2, c2, v2, hok, h0, hsrc, h1, h2, hrow⟩, hbe, hlen, hbz⟩ hplen
    have hnext : ((pre ++ [q]).map (fun q : Qv Wf => q.1.2)).foldl (dropStep holds) (l, []) = dropStep holds ((pre.map (fun q : Qv Wf => q.1.2)).foldl (dropStep holds) (l, [])) q.1.2 := by rw [List.map_append, List.map_cons, List.map_nil, fold_snoc]
    have hwid := q.2
    have hpl : (pre ++ [q]).length = pre.length + 1 := by simp
    have hpl2 : pre.length < 1001 := by have h1 := idsL_length l; have h2 := (HWF.out l HOK.out).2; omega
    obtain ⟨st, hst⟩ : ∃ st, (pre.map (fun q : Qv Wf => q.1.2)).foldl (dropStep holds) (l, []) = st := ⟨_, rfl⟩
    rw [hst] at hok hsrc hrow hlen hnext
    obtain ⟨l', ks⟩ := st
    dsimp only at hok hsrc hrow hlen hnext hwid
    have hrd := hsrc.rd hbe
    clear hst
    have HNX := Lib.hid hnext; clear hnext
    obtain ⟨id, hid⟩ : ∃ id, q.1.2 = id := ⟨_, rfl⟩
    rw [hid] at HNX hwid
    obtain ⟨qi, hqi⟩ : ∃ qi, q.1.1 = qi := ⟨_, rfl⟩
    have hw2 := HWF.out l' hok
    have hwo := without_any p A2 (some ⟨W.heap.size, 0, none⟩) n2 c2 1 1 l' [id] hw2.1 (fun v hv => by rw [List.mem_singleton.1 hv]; exact hwid) (by have := hrd.len; have := hw2.2; omega) (by omega) _ (hrd.alloc (.cells #[.int .i64 id] 3)) (rdI_one W id)
    have u0 : W.cell? ⟨w.heap.size, 0, none⟩ = some (.int .i64 p) := h0.cell 0
    have u1 : W.cell? ⟨w.heap.size, 1, none⟩ = some (.slice A2 n2 c2) := h0.cell 1
    have hz0 := h0.lt; have hz1 := h1.lt; have hz2 := h2.lt
    have hbWa : Below W.heap.size W (W.alloc (.cells #[.int .i64 id] 3)) := (Below.refl _ W).alloc (Nat.le_refl _) _
    have hok2 := HDR.out l' [id] hok
    have HWO := Lib.hid hwo; have H0 := Lib.hid h0; have H1 := Lib.hid h1; have H2 := Lib.hid h2; have HROW := Lib.hid hrow; have HRD := Lib.hid hrd; have HOK2 := Lib.hid hok2; have HOKK := Lib.hid hok; have HSRC := Lib.hid hsrc; clear hsrc hwo h0 h1 h2 hrow hrd hok2 hw2 hwid hok
    rw [hid, hqi]
    cases hh : holds (dropL l' [id])
    · have hds : dropStep holds (l', ks) id = (l', ks ++ [id]) := by unfold dropStep; dsimp only; rw [if_neg (by rw [hh]; simp)]
      rw [hds] at HNX
      have HH := Lib.hid hh; clear hh hds
      gi_wp2_with (first
        | (refine ⟨trivial, ?_⟩; gi_at_call 101; refine (callsIn_wide.2 HWO.out).mono ?_; rintro e wb ⟨A6, n6, c6, rfl, ho6, hb6⟩
           have hb7 := (hbWa.trans (hb6.mono hbWa.size)).alloc (hbWa.trans (hb6.mono hbWa.size)).size (.cells #[.int .i64 p, .slice A6 n6 c6] 70)
           have HB7 := Lib.hid hb7
           have hgo := HGO.out _ A6 n6 c6 _ HOK2.out ((OwnB.rd ho6).1.alloc (.cells #[.int .i64 p, .slice A6 n6 c6] 70)) (hbe.trans (hb7.mono hbe.size))
           rw [HH.out] at hgo
           have HGG := Lib.hid hgo
           have y1 : (wb.alloc (.cells #[.int .i64 p, .slice A6 n6 c6] 70)).cell? ⟨w.heap.size + 1, 0, none⟩ = some (.func (.func 93) #[] #[]) := (H1.out.keep hb7).cell 0
           have y2 : (wb.alloc (.cells #[.int .i64 p, .slice A6 n6 c6] 70)).cell? ⟨wb.heap.size, 0, none⟩ = some (.int .i64 p) := (Blk.new wb 70 #[.int .i64 p, .slice A6 n6 c6]).cell 0
           have y3 : (wb.alloc (.cells #[.int .i64 p, .slice A6 n6 c6] 70)).cell? ⟨wb.heap.size, 1, none⟩ = some (.slice A6 n6 c6) := (Blk.new wb 70 #[.int .i64 p, .slice A6 n6 c6]).cell 1
           clear hgo ho6 hb6 hb7)
        | (refine ⟨trivial, ?_⟩; gi_at_call 93; refine (callsIn_wide.2 HGG.out).mono ?_; rintro e wd ⟨rfl, hb8⟩
           have HB8 := Lib.hid (HB7.out.trans (hb8.mono HB7.out.size))
           have y4 : wd.cell? ⟨w.heap.size + 1 + 1, 0, none⟩ = some v2 := (H2.out.keep HB8.out).cell 0
           have y5 : wd.frozen? ⟨w.heap.size + 1 + 1, 0, none⟩ = false := (H2.out.keep HB8.out).frozen 0
           clear hb8)
        | (gi_at_builtin
           have N9 := Lib.hid (Blk.new wd 3 #[.int .i64 id])
           have hb9 := HB8.out.alloc HB8.out.size (.cells #[.int .i64 id] 3)
           refine wpListIn_append_own _ rfl (.tmp 23) (.tmp 25) 33 rfl (w2.heap.size + 1) 3 i0 _ 1 8 Try.underlying33 HI.out HZ0.out HZ1.out HZ2.out rfl (by omega) v2 _ _ rfl (owns_below HROW.out hb9) ⟨wd.heap.size, 0, none⟩ 1 1 [.int .i64 id] rfl rfl (fun j u hu => by rw [Addr.add_lit, Nat.zero_add, N9.out.cell]; simpa using hu) (by simp [Value.oneCell']) (by unfold maxLen; omega) (by omega) (Nat.le_trans hbz hb9.size) ?_
           intro v' w4 hown4 hg4 _
           obtain ⟨A7, c7, hv7, -⟩ := own_form hown4
           subst hv7
           have HB9 := Lib.hid hb9; have HO4 := Lib.hid hown4; have HG4 := Lib.hid hg4
           have y6 : w4.cell? ⟨w.heap.size + 1 + 1, 0, none⟩ = some v2 := (blk_grown (H2.out.keep hb9) hg4 (fun e => by have := (HROW.out.lt _ e).1; omega)).cell 0
           have y7 : w4.frozen? ⟨w.heap.size + 1 + 1, 0, none⟩ = false := (blk_grown (H2.out.keep hb9) hg4 (fun e => by have := (HROW.out.lt _ e).1; omega)).frozen 0
           clear hb9 hown4 hg4))
      have hW1 : W.heap.size < w4.heap.size := Nat.lt_of_lt_of_le (by have := HB9.out.size; have := HB8.out.size; simp at this ⊢; omega) HG4.out.size
      have hrb := fun g e => (HROW.out.lt g e).1
      refine ⟨((keepsFrom_below HB9.out).trans (keepsFrom_grown HG4.out (row_cells (owns_below HROW.out HB9.out)))).trans ((KeepsOthers.setCell _ _ _).from _), ((keepQ_below HB9.out (by omega) (by omega)).trans (keepQ_grown HG4.out (by have := HB9.out.size; omega) (by have := HB9.out.size; omega) (fun e => by have := hrb _ e; omega) (fun e => by have := hrb _ e; omega))).trans (keepQ_set _ _ _ (by simp; omega) (by simp; omega)), ?_⟩
      show NeedI _ _ _ _ _ _ _ _ _
      unfold NeedI
      rw [HNX.out]
      dsimp only
      refine ⟨⟨A2, n2, c2, .slice A7 (ks.length + 1) c7, HOKK.out, ?_, ?_, ?_, ?_, ?_⟩, ?_, ?_, ?_⟩
      · exact (blk_grown (H0.out.keep HB9.out) HG4.out (fun e => by have := hrb _ e; omega)).far (by simp; omega) _
      · exact ((HSRC.out.keep HB9.out).grown (owns_below HROW.out HB9.out) HG4.out).set ⟨w.heap.size + 1 + 1, 0, none⟩ (by simp) _
      · exact (blk_grown (H1.out.keep HB9.out) HG4.out (fun e => by have := hrb _ e; omega)).far (by simp) _
      · exact (blk_grown (H2.out.keep HB9.out) HG4.out (fun e => by have := hrb _ e; omega)).set_ 0 _
      · rw [List.length_append, List.map_append]
        exact ownsRow_setCell_below HO4.out (a := ⟨w.heap.size + 1 + 1, 0, none⟩) (by simp; omega) _
      · exact ((hbe.trans (HB9.out.mono hbe.size)).grown HG4.out (hbe.trans (HB9.out.mono hbe.size)).size (fun q e => by have := hrb _ e; omega)).setCell (p := ⟨w.heap.size + 1 + 1, 0, none⟩) (by simp; omega) _
      · rw [List.length_append, hpl]; simp; omega
      · simp; omega
    · have hds : dropStep holds (l', ks) id = (dropL l' [id], ks) := by unfold dropStep; dsimp only; rw [if_pos hh]
      rw [hds] at HNX
      have HH := Lib.hid hh; clear hh hds
      gi_wp2_with (first
        | (refine ⟨trivial, ?_⟩; gi_at_call 101; refine (callsIn_wide.2 HWO.out).mono ?_; rintro e wb ⟨A6, n6, c6, rfl, ho6, hb6⟩
           have hb7 := (hbWa.trans (hb6.mono hbWa.size)).alloc (hbWa.trans (hb6.mono hbWa.size)).size (.cells #[.int .i64 p, .slice A6 n6 c6] 70)
           have HB7 := Lib.hid hb7
           have hgo := HGO.out _ A6 n6 c6 _ HOK2.out ((OwnB.rd ho6).1.alloc (.cells #[.int .i64 p, .slice A6 n6 c6] 70)) (hbe.trans (hb7.mono hbe.size))
           rw [HH.out] at hgo
           have HGG := Lib.hid hgo
           have HO6 := Lib.hid (show OwnB (wb.alloc (.cells #[.int .i64 p, .slice A6 n6 c6] 70)) _ A6 n6 c6 _ from World.ownsRow.alloc ho6 _)
           have y1 : (wb.alloc (.cells #[.int .i64 p, .slice A6 n6 c6] 70)).cell? ⟨w.heap.size + 1, 0, none⟩ = some (.func (.func 93) #[] #[]) := (H1.out.keep hb7).cell 0
           have N2 := Lib.hid (Blk.new wb 70 #[.int .i64 p, .slice A6 n6 c6])
           have y2 : (wb.alloc (.cells #[.int .i64 p, .slice A6 n6 c6] 70)).cell? ⟨wb.heap.size, 0, none⟩ = some (.int .i64 p) := N2.out.cell 0
           have y3 : (wb.alloc (.cells #[.int .i64 p, .slice A6 n6 c6] 70)).cell? ⟨wb.heap.size, 1, none⟩ = some (.slice A6 n6 c6) := N2.out.cell 1
           clear hgo ho6 hb6 hb7)
        | (refine ⟨trivial, ?_⟩; gi_at_call 93; refine (callsIn_wide.2 HGG.out).mono ?_; rintro e wd ⟨rfl, hb8⟩
           have HB8 := Lib.hid (HB7.out.trans (hb8.mono HB7.out.size))
           have HO8 := Lib.hid (owns_below HO6.out hb8)
           have y4 : wd.cell? ⟨wb.heap.size, 0, none⟩ = some (.int .i64 p) := (N2.out.keep hb8).cell 0
           have y5 : wd.cell? ⟨wb.heap.size, 1, none⟩ = some (.slice A6 n6 c6) := (N2.out.keep hb8).cell 1
           have y6 : wd.cell? ⟨w.heap.size, 0, none⟩ = some (.int .i64 p) := (H0.out.keep HB8.out).cell 0
           have y7 : wd.cell? ⟨w.heap.size, 1, none⟩ = some (.slice A2 n2 c2) := (H0.out.keep HB8.out).cell 1
           have y8 : wd.frozen? ⟨w.heap.size, 0, none⟩ = false := (H0.out.keep HB8.out).frozen 0
           have y9 : wd.frozen? ⟨w.heap.size, 1, none⟩ = false := (H0.out.keep HB8.out).frozen 1
           clear hb8))
      have hds8 := HB8.out.size
      refine ⟨((keepsFrom_below HB8.out).trans ((KeepsOthers.setCell _ _ _).from _)).trans ((KeepsOthers.setCell _ _ _).from _), ((keepQ_below HB8.out (by omega) (by omega)).trans (keepQ_set _ _ _ (by simp; omega) (by simp; omega))).trans (keepQ_set _ _ _ (by simp; omega) (by simp; omega)), ?_⟩
      show NeedI _ _ _ _ _ _ _ _ _
      unfold NeedI
      rw [HNX.out]
      dsimp only
      refine ⟨⟨A6, n6, c6, v2, HOK2.out, ?_, ?_, ?_, ?_, ?_⟩, ?_, ?_, ?_⟩
      · exact ((H0.out.keep HB8.out).set_ 0 (.int .i64 p)).set_ 1 (.slice A6 n6 c6)
      · right
        refine ownsRow_setCell_below (ownsRow_setCell_below ?_ (by simp) _) (by simp) _
        exact owns_base HO8.out (by rw [World.size_alloc]; omega)
      · exact (((H1.out.keep HB8.out)).far (by simp) _).far (by simp) _
      · exact (((H2.out.keep HB8.out)).far (by simp) _).far (by simp) _
      · exact ownsRow_setCell_below (ownsRow_setCell_below (owns_below HROW.out HB8.out) (by simp; omega) _) (by simp; omega) _
      · exact ((hbe.trans (HB8.out.mono hbe.size)).setCell (p := ⟨w.heap.size, 0, none⟩) (by simp) _).setCell (p := ⟨w.heap.size, 1, none⟩) (by simp) _
      · rw [hpl]; omega
      · simp; omega
  case done =>
    rintro D ys W hD hS ⟨⟨A2, n2, c2, v2, hok, h0, hsrc, h1, h2, hrow⟩, hbe, hlen, hbz⟩ hK
    have hvals : ys.map (fun q : Qv Wf => q.1.2) = (idsL l).reverse := by
      rw [← bwdK_values, ← hS, List.map_map]
      rfl
    rw [hvals] at hrow
    have hV : ((idsL l).reverse.foldl (dropStep holds) (l, [])).2.reverse = neededV holds l := rfl
    generalize ((idsL l).reverse.foldl (dropStep holds) (l, [])).2 = ks at *
    obtain ⟨A7, c7, hv7, -⟩ := own_form hrow
    subst hv7
    have hrv := reverse_any (w2.heap.size + 1) A7 ks.length c7 ks W hrow
    have u5 : W.cell? ⟨w.heap.size + 1 + 1, 0, none⟩ = some (.slice A7 ks.length c7) := h2.cell 0
    have H2 := Lib.hid h2; have HRV := Lib.hid hrv; have HROW := Lib.hid hrow; have HK := Lib.hid hK; have HV := Lib.hid hV; clear h0 hsrc h1 h2 hrow hrv hK hS hvals hV hok
    gi_wp2_with (refine ⟨trivial, ?_⟩; gi_at_call 115; refine (callsIn_wide.2 HRV.out).mono ?_; rintro e w5 ⟨rfl, ho5, hg5⟩; have HO5 := Lib.hid ho5; have HG5 := Lib.hid hg5; have y6 : w5.cell? ⟨w.heap.size + 1 + 1, 0, none⟩ = some (.slice A7 ks.length c7) := (blk_grown H2.out hg5 (fun e => by have := (HROW.out.lt _ e).1; omega)).cell 0; clear ho5 hg5)
    have hK' : w5.heap[D]? = some (.deferred (some [])) := (HG5.out.block D (Array.getElem?_eq_some_iff.1 HK.out).1 (fun e => by
      obtain ⟨cs, t, fr, h⟩ := row_cells HROW.out D e.symm
      rw [HK.out] at h
      cases h)).trans HK.out
    refine ⟨by simp, .inl ⟨_, _, rfl, run_takeDeferred hK', ?_⟩⟩
    refine ⟨_, results_tmp rfl _ _ _, A7, ks.length, c7, rfl, ?_, ?_⟩
    · rw [← HV.out]
      exact owns_base (row_own HO5.out (grownBy_putObj' w5 D _) (fun r e => by cases e; exact ⟨_, hK', rfl⟩)) (by omega)
    · exact (hbe.grown HG5.out hbe.size (fun q e => by have := (HROW.out.lt _ e).1; omega)).trans (belowK_b (w := w) (Nat.le_refl _) _ D _ _ (by rw [hW0s] at hD; omega) hK' rfl rfl)
  case stop =>
    rintro D c pre W _ _ h _
    exact h.elim


set_option maxRecDepth 100000 in
set_option maxHeartbeats 4000000 in
theorem needed_in_rests (Bu Ba Bb Bn : Nat) (p : Int) (A : Option Addr) (n c : Nat) (l : List Bnd) (Ok : List Bnd → Prop) (holds : List Bnd → Bool) (hl : Ok l) (hdrop : ∀ l' S, Ok l' → Ok (dropL l' S)) (hW : ∀ l', Ok l' → (∀ x ∈ l', Wf x.b) ∧ l'.length ≤ 1000)
    (w : World) (hgood : ∀ (l' : List Bnd) (A' : Option Addr) (n' c' : Nat) (W : World), Ok l' → RdB W A' n' c' l' → Below w.heap.size w W → Calls Try.prog 89 #[.agg #[.int .i64 p, .slice A' n' c'], .pointer (some ⟨Bu, 0, none⟩), .pointer (some ⟨Ba, 0, none⟩), .pointer (some ⟨Bb, 0, none⟩), .pointer (some ⟨Bn, 0, none⟩)] W fun e W' => e = .returned (.bool (holds l')) ∧ Below W.heap.size W W') (hr : RdB w A n c l) :
    CallsIn Fence.wide 5 Try.prog 88 #[.agg #[.int .i64 p, .slice A n c], .func (.func 89) #[] #[.pointer (some ⟨Bu, 0, none⟩), .pointer (some ⟨Ba, 0, none⟩), .pointer (some ⟨Bb, 0, none⟩), .pointer (some ⟨Bn, 0, none⟩)]] w fun e w' => ∃ A' n' c', e = .returned (.slice A' n' c') ∧ OwnI w' w.heap.size A' n' c' (neededV holds l) ∧ Below w.heap.size w w' := by
  obtain ⟨i0, hi0, hz0, hz1, hz2⟩ := info_parts infoI
  have HI := Lib.hid hi0; have HZ0 := Lib.hid hz0; have HZ1 := Lib.hid hz1; have HZ2 := Lib.hid hz2; clear hi0 hz0 hz1 hz2
  have HGO := Lib.hid hgood; have HDR := Lib.hid hdrop; have HWF := Lib.hid hW; have HOK := Lib.hid hl; clear hgood hdrop hW hl
  have hB0 : Below w.heap.size w (((w.alloc (.cells #[.int .i64 p, .slice A n c] 70)).alloc (.cells #[.func (.func 89) #[] #[.pointer (some ⟨Bu, 0, none⟩), .pointer (some ⟨Ba, 0, none⟩), .pointer (some ⟨Bb, 0, none⟩), .pointer (some ⟨Bn, 0, none⟩)]] 98)).alloc (.cells #[.slice none 0 0] 33)) := (((Below.refl _ w).alloc (Nat.le_refl _) _).alloc (by simp) _).alloc (by simp; omega) _
  have c0 := ((Blk.new w 70 #[.int .i64 p, .slice A n c]).alloc (.cells #[.func (.func 89) #[] #[.pointer (some ⟨Bu, 0, none⟩), .pointer (some ⟨Ba, 0, none⟩), .pointer (some ⟨Bb, 0, none⟩), .pointer (some ⟨Bn, 0, none⟩)]] 98)).alloc (.cells #[.slice none 0 0] 33)
  have c1 := (Blk.new (w.alloc (.cells #[.int .i64 p, .slice A n c] 70)) 98 #[.func (.func 89) #[] #[.pointer (some ⟨Bu, 0, none⟩), .pointer (some ⟨Ba, 0, none⟩), .pointer (some ⟨Bb, 0, none⟩), .pointer (some ⟨Bn, 0, none⟩)]]).alloc (.cells #[.slice none 0 0] 33)
  have c2 := Blk.new ((w.alloc (.cells #[.int .i64 p, .slice A n c] 70)).alloc (.cells #[.func (.func 89) #[] #[.pointer (some ⟨Bu, 0, none⟩), .pointer (some ⟨Ba, 0, none⟩), .pointer (some ⟨Bb, 0, none⟩), .pointer (some ⟨Bn, 0, none⟩)]] 98)) 33 #[.slice none 0 0]
  simp only [World.size_alloc] at c1 c2
  have hids := idsOf_any A n c l (HWF.out l HOK.out).1 (by have := (HWF.out l HOK.out).2; have := hr.len; omega) _ (hr.below hB0)
  have HIDS := Lib.hid hids; have C0 := Lib.hid c0; have C1 := Lib.hid c1; have C2 := Lib.hid c2; have HR := Lib.hid hr; clear hids c0 c1 c2 hr
  have k1 : (((w.alloc (.cells #[.int .i64 p, .slice A n c] 70)).alloc (.cells #[.func (.func 89) #[] #[.pointer (some ⟨Bu, 0, none⟩), .pointer (some ⟨Ba, 0, none⟩), .pointer (some ⟨Bb, 0, none⟩), .pointer (some ⟨Bn, 0, none⟩)]] 98)).alloc (.cells #[.slice none 0 0] 33)).cell? ⟨w.heap.size, 1, none⟩ = some (.slice A n c) := C0.out.cell 1
  refine callsIn_of_wp_marks Try.func88 rfl trivial ?_ rfl
  simp only [Try.ntmps88, List.size_toArray, List.length_cons, List.length_nil, Nat.reduceAdd, Nat.reduceSub, Array.replicate_succ, Array.replicate_zero, List.push_toArray, List.append_toArray, List.nil_append, List.cons_append]
  gi_wp2_with (first | (refine ⟨trivial, ?_⟩; gi_at_call 114; refine (callsIn_wide.2 HIDS.out).mono ?_; rintro e w2 ⟨A1, n1, c1, rfl, ho1, hb1⟩; have HO1 := Lib.hid ho1; clear ho1) | (refine ⟨trivial, ?_⟩; gi_at_call 113; refine (callsIn_wide.2 (backward_any _ _ _ _)).mono ?_; rintro e w' ⟨rfl, rfl⟩))
  have hB1 := hB0.trans (hb1.mono hB0.size)
  have hs2 := hb1.size
  simp only [World.size_alloc] at hs2
  obtain ⟨hrd1, -⟩ := OwnI.rd HO1.out
  have hbase := HO1.out.lt
  simp only [World.size_alloc] at hbase
  obtain ⟨Br, hA, hBr, hBr2⟩ : ∃ Br, (∀ b o, A1 = some ⟨b, o, none⟩ → b = Br) ∧ Br < w2.heap.size + 1 ∧ w.heap.size + 3 ≤ Br := by
    cases A1 with
    | none => exact ⟨w2.heap.size, (fun b o h => by cases h), by omega, by omega⟩
    | some ad =>
      have := hbase ad.block rfl
      exact ⟨ad.block, (fun b o h => by injection h with h; rw [h]), by omega, by omega⟩
  have hn1 : n1 ≤ 1000 := by
    have h1 := hrd1.len; have h2 := idsL_length l; have h3 := (HWF.out l HOK.out).2; omega
  have hW0s : (w2.alloc (.cells #[.slice A1 n1 c1] 33)).heap.size = w2.heap.size + 1 := by simp
  have D0 := Lib.hid ((C0.out.keep hb1).alloc (.cells #[.slice A1 n1 c1] 33))
  have D1 := Lib.hid ((C1.out.keep hb1).alloc (.cells #[.slice A1 n1 c1] 33))
  have D2 := Lib.hid ((C2.out.keep hb1).alloc (.cells #[.slice A1 n1 c1] 33))
  have DB := Lib.hid (Blk.new w2 33 #[.slice A1 n1 c1])
  have hB2 := hB1.alloc hB1.size (.cells #[.slice A1 n1 c1] 33)
  have RD := Lib.hid (HR.out.below hB2)
  have hseq := bwd_stops (Pv := Wf) (5 - 1) (by omega) w2.heap.size Br n1 c1 A1 (idsL l) (fun v hv => by obtain ⟨-, x, hx, rfl⟩ := mem_idsL.1 hv; exact (HWF.out l HOK.out).1 x hx) hn1 hA _ (hrd1.alloc (.cells #[.slice A1 n1 c1] 33)) DB.out (by rw [hW0s]; exact hBr)
  have HSEQ := Lib.hid hseq; clear hseq hrd1 hbase hA hb1 hB0 C0 C1 C2 HIDS HO1 k1
  refine wpIn_rangeFunc_ownG rfl (by omega) (gf := 121) (lb := #[.pointer (some ⟨w2.heap.size, 0, none⟩)]) rfl trivial (enters_of Try.func121 (by kernel_rfl) rfl)
    HSEQ.out KeepQ.trans (keepQ_b (by rw [hW0s]; omega) (by rw [hW0s]; exact hBr)) (Below.refl _ _) (fun _ => rfl)
    (fun pre W => NeedI Ok holds l p (.func (.func 89) #[] #[.pointer (some ⟨Bu, 0, none⟩), .pointer (some ⟨Ba, 0, none⟩), .pointer (some ⟨Bb, 0, none⟩), .pointer (some ⟨Bn, 0, none⟩)]) w (w2.heap.size + 1) pre W)
    (fun _ _ _ => False)
    (fun s X Y row hs hg hr => by
      obtain ⟨⟨A2, n2, c2, v2, h1, h2, h3, h4, h5, h6⟩, h7, h8⟩ := hs
      have hr2 := fun r e => (hr r e).2
      exact ⟨⟨A2, n2, c2, v2, h1, blk_own h2 hg hr2, h3.imp id (fun h => row_own h hg hr2), blk_own h4 hg hr2, blk_own h5 hg hr2, row_own h6 hg hr2⟩, h7.grown hg h7.size (fun q e => by have := (hr q e).1; rw [hW0s] at this; omega), h8.1, Nat.le_trans h8.2 hg.size⟩)
    (fun _ _ _ _ _ hs _ _ => hs)
    ⟨⟨A, n, c, .slice none 0 0, HOK.out, D0.out, .inl HR.out, D1.out, D2.out, World.ownsRow_nil _ _ _ _⟩, hB2, Nat.le_refl _, by rw [hW0s]; exact Nat.le_refl _⟩
    (fun q => { tmps := #[.agg #[.int .i64 p, .slice A n c], .func (.func 89) #[] #[.pointer (some ⟨Bu, 0, none⟩), .pointer (some ⟨Ba, 0, none⟩), .pointer (some ⟨Bb, 0, none⟩), .pointer (some ⟨Bn, 0, none⟩)], .pointer (some ⟨w.heap.size, 0, none⟩), .pointer (some ⟨w.heap.size + 1, 0, none⟩), .slice none 0 0, .pointer (some ⟨w.heap.size + 1 + 1, 0, none⟩), undef, .int .i64 q.1.2, undef,
      .pointer (some ⟨w.heap.size, 1, none⟩), .slice A n c, .slice A1 n1 c1, .func (.func 121) #[] #[.pointer (some ⟨w2.heap.size, 0, none⟩)], .int .i64 (q.1.1 : Int), .int .i64 q.1.2, undef, undef, undef, undef, undef, undef, undef, undef, undef, undef, undef, undef, undef, undef, undef], defers := [] }) ?assign ?body ?done ?stop
  case assign =>
    intro lp q W K hK
    dsimp only [encQ]
    gi_wp2
    exact hK
  case body =>
    rintro lp pre q W ⟨⟨A2, n2, c2, v2, hok, h0, hsrc, h1, h2, hrow⟩, hbe, hlen, hbz⟩ hplen
    have hnext : ((pre ++ [q]).map (fun q : Qv Wf => q.1.2)).foldl (dropStep holds) (l, []) = dropStep holds ((pre.map (fun q : Qv Wf => q.1.2)).foldl (dropStep holds) (l, [])) q.1.2 := by rw [List.map_append, List.map_cons, List.map_nil, fold_snoc]
    have hwid := q.2
    have hpl : (pre ++ [q]).length = pre.length + 1 := by simp
    have hpl2 : pre.length < 1001 := by have h1 := idsL_length l; have h2 := (HWF.out l HOK.out).2; omega
    obtain ⟨st, hst⟩ : ∃ st, (pre.map (fun q : Qv Wf => q.1.2)).foldl (dropStep holds) (l, []) = st := ⟨_, rfl⟩
    rw [hst] at hok hsrc hrow hlen hnext
    obtain ⟨l', ks⟩ := st
    dsimp only at hok hsrc hrow hlen hnext hwid
    have hrd := hsrc.rd hbe
    clear hst
    have HNX := Lib.hid hnext; clear hnext
    obtain ⟨id, hid⟩ : ∃ id, q.1.2 = id := ⟨_, rfl⟩
    rw [hid] at HNX hwid
    obtain ⟨qi, hqi⟩ : ∃ qi, q.1.1 = qi := ⟨_, rfl⟩
    have hw2 := HWF.out l' hok
    have hwo := without_any p A2 (some ⟨W.heap.size, 0, none⟩) n2 c2 1 1 l' [id] hw2.1 (fun v hv => by rw [List.mem_singleton.1 hv]; exact hwid) (by have := hrd.len; have := hw2.2; omega) (by omega) _ (hrd.alloc (.cells #[.int .i64 id] 3)) (rdI_one W id)
    have u0 : W.cell? ⟨w.heap.size, 0, none⟩ = some (.int .i64 p) := h0.cell 0
    have u1 : W.cell? ⟨w.heap.size, 1, none⟩ = some (.slice A2 n2 c2) := h0.cell 1
    have hz0 := h0.lt; have hz1 := h1.lt; have hz2 := h2.lt
    have hbWa : Below W.heap.size W (W.alloc (.cells #[.int .i64 id] 3)) := (Below.refl _ W).alloc (Nat.le_refl _) _
    have hok2 := HDR.out l' [id] hok
    have HWO := Lib.hid hwo; have H0 := Lib.hid h0; have H1 := Lib.hid h1; have H2 := Lib.hid h2; have HROW := Lib.hid hrow; have HRD := Lib.hid hrd; have HOK2 := Lib.hid hok2; have HOKK := Lib.hid hok; have HSRC := Lib.hid hsrc; clear hsrc hwo h0 h1 h2 hrow hrd hok2 hw2 hwid hok
    rw [hid, hqi]
    cases hh : holds (dropL l' [id])
    · have hds : dropStep holds (l', ks) id = (l', ks ++ [id]) := by unfold dropStep; dsimp only; rw [if_neg (by rw [hh]; simp)]
      rw [hds] at HNX
      have HH := Lib.hid hh; clear hh hds
      gi_wp2_with (first
        | (refine ⟨trivial, ?_⟩; gi_at_call 101; refine (callsIn_wide.2 HWO.out).mono ?_; rintro e wb ⟨A6, n6, c6, rfl, ho6, hb6⟩
           have hb7 := (hbWa.trans (hb6.mono hbWa.size)).alloc (hbWa.trans (hb6.mono hbWa.size)).size (.cells #[.int .i64 p, .slice A6 n6 c6] 70)
           have HB7 := Lib.hid hb7
           have hgo := HGO.out _ A6 n6 c6 _ HOK2.out ((OwnB.rd ho6).1.alloc (.cells #[.int .i64 p, .slice A6 n6 c6] 70)) (hbe.trans (hb7.mono hbe.size))
           rw [HH.out] at hgo
           have HGG := Lib.hid hgo
           have y1 : (wb.alloc (.cells #[.int .i64 p, .slice A6 n6 c6] 70)).cell? ⟨w.heap.size + 1, 0, none⟩ = some (.func (.func 89) #[] #[.pointer (some ⟨Bu, 0, none⟩), .pointer (some ⟨Ba, 0, none⟩), .pointer (some ⟨Bb, 0, none⟩), .pointer (some ⟨Bn, 0, none⟩)]) := (H1.out.keep hb7).cell 0
           have y2 : (wb.alloc (.cells #[.int .i64 p, .slice A6 n6 c6] 70)).cell? ⟨wb.heap.size, 0, none⟩ = some (.int .i64 p) := (Blk.new wb 70 #[.int .i64 p, .slice A6 n6 c6]).cell 0
           have y3 : (wb.alloc (.cells #[.int .i64 p, .slice A6 n6 c6] 70)).cell? ⟨wb.heap.size, 1, none⟩ = some (.slice A6 n6 c6) := (Blk.new wb 70 #[.int .i64 p, .slice A6 n6 c6]).cell 1
           clear hgo ho6 hb6 hb7)
        | (refine ⟨trivial, ?_⟩; gi_at_call 89; refine (callsIn_wide.2 HGG.out).mono ?_; rintro e wd ⟨rfl, hb8⟩
           have HB8 := Lib.hid (HB7.out.trans (hb8.mono HB7.out.size))
           have y4 : wd.cell? ⟨w.heap.size + 1 + 1, 0, none⟩ = some v2 := (H2.out.keep HB8.out).cell 0
           have y5 : wd.frozen? ⟨w.heap.size + 1 + 1, 0, none⟩ = false := (H2.out.keep HB8.out).frozen 0
           clear hb8)
        | (gi_at_builtin
           have N9 := Lib.hid (Blk.new wd 3 #[.int .i64 id])
           have hb9 := HB8.out.alloc HB8.out.size (.cells #[.int .i64 id] 3)
           refine wpListIn_append_own _ rfl (.tmp 23) (.tmp 25) 33 rfl (w2.heap.size + 1) 3 i0 _ 1 8 Try.underlying33 HI.out HZ0.out HZ1.out HZ2.out rfl (by omega) v2 _ _ rfl (owns_below HROW.out hb9) ⟨wd.heap.size, 0, none⟩ 1 1 [.int .i64 id] rfl rfl (fun j u hu => by rw [Addr.add_lit, Nat.zero_add, N9.out.cell]; simpa using hu) (by simp [Value.oneCell']) (by unfold maxLen; omega) (by omega) (Nat.le_trans hbz hb9.size) ?_
           intro v' w4 hown4 hg4 _
           obtain ⟨A7, c7, hv7, -⟩ := own_form hown4
           subst hv7
           have HB9 := Lib.hid hb9; have HO4 := Lib.hid hown4; have HG4 := Lib.hid hg4
           have y6 : w4.cell? ⟨w.heap.size + 1 + 1, 0, none⟩ = some v2 := (blk_grown (H2.out.keep hb9) hg4 (fun e => by have := (HROW.out.lt _ e).1; omega)).cell 0
           have y7 : w4.frozen? ⟨w.heap.size + 1 + 1, 0, none⟩ = false := (blk_grown (H2.out.keep hb9) hg4 (fun e => by have := (HROW.out.lt _ e).1; omega)).frozen 0
           clear hb9 hown4 hg4))
      have hW1 : W.heap.size < w4.heap.size := Nat.lt_of_lt_of_le (by have := HB9.out.size; have := HB8.out.size; simp at this ⊢; omega) HG4.out.size
      have hrb := fun g e => (HROW.out.lt g e).1
      refine ⟨((keepsFrom_below HB9.out).trans (keepsFrom_grown HG4.out (row_cells (owns_below HROW.out HB9.out)))).trans ((KeepsOthers.setCell _ _ _).from _), ((keepQ_below HB9.out (by omega) (by omega)).trans (keepQ_grown HG4.out (by have := HB9.out.size; omega) (by have := HB9.out.size; omega) (fun e => by have := hrb _ e; omega) (fun e => by have := hrb _ e; omega))).trans (keepQ_set _ _ _ (by simp; omega) (by simp; omega)), ?_⟩
      show NeedI _ _ _ _ _ _ _ _ _
      unfold NeedI
      rw [HNX.out]
      dsimp only
      refine ⟨⟨A2, n2, c2, .slice A7 (ks.length + 1) c7, HOKK.out, ?_, ?_, ?_, ?_, ?_⟩, ?_, ?_, ?_⟩
      · exact (blk_grown (H0.out.keep HB9.out) HG4.out (fun e => by have := hrb _ e; omega)).far (by simp; omega) _
      · exact ((HSRC.out.keep HB9.out).grown (owns_below HROW.out HB9.out) HG4.out).set ⟨w.heap.size + 1 + 1, 0, none⟩ (by simp) _
      · exact (blk_grown (H1.out.keep HB9.out) HG4.out (fun e => by have := hrb _ e; omega)).far (by simp) _
      · exact (blk_grown (H2.out.keep HB9.out) HG4.out (fun e => by have := hrb _ e; omega)).set_ 0 _
      · rw [List.length_append, List.map_append]
        exact ownsRow_setCell_below HO4.out (a := ⟨w.heap.size + 1 + 1, 0, none⟩) (by simp; omega) _
      · exact ((hbe.trans (HB9.out.mono hbe.size)).grown HG4.out (hbe.trans (HB9.out.mono hbe.size)).size (fun q e => by have := hrb _ e; omega)).setCell (p := ⟨w.heap.size + 1 + 1, 0, none⟩) (by simp; omega) _
      · rw [List.length_append, hpl]; simp; omega
      · simp; omega
    · have hds : dropStep holds (l', ks) id = (dropL l' [id], ks) := by unfold dropStep; dsimp only; rw [if_pos hh]
      rw [hds] at HNX
      have HH := Lib.hid hh; clear hh hds
      gi_wp2_with (first
        | (refine ⟨trivial, ?_⟩; gi_at_call 101; refine (callsIn_wide.2 HWO.out).mono ?_; rintro e wb ⟨A6, n6, c6, rfl, ho6, hb6⟩
           have hb7 := (hbWa.trans (hb6.mono hbWa.size)).alloc (hbWa.trans (hb6.mono hbWa.size)).size (.cells #[.int .i64 p, .slice A6 n6 c6] 70)
           have HB7 := Lib.hid hb7
           have hgo := HGO.out _ A6 n6 c6 _ HOK2.out ((OwnB.rd ho6).1.alloc (.cells #[.int .i64 p, .slice A6 n6 c6] 70)) (hbe.trans (hb7.mono hbe.size))
           rw [HH.out] at hgo
           have HGG := Lib.hid hgo
           have HO6 := Lib.hid (show OwnB (wb.alloc (.cells #[.int .i64 p, .slice A6 n6 c6] 70)) _ A6 n6 c6 _ from World.ownsRow.alloc ho6 _)
           have y1 : (wb.alloc (.cells #[.int .i64 p, .slice A6 n6 c6] 70)).cell? ⟨w.heap.size + 1, 0, none⟩ = some (.func (.func 89) #[] #[.pointer (some ⟨Bu, 0, none⟩), .pointer (some ⟨Ba, 0, none⟩), .pointer (some ⟨Bb, 0, none⟩), .pointer (some ⟨Bn, 0, none⟩)]) := (H1.out.keep hb7).cell 0
           have N2 := Lib.hid (Blk.new wb 70 #[.int .i64 p, .slice A6 n6 c6])
           have y2 : (wb.alloc (.cells #[.int .i64 p, .slice A6 n6 c6] 70)).cell? ⟨wb.heap.size, 0, none⟩ = some (.int .i64 p) := N2.out.cell 0
           have y3 : (wb.alloc (.cells #[.int .i64 p, .slice A6 n6 c6] 70)).cell? ⟨wb.heap.size, 1, none⟩ = some (.slice A6 n6 c6) := N2.out.cell 1
           clear hgo ho6 hb6 hb7)
        | (refine ⟨trivial, ?_⟩; gi_at_call 89; refine (callsIn_wide.2 HGG.out).mono ?_; rintro e wd ⟨rfl, hb8⟩
           have HB8 := Lib.hid (HB7.out.trans (hb8.mono HB7.out.size))
           have HO8 := Lib.hid (owns_below HO6.out hb8)
           have y4 : wd.cell? ⟨wb.heap.size, 0, none⟩ = some (.int .i64 p) := (N2.out.keep hb8).cell 0
           have y5 : wd.cell? ⟨wb.heap.size, 1, none⟩ = some (.slice A6 n6 c6) := (N2.out.keep hb8).cell 1
           have y6 : wd.cell? ⟨w.heap.size, 0, none⟩ = some (.int .i64 p) := (H0.out.keep HB8.out).cell 0
           have y7 : wd.cell? ⟨w.heap.size, 1, none⟩ = some (.slice A2 n2 c2) := (H0.out.keep HB8.out).cell 1
           have y8 : wd.frozen? ⟨w.heap.size, 0, none⟩ = false := (H0.out.keep HB8.out).frozen 0
           have y9 : wd.frozen? ⟨w.heap.size, 1, none⟩ = false := (H0.out.keep HB8.out).frozen 1
           clear hb8))
      have hds8 := HB8.out.size
      refine ⟨((keepsFrom_below HB8.out).trans ((KeepsOthers.setCell _ _ _).from _)).trans ((KeepsOthers.setCell _ _ _).from _), ((keepQ_below HB8.out (by omega) (by omega)).trans (keepQ_set _ _ _ (by simp; omega) (by simp; omega))).trans (keepQ_set _ _ _ (by simp; omega) (by simp; omega)), ?_⟩
      show NeedI _ _ _ _ _ _ _ _ _
      unfold NeedI
      rw [HNX.out]
      dsimp only
      refine ⟨⟨A6, n6, c6, v2, HOK2.out, ?_, ?_, ?_, ?_, ?_⟩, ?_, ?_, ?_⟩
      · exact ((H0.out.keep HB8.out).set_ 0 (.int .i64 p)).set_ 1 (.slice A6 n6 c6)
      · right
        refine ownsRow_setCell_below (ownsRow_setCell_below ?_ (by simp) _) (by simp) _
        exact owns_base HO8.out (by rw [World.size_alloc]; omega)
      · exact (((H1.out.keep HB8.out)).far (by simp) _).far (by simp) _
      · exact (((H2.out.keep HB8.out)).far (by simp) _).far (by simp) _
      · exact ownsRow_setCell_below (ownsRow_setCell_below (owns_below HROW.out HB8.out) (by simp; omega) _) (by simp; omega) _
      · exact ((hbe.trans (HB8.out.mono hbe.size)).setCell (p := ⟨w.heap.size, 0, none⟩) (by simp) _).setCell (p := ⟨w.heap.size, 1, none⟩) (by simp) _
      · rw [hpl]; omega
      · simp; omega
  case done =>
    rintro D ys W hD hS ⟨⟨A2, n2, c2, v2, hok, h0, hsrc, h1, h2, hrow⟩, hbe, hlen, hbz⟩ hK
    have hvals : ys.map (fun q : Qv Wf => q.1.2) = (idsL l).reverse := by
      rw [← bwdK_values, ← hS, List.map_map]
      rfl
    rw [hvals] at hrow
    have hV : ((idsL l).reverse.foldl (dropStep holds) (l, [])).2.reverse = neededV holds l := rfl
    generalize ((idsL l).reverse.foldl (dropStep holds) (l, [])).2 = ks at *
    obtain ⟨A7, c7, hv7, -⟩ := own_form hrow
    subst hv7
    have hrv := reverse_any (w2.heap.size + 1) A7 ks.length c7 ks W hrow
    have u5 : W.cell? ⟨w.heap.size + 1 + 1, 0, none⟩ = some (.slice A7 ks.length c7) := h2.cell 0
    have H2 := Lib.hid h2; have HRV := Lib.hid hrv; have HROW := Lib.hid hrow; have HK := Lib.hid hK; have HV := Lib.hid hV; clear h0 hsrc h1 h2 hrow hrv hK hS hvals hV hok
    gi_wp2_with (refine ⟨trivial, ?_⟩; gi_at_call 115; refine (callsIn_wide.2 HRV.out).mono ?_; rintro e w5 ⟨rfl, ho5, hg5⟩; have HO5 := Lib.hid ho5; have HG5 := Lib.hid hg5; have y6 : w5.cell? ⟨w.heap.size + 1 + 1, 0, none⟩ = some (.slice A7 ks.length c7) := (blk_grown H2.out hg5 (fun e => by have := (HROW.out.lt _ e).1; omega)).cell 0; clear ho5 hg5)
    have hK' : w5.heap[D]? = some (.deferred (some [])) := (HG5.out.block D (Array.getElem?_eq_some_iff.1 HK.out).1 (fun e => by
      obtain ⟨cs, t, fr, h⟩ := row_cells HROW.out D e.symm
      rw [HK.out] at h
      cases h)).trans HK.out
    refine ⟨by simp, .inl ⟨_, _, rfl, run_takeDeferred hK', ?_⟩⟩
    refine ⟨_, results_tmp rfl _ _ _, A7, ks.length, c7, rfl, ?_, ?_⟩
    · rw [← HV.out]
      exact owns_base (row_own HO5.out (grownBy_putObj' w5 D _) (fun r e => by cases e; exact ⟨_, hK', rfl⟩)) (by omega)
    · exact (hbe.grown HG5.out hbe.size (fun q e => by have := (HROW.out.lt _ e).1; omega)).trans (belowK_b (w := w) (Nat.le_refl _) _ D _ _ (by rw [hW0s] at hD; omega) hK' rfl rfl)
  case stop =>
    rintro D c pre W _ _ h _
    exact h.elim

end Go.Proofs.Ythlnialipjihdaa
