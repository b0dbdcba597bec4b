/- slices.Backward at numbers: its iterator, for every loop body that keeps what it reads. -/
import Derived.Test.YthlnialipjihdaaSet
import Derived.Test.YthlnialipjihdaaOnw
import Derived.Test.YthlnialipjihdaaSolve
import Derived.Shelf.Slices.Reverse
import Derived.Sort.OwnSortedInts
set_option linter.unusedSimpArgs false
set_option linter.unusedVariables false
namespace Go.Proofs.Ythlnialipjihdaa
open Go.RowKit
attribute [local go_sem] Oper.semAt_some

/-- The elements of a list with their places, from its end, down to place k. -/
def bwdK (x : List Int) (k : Nat) : List (Nat × Int) := (List.range (x.length - k)).map (fun j => (x.length - 1 - j, at_ x (x.length - 1 - j)))
theorem bwdK_length (x : List Int) (k : Nat) : (bwdK x k).length = x.length - k := by simp [bwdK]
theorem bwdK_succ (x : List Int) {k : Nat} (h : k < x.length) : bwdK x k = bwdK x (k + 1) ++ [(k, at_ x k)] := by
  unfold bwdK
  rw [show x.length - k = (x.length - (k + 1)) + 1 from by omega, List.range_succ, List.map_append, List.map_cons, List.map_nil, show x.length - 1 - (x.length - (k + 1)) = k from by omega]
/-- A number and its place; of the number something holds. -/
abbrev Qv (Pv : Int → Prop) := { q : Nat × Int // Pv q.2 }
def encQ {Pv : Int → Prop} (q : Qv Pv) : Array Value := #[.int .i64 (q.1.1 : Int), .int .i64 q.1.2]

/-- What a round must keep: the box of the slice, and the slice's row. -/
def KeepQ (Bs Br : Nat) (W W' : World) : Prop := W.heap.size ≤ W'.heap.size ∧ W'.heap[Bs]? = W.heap[Bs]? ∧ W'.heap[Br]? = W.heap[Br]?
theorem KeepQ.refl (Bs Br : Nat) (W : World) : KeepQ Bs Br W W := ⟨Nat.le_refl _, rfl, rfl⟩
theorem KeepQ.trans {Bs Br : Nat} {A B C : World} (h : KeepQ Bs Br A B) (k : KeepQ Bs Br B C) : KeepQ Bs Br A C := ⟨Nat.le_trans h.1 k.1, k.2.1.trans h.2.1, k.2.2.trans h.2.2⟩

theorem RdI.move {w W : World} {A : Option Addr} {n c : Nat} {x : List Int} (h : RdI w A n c x) {Br : Nat} (hA : ∀ b o, A = some ⟨b, o, none⟩ → b = Br) (hsz : w.heap.size ≤ W.heap.size) (hb : W.heap[Br]? = w.heap[Br]?) : RdI W A n c x := by
  refine ⟨h.len, h.cap, h.nil, ?_⟩
  rcases h.cells with h1 | ⟨b, o, e, hlt, hc⟩
  · exact .inl h1
  · obtain rfl := hA b o e
    refine .inr ⟨b, o, e, by omega, fun j u hu => ?_⟩
    rw [← hc j u hu]
    simp [World.cell?, hb]

set_option maxRecDepth 100000 in
set_option maxHeartbeats 2000000 in
theorem bwd1_in {Pv : Int → Prop} (nn : Nat) (hn : 1 ≤ nn) (lp Bs Br n c : Nat) (A : Option Addr) (x : List Int) (hx0 : ∀ v ∈ x, Pv v) (hn400 : n ≤ 1000) (hA : ∀ b o, A = some ⟨b, o, none⟩ → b = Br)
    (J Jx : List (Qv Pv) → World → Prop) (w₀ : World) (hr : RdI w₀ A n c x)
    (hY : ∀ pre q W, J pre W → pre.length < x.length → YieldAt Fence.wide (nn - 1) Try.prog lp (encQ q) W fun e W' =>
      (e = .returned (.bool true) ∧ J (pre ++ [q]) W' ∧ KeepQ Bs Br W W') ∨ (e = .returned (.bool false) ∧ Jx (pre ++ [q]) W'))
    (W : World) (hW : KeepQ Br Br w₀ W) (hg : Blk W Bs 33 #[.slice A n c]) (h0 : J [] W) :
    CallsIn Fence.wide nn Try.prog 121 #[.func (.yield lp) #[] #[], .pointer (some ⟨Bs, 0, none⟩)] W fun e W' => (∃ v, e = .returned v) ∧
      ((∃ ys, ys.map (·.1) = bwdK x 0 ∧ J ys W') ∨ (∃ pre, True ∧ Jx pre W')) := by
  have HR := Lib.hid hr; have HA := Lib.hid hA; have HX0 := Lib.hid hx0; clear hr hA hx0
  have HL := Lib.hid HR.out.len
  have HG := Lib.hid hg; clear hg
  have hg1 : W.cell? ⟨Bs, 0, none⟩ = some (.slice A n c) := HG.out.cell 0
  refine callsIn_of_wp Try.func121 rfl trivial ?_ rfl
  simp only [Try.ntmps121, List.size_toArray, List.length_cons, List.length_nil, Nat.reduceAdd, Nat.reduceSub, Array.replicate_succ, Array.replicate_zero, List.push_toArray, List.append_toArray, List.nil_append, List.cons_append]
  gi_wp2
  gi_loopw [3] (fun i wr => ∃ (k : Nat) (z : Int), k ≤ n ∧ i = .int .i64 z ∧ z = (k : Int) - 1 ∧ (∃ ys, ys.map (·.1) = bwdK x k ∧ J ys wr) ∧ KeepQ Bs Br W wr)
    (fun i _ => (intOf i + 1).toNat)
  case atStart => exact ⟨n, (n : Int) - 1, Nat.le_refl _, rfl, rfl, ⟨[], by unfold bwdK; rw [HL.out, Nat.sub_self]; rfl, h0⟩, KeepQ.refl _ _ _⟩
  case round =>
    obtain ⟨k, z, hk, rfl, hz, ⟨ys, hys, hJs⟩, hkp⟩ := hrel
    have HYS := Lib.hid hys; clear hys
    by_cases hlt : 1 ≤ k
    · obtain ⟨d, rfl⟩ : ∃ d, k = d + 1 := ⟨k - 1, by omega⟩
      obtain rfl : z = (d : Int) := by omega
      clear hz
      have hdn : d < n := by omega
      have hlt' : (d : Int) < n := by omega
      have hrd := HR.out.move (W := wr) HA.out (Nat.le_trans hW.1 hkp.1) (hkp.2.2.trans hW.2.2)
      obtain ⟨b, o, v, hAe, hbw, hx, c0⟩ := hrd.get hdn
      subst hAe
      have hv : at_ x d = v := by simp [at_, hx]
      have hg2 : wr.cell? ⟨Bs, 0, none⟩ = some (.slice (some ⟨b, o, none⟩) n c) := Blk.cell (show Blk wr Bs 33 #[.slice (some ⟨b, o, none⟩) n c] from hkp.2.1.trans HG.out) 0
      have hsucc := bwdK_succ x (k := d) (by rw [HL.out]; exact hdn)
      rw [hv] at hsucc
      obtain ⟨q, hq⟩ : ∃ q : Qv Pv, q.1 = (d, v) := ⟨⟨(d, v), HX0.out v (List.mem_of_getElem? hx)⟩, rfl⟩
      have hyl : ys.length < x.length := by
        have h1 := congrArg List.length HYS.out
        rw [List.length_map, bwdK_length, HL.out] at h1
        rw [HL.out]; omega
      have hys2 : (ys ++ [q]).map (·.1) = bwdK x d := by rw [List.map_append, HYS.out, hsucc, List.map_cons, List.map_nil, hq]
      obtain ⟨fn, tmps, assign, body, hy, hR⟩ := hY ys q wr hJs hyl
      unfold encQ at hy
      rw [hq] at hy
      dsimp only at hy
      have HYS2 := Lib.hid hys2; clear hys2 hyl hq
      have hR2 := hR.mono (R' := fun e W' => ∃ bv : Bool, e = .returned (.bool bv) ∧ Hid ((bv = true ∧ J (ys ++ [q]) W' ∧ KeepQ Bs Br wr W') ∨ (bv = false ∧ Jx (ys ++ [q]) W')))
        (fun e W' h => h.elim (fun ⟨h1, h2⟩ => ⟨true, h1, .inl ⟨rfl, h2⟩⟩) (fun ⟨h1, h2⟩ => ⟨false, h1, .inr ⟨rfl, h2⟩⟩))
      have HSU := Lib.hid hsucc; clear hR hY hx hv hsucc hrd hJs
      gi_wp2_with fail
      refine hR2.mono ?_
      rintro e W3 ⟨bv, rfl, hbv⟩
      cases bv
      · obtain ⟨h1, -⟩ | ⟨-, hJx3⟩ := hbv.out
        · cases h1
        gi_wp2
        refine bodyPost_ret (results_none rfl _ _ _) rfl ?_
        exact ⟨⟨_, rfl⟩, .inr ⟨_, trivial, hJx3⟩⟩
      · obtain ⟨-, hJ3, hk4⟩ | ⟨h1, -⟩ := hbv.out
        · gi_wp2
          go_roundw
          case rel => exact ⟨d, (d : Int) - 1, by omega, by go_num, rfl, ⟨_, HYS2.out, hJ3⟩, hkp.trans hk4⟩
          case measure => simp [intOf]; try omega
        · cases h1
    · obtain rfl : k = 0 := by omega
      have hz' : z < 0 := by omega
      clear hz
      gi_wp2
      go_end0
      exact ⟨⟨_, rfl⟩, .inl ⟨_, HYS.out, hJs⟩⟩
end Go.Proofs.Ythlnialipjihdaa

/- slices.Reverse at numbers, and slices.Backward itself. -/
namespace Go.Proofs.Ythlnialipjihdaa
open Go.RowKit Go.Shelf Go.Sort

def revA_ren : Go.Shelf.Ren := ⟨fun | 112 => 115 | n => n, fun | 0 => 0 | 3 => 3 | 4 => 4 | 28 => 33 | n => n, fun | n => n⟩
theorem revA : Go.Proofs.Lays.n112 Try.prog revA_ren where
  mixed := by kernel_rfl
  f112 := Try.func115.trans (congrArg some (by kernel_rfl))
  t0 := Try.underlying0
  a0 := Try.isAgg0
  z0 := Try.sizeOf0
  v0 := Try.zeroValue0
  t3 := Try.underlying3
  a3 := Try.isAgg3
  z3 := Try.sizeOf3
  v3 := Try.zeroValue3
  t4 := Try.underlying4
  a4 := Try.isAgg4
  z4 := Try.sizeOf4
  v4 := Try.zeroValue4
  t28 := Try.underlying33
  a28 := Try.isAgg33
  z28 := Try.sizeOf33
  v28 := Try.zeroValue33

theorem reverse_any (base : Nat) (A : Option Addr) (n c : Nat) (x : List Int) (w : World) (h : OwnI w base A n c x) :
    Calls Try.prog 115 #[.slice A n c] w fun e w' => e = .returned (.tuple #[]) ∧ OwnI w' base A n c x.reverse ∧ w.grownBy w' (Value.slice A n c).ownBlock := by
  have hh := h
  obtain ⟨hlen, h⟩ := h
  rw [List.length_map, Nat.mul_one] at hlen
  rcases h with ⟨hv, hn⟩ | ⟨g, cap, cur, hv, hb, hg, hle, hm, hsz, ht⟩
  · injection hv with h1 h2 h3
    subst h1 h2 h3
    have hx : x = [] := List.length_eq_zero_iff.1 hlen
    subst hx
    refine (Any.slices_Reverse_int_empty revA none 0 w).mono ?_
    rintro e w' ⟨rfl, rfl⟩
    exact ⟨rfl, hh, World.grownBy.refl _ _⟩
  · injection hv with h1 h2 h3
    subst h1 h3
    subst hlen
    rw [Nat.mul_one] at ht
    refine (Any.slices_Reverse_int revA g 0 c x w (holds_of_blockI hg ht) (by unfold maxLen at hm; omega)).mono ?_
    rintro e w' ⟨rfl, m, rfl⟩
    have h2 := ownsRow_sortedI (w := w) (base := base) (n := m) (os := #[]) (ss := x) (ts := x.reverse) (by simp) hb hg hle hm hsz
    have h3 := grownBy_sortedI (w := w) (g := g) (n := m) (os := #[]) x.reverse.toArray
    rw [grow_empty] at h2 h3
    exact ⟨rfl, h2, h3⟩

theorem backward_any (A : Option Addr) (n c : Nat) (w : World) : Calls Try.prog 113 #[.slice A n c] w fun e w' =>
    e = .returned (.func (.func 121) #[] #[.pointer (some ⟨w.heap.size, 0, none⟩)]) ∧ w' = w.alloc (.cells #[.slice A n c] 33) := by
  go_enter Try.func113, Try.ntmps113
  go_wp2
  go_ret
  exact ⟨rfl, rfl⟩

theorem bwd_stops {Pv : Int → Prop} (nn : Nat) (hn : 1 ≤ nn) (Bs Br n c : Nat) (A : Option Addr) (x : List Int) (hx0 : ∀ v ∈ x, Pv v) (hn400 : n ≤ 1000) (hA : ∀ b o, A = some ⟨b, o, none⟩ → b = Br) (w₀ : World) (hr : RdI w₀ A n c x) (hB : Blk w₀ Bs 33 #[.slice A n c]) (hBr : Br < w₀.heap.size) :
    SeqStopsK Fence.wide nn Try.prog 121 #[.pointer (some ⟨Bs, 0, none⟩)] (encQ (Pv := Pv)) (KeepQ Bs Br) (fun ys => ys.map (·.1) = bwdK x 0) (fun _ => True) x.length w₀ := fun lp J Jx W hWw hJ _ hY h0 =>
  bwd1_in nn hn lp Bs Br n c A x hx0 hn400 hA J Jx w₀ hr hY W ⟨hWw.size, hWw.block Br hBr, hWw.block Br hBr⟩ (hB.keep hWw) h0

theorem bwdK_values (x : List Int) : (bwdK x 0).map (·.2) = x.reverse := by
  unfold bwdK
  rw [List.map_map, Nat.sub_zero]
  apply List.ext_getElem?
  intro i
  rw [List.getElem?_map]
  by_cases hi : i < x.length
  · rw [List.getElem?_range hi, List.getElem?_reverse hi]
    simp only [Option.map_some, Function.comp]
    unfold at_
    rw [List.getD_eq_getElem?_getD, List.getElem?_eq_getElem (by omega)]
    rfl
  · rw [List.getElem?_eq_none (by simpa using hi), List.getElem?_eq_none (by simpa using hi)]
    rfl
end Go.Proofs.Ythlnialipjihdaa
