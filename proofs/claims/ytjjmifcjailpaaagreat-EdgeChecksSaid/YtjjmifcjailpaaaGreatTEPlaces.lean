import Derived.Deep.OwnRows
import Derived.Test.YtjjmifcjailpaaaGreatTKeeps
import Derived.Test.YtjjmifcjailpaaaGreatTShz
import Derived.Test.YtjjmifcjailpaaaGreatTEWays
set_option maxHeartbeats 4000000
set_option linter.unusedSimpArgs false
set_option linter.unusedVariables false
namespace Go.Proofs.YtjjmifcjailpaaaGreat
open Go.RowKit
theorem kept_spec {p : Int} {l : List Bnd} {x : List Int} {q : Int} (h : keepsV p l x = (true, q)) : chk p l = 0 ∧ nums p x = true ∧ ∀ c ∈ l, look x c.t ≤ look x c.f + c.m := by
 unfold keepsV at h
 injection h with h _
 rw [Bool.and_eq_true, decide_eq_true_eq] at h
 obtain ⟨h1, h2⟩ := h
 unfold breaksV at h1 h2
 by_cases hk : chk p l = 0
 · rw [if_neg (by simpa using hk)] at h1 h2
   by_cases hn : nums p x = false
   · rw [if_pos hn] at h1; cases h1
   · rw [if_neg hn] at h1 h2
     refine ⟨hk, by simpa using hn, fun c hc => ?_⟩
     cases hf : l.findIdx? (fun b => !keepB x b) with
     | some i => rw [hf] at h2; cases h2
     | none =>
      rw [List.findIdx?_eq_none_iff] at hf
      have := hf c hc
      unfold keepB at this
      simp only [Bool.not_eq_false', decide_eq_true_eq] at this
      omega
 · rw [if_pos hk] at h1; exact absurd h1 hk
end Go.Proofs.YtjjmifcjailpaaaGreat
set_option linter.unusedSimpArgs false
set_option linter.unusedVariables false
namespace Go.Proofs.YtjjmifcjailpaaaGreat
open Go.RowKit
def near1 (v : Int) : Bool := decide (-100000000 ≤ v ∧ v ≤ 100000000)
def keptV (P : Int) (l : List Bnd) (x : List Int) : Bool := x.all near1 && (keepsV P l x).1
section
variable (P : Int) (A : Option Addr) (n k : Nat) (l : List Bnd) (w : World) (h1 : RdB w A n k l) (hn : n ≤ maxLen) (X : Option Addr) (xn xk : Nat) (x : List Int) (hx : RdI w X xn xk x) (hxm : xn ≤ maxLen)
include P A n k l w h1 hn X xn xk x hx hxm
set_option maxRecDepth 100000 in
theorem areKept_any :
 Calls Tryz.prog 92 #[.agg #[.int .i64 P, .slice A n k], .slice X xn xk] w fun e w' => e = .returned (.bool (keptV P l x)) ∧ Below w.heap.size w w' := by
 have hxm' := hxm
 unfold maxLen at hxm'
 have X0 := Lib.hid hx
 go_enter Tryz.func92, Tryz.ntmps92
 obtain ⟨a7, a3⟩ := ent1 w #[.int .i64 P, .slice A n k] 84
 have a9 := rI h1 a3
 have b0 := iI hx a3
 clear h1 hx
 obtain ⟨b1, b2⟩ := at2 a7
 go_wp2
 clear b1 b2
 go_loopw [11] (fun i wr => ∃ q : Nat, q ≤ xn ∧ i = .int .i64 q ∧ (x.take q).all near1 = true ∧ Blk wr w.heap.size 84 #[.int .i64 P, .slice A n k] ∧ RdB wr A n k l ∧ RdI wr X xn xk x ∧ Below w.heap.size w wr) (fun i _ => xn - (intOf i).toNat)
 case atStart => exact ⟨0, Nat.zero_le _, rfl, rfl, a7.out, a9.out, b0.out, a3.out⟩
 case round =>
  clear a3 a9 b0 a7
  obtain ⟨q, hq, rfl, hall, i1, i2, i3, i4⟩ := hrel
  have a1 := Lib.hid (i1)
  have a4 := Lib.hid (i2)
  have a2 := Lib.hid (i3)
  have a0 := Lib.hid (i4)
  clear i1 i2 i3 i4
  have HALL := Lib.hid hall; clear hall
  by_cases hlt : q < xn
  · have hlt' : (q : Int) < xn := by omega
    obtain ⟨xb, xo, v, hX, xlt, hxq, hxc⟩ := RdI.get (a2.out) hlt
    subst hX
    have HXQ := Lib.hid hxq; clear hxq
    obtain ⟨a5, a6⟩ := at2 a1
    by_cases hv1 : -100000000 ≤ v
    · by_cases hv2 : v ≤ 100000000
      · go_wp2
        go_roundw
        case rel => exact ⟨q + 1, by omega, by go_num, (by rw [List.take_add_one, HXQ.out, List.all_append, HALL.out]; simp [near1]; omega), a1.out, a4.out, a2.out, a0.out⟩
        case measure => simp [intOf]; omega
      · go_wp2
        go_ret
        exact ⟨ret_bool (by unfold keptV; rw [List.all_eq_false.2 ⟨v, List.mem_of_getElem? HXQ.out, by simp [near1]; omega⟩]; rfl), a0.out⟩
    · go_wp2
      go_ret
      exact ⟨ret_bool (by unfold keptV; rw [List.all_eq_false.2 ⟨v, List.mem_of_getElem? HXQ.out, by simp [near1]; omega⟩]; rfl), a0.out⟩
  · obtain rfl : xn = q := by omega
    obtain ⟨a5, a6⟩ := at2 a1
    have hall := HALL.out; rw [List.take_of_length_le (by rw [X0.out.len]; omega)] at hall
    have HA2 := Lib.hid hall; clear hall
    obtain ⟨V, hV⟩ : ∃ V, keepsV P l x = V := ⟨_, rfl⟩
    have hc := Keeps_any P A X n k xn xk l x _ a4.out hn a2.out hxm
    rw [hV] at hc
    have HV := Lib.hid hV; clear hV
    obtain ⟨V1, V2⟩ := V
    dsimp only at hc
    have hc := hc
    have HC := Lib.hid hc; clear hc
    go_wp2_with fail
    refine HC.out.mono ?_
    rintro e b3 ⟨rfl, hb⟩
    clear HC
    clear a5 a6
    have a8 := Lib.hid hb
    clear hb
    go_wp2
    go_ret
    replace a0 := bH a0 a8
    exact ⟨ret_bool (by unfold keptV; rw [HA2.out, HV.out]; rfl), a0.out⟩
theorem areKept_is (b : Bool) (hb : keptV P l x = b) :
 Calls Tryz.prog 92 #[.agg #[.int .i64 P, .slice A n k], .slice X xn xk] w fun e w' => e = .returned (.bool b) ∧ Below w.heap.size w w' := by
 subst hb
 exact areKept_any P A n k l w h1 hn X xn xk x hx hxm
end
def tieW (p : Prg) (xa xb : List Int) (q : Int) : Bool := decide (look xa (p.af + p.bt - q) - look xa p.af = look xb p.bt - look xb q)
def tieT (p : Prg) (ya yb : List Int) (q : Int) : Bool := decide (look ya (p.af + p.bt - 1 - q) - look ya p.af = look yb q - look yb (p.bt - 1))
def ties (p : Prg) (xa xb ya yb : List Int) (n : Nat) : Bool := (List.range n).all fun j => tieW p xa xb (p.bf + j) && tieT p ya yb (p.bf + j)
def plB (a b : Otl) (p : Prg) (xa xb ya yb : List Int) : Bool :=
 keptV (a.c + 1) a.ws xa && keptV (b.c + 1) b.ws xb && keptV a.c a.ts ya && keptV b.c b.ts yb && ties p xa xb ya yb (p.bt - p.bf).toNat
theorem ties_succ (p : Prg) (xa xb ya yb : List Int) (n : Nat) : ties p xa xb ya yb (n + 1) = (ties p xa xb ya yb n && (tieW p xa xb (p.bf + n) && tieT p ya yb (p.bf + n))) := by
 unfold ties
 rw [List.range_succ, List.all_append]
 simp
theorem ties_no {p : Prg} {xa xb ya yb : List Int} {n j : Nat} (hj : j < n) (h : (tieW p xa xb (p.bf + j) && tieT p ya yb (p.bf + j)) = false) : ties p xa xb ya yb n = false := by
 unfold ties
 rw [List.all_eq_false]
 exact ⟨j, List.mem_range.2 hj, by simpa using h⟩
theorem kept_facts {P : Int} {l : List Bnd} {x : List Int} (h : keptV P l x = true) : (x.length : Int) = P ∧ ∀ i, i < x.length → -100000000 ≤ at_ x i ∧ at_ x i ≤ 100000000 := by
 unfold keptV at h
 rw [Bool.and_eq_true] at h
 obtain ⟨h1, h2⟩ := h
 obtain ⟨-, hn, -⟩ := kept_spec (q := (keepsV P l x).2) (Prod.ext h2 rfl)
 refine ⟨(nums_at hn).1, fun i hi => ?_⟩
 have := List.all_eq_true.1 h1 (x[i]) (List.getElem_mem hi)
 simp only [near1, decide_eq_true_eq] at this
 simpa [at_, List.getD_eq_getElem?_getD, List.getElem?_eq_getElem hi] using this
theorem get_of {x : List Int} {i : Nat} (h : i < x.length) : x[i]? = some (at_ x i) := by
 simp [at_, List.getD_eq_getElem?_getD, List.getElem?_eq_getElem h]
set_option maxRecDepth 100000 in
theorem isPlacement_any (c : Int) (A B : Option Addr) (n k m j : Nat) (ws ts : List Bnd) (d : Int) (C D : Option Addr) (n2 k2 m2 j2 : Nat) (ws2 ts2 : List Bnd) (p1 p2 p3 p4 : Nat) (X1 : Option Addr) (x1 k1 : Nat) (xa : List Int) (X2 : Option Addr) (x2 k2x : Nat) (xb : List Int) (X3 : Option Addr) (x3 k3 : Nat) (ya : List Int) (X4 : Option Addr) (x4 k4 : Nat) (yb : List Int) (w : World) (h1 : RdB w A n k ws) (h2 : RdB w B m j ts) (hn : n ≤ maxLen) (hm : m ≤ maxLen) (h3 : RdB w C n2 k2 ws2) (h4 : RdB w D m2 j2 ts2) (hn2 : n2 ≤ maxLen) (hm2 : m2 ≤ maxLen) (hx0 : RdI w X1 x1 k1 xa) (hl0 : x1 ≤ maxLen) (hx1 : RdI w X2 x2 k2x xb) (hl1 : x2 ≤ maxLen) (hx2 : RdI w X3 x3 k3 ya) (hl2 : x3 ≤ maxLen) (hx3 : RdI w X4 x4 k4 yb) (hl3 : x4 ≤ maxLen) (hq : chkP ⟨c, ws, ts⟩ ⟨d, ws2, ts2⟩ ⟨p1, p2, p3, p4⟩ = 0) :
 Calls Tryz.prog 51 #[.agg #[.int .i64 c, .slice A n k, .slice B m j, .int .i64 d, .slice C n2 k2, .slice D m2 j2, .int .i64 p1, .int .i64 p2, .int .i64 p3, .int .i64 p4], .agg #[.slice X1 x1 k1, .slice X2 x2 k2x, .slice X3 x3 k3, .slice X4 x4 k4]] w fun e w' => e = .returned (.bool (plB ⟨c, ws, ts⟩ ⟨d, ws2, ts2⟩ ⟨p1, p2, p3, p4⟩ xa xb ya yb)) ∧ Below w.heap.size w w' := by
 obtain ⟨oa, ob, sa, sb, hk⟩ := chkP_ok hq
 obtain ⟨ga1, ga2, -, -⟩ := chkO_ok oa
 obtain ⟨gb1, gb2, -, -⟩ := chkO_ok ob
 dsimp only at sa sb hk ga1 ga2 gb1 gb2
 clear oa ob hq
 unfold plB
 dsimp only
 obtain ⟨b1, e1⟩ : ∃ b, keptV (d + 1) ws2 xb = b := ⟨_, rfl⟩
 obtain ⟨b2, e2⟩ : ∃ b, keptV c ts ya = b := ⟨_, rfl⟩
 obtain ⟨b3, e3⟩ : ∃ b, keptV d ts2 yb = b := ⟨_, rfl⟩
 rw [e1, e2, e3]
 have EK1 := Lib.hid e1; have EK2 := Lib.hid e2; have EK3 := Lib.hid e3; clear e1 e2 e3
 cases e0 : keptV (c + 1) ws xa
 · have EK0 := Lib.hid e0; clear e0
   simp only [Bool.false_and]
   go_enter Tryz.func51, Tryz.ntmps51
   obtain ⟨a6, a7, a8⟩ := ent2 w #[.int .i64 c, .slice A n k, .slice B m j, .int .i64 d, .slice C n2 k2, .slice D m2 j2, .int .i64 p1, .int .i64 p2, .int .i64 p3, .int .i64 p4] 74 #[.slice X1 x1 k1, .slice X2 x2 k2x, .slice X3 x3 k3, .slice X4 x4 k4] 36
   have b5 := rI h1 a8
   have b6 := rI h2 a8
   have c0 := rI h3 a8
   have c1 := rI h4 a8
   have b4 := iI hx0 a8
   have b7 := iI hx1 a8
   have a9 := iI hx2 a8
   have b0 := iI hx3 a8
   clear h1 h2 h3 h4 hx0 hx1 hx2 hx3
   go_wp2_with fail
   replace a8 := bD a8
   replace b5 := rD b5
   replace b6 := rD b6
   replace c0 := rD c0
   replace c1 := rD c1
   replace b4 := iD b4
   replace b7 := iD b7
   replace a9 := iD a9
   replace b0 := iD b0
   replace a6 := kD a6
   replace a7 := kD a7
   refine wp_region_held_drew (S := (fun W' => Blk W' (w.heap.size) 74 #[.int .i64 c, .slice A n k, .slice B m j, .int .i64 d, .slice C n2 k2, .slice D m2 j2, .int .i64 p1, .int .i64 p2, .int .i64 p3, .int .i64 p4] ∧ Blk W' (w.heap.size + 1) 36 #[.slice X1 x1 k1, .slice X2 x2 k2x, .slice X3 x3 k3, .slice X4 x4 k4])) (by kernel_rfl) ⟨a6.out, a7.out⟩ (fun _ => ?_)
   obtain ⟨s7, f7⟩ : ∃ w', w' = (((w.alloc (.cells #[.int .i64 c, .slice A n k, .slice B m j, .int .i64 d, .slice C n2 k2, .slice D m2 j2, .int .i64 p1, .int .i64 p2, .int .i64 p3, .int .i64 p4] 74)).alloc (.cells #[.slice X1 x1 k1, .slice X2 x2 k2x, .slice X3 x3 k3, .slice X4 x4 k4] 36)).drew) := ⟨_, rfl⟩
   rw [← f7] at a8 b5 b6 c0 c1 b4 b7 a9 b0 a6 a7
   rw [← f7]
   clear f7
   refine' twH 0 ⟨a6.out, a7.out⟩ ?_
   refine' twH 1 ⟨a6.out, a7.out⟩ ?_
   refine' tkH 2 ⟨a6.out, a7.out⟩ ?g9 ?_
   case g9 => (rintro W' ⟨hS0, hS1⟩; have hc0 := Blk.nth hS0 0; have hc1 := Blk.nth hS0 1; have hc2 := Blk.nth hS0 2; clear hS0 hS1; go_simp; try with_reducible rfl)
   refine' twH 4 ⟨a6.out, a7.out⟩ ?_
   try simp only [Act.put, qsA, qsZ, qsS]
   refine' tkH 5 ⟨a6.out, a7.out⟩ ?h0 ?_
   case h0 => (rintro W' ⟨hS0, hS1⟩; have hc0 := Blk.nth hS1 0; clear hS0 hS1; go_simp; try with_reducible rfl)
   try simp only [Act.put, qsA, qsZ, qsS]
   refine oneH 3 rfl fun K hK => ?_
   go_simp
   go_at_call 93
   refine (ownWays_any c A B n k m j _ (by omega) (by omega)).mono ?_
   rintro e s8 ⟨rfl, d3⟩
   dsimp only
   replace d3 := Lib.hid d3
   replace a6 := kH a6 d3
   replace a7 := kH a7 d3
   refine hK.out _ _ ⟨a6.out, a7.out⟩ (fun _ => ?_); clear hK K
   try simp only [Act.put, qsA, qsZ, qsS]
   refine oneH 6 rfl fun K hK => ?_
   replace b5 := rH b5 d3
   replace b4 := iH b4 d3
   go_simp
   go_at_call 92
   refine (areKept_is (c + 1) A n k ws _ b5.out hn X1 x1 k1 xa b4.out hl0 _ EK0.out).mono ?_
   rintro e s9 ⟨rfl, f4⟩
   dsimp only
   replace f4 := Lib.hid f4
   replace a6 := kH a6 f4
   replace a7 := kH a7 f4
   refine hK.out _ _ ⟨a6.out, a7.out⟩ (fun _ => ?_); clear hK K
   try simp only [Act.put, qsA, qsZ, qsS]
   refine' twH 7 ⟨a6.out, a7.out⟩ ?_
   refine' twH 8 ⟨a6.out, a7.out⟩ ?_
   refine' tkNH 9 ⟨a6.out, a7.out⟩ ?_
   refine' tkNH 10 ⟨a6.out, a7.out⟩ ?_
   try simp only [Act.put, qsA, qsZ, qsS]
   refine' tkNH 11 ⟨a6.out, a7.out⟩ ?_
   refine' tkNH 12 ⟨a6.out, a7.out⟩ ?_
   refine' tkNH 13 ⟨a6.out, a7.out⟩ ?_
   refine' tkNH 14 ⟨a6.out, a7.out⟩ ?_
   try simp only [Act.put, qsA, qsZ, qsS]
   refine' tkNH 15 ⟨a6.out, a7.out⟩ ?_
   refine' tkNH 16 ⟨a6.out, a7.out⟩ ?_
   refine' twH 17 ⟨a6.out, a7.out⟩ ?_
   try simp only [Act.put, qsA, qsZ, qsS]
   refine wpAnyH_done (by kernel_rfl) ?_ _
   go_wp2
   go_ret
   replace a8 := bH (bH a8 d3) f4
   exact ⟨rfl, a8.out⟩
 · have EK0 := Lib.hid e0; clear e0
   go_enter Tryz.func51, Tryz.ntmps51
   obtain ⟨a6, a7, a8⟩ := ent2 w #[.int .i64 c, .slice A n k, .slice B m j, .int .i64 d, .slice C n2 k2, .slice D m2 j2, .int .i64 p1, .int .i64 p2, .int .i64 p3, .int .i64 p4] 74 #[.slice X1 x1 k1, .slice X2 x2 k2x, .slice X3 x3 k3, .slice X4 x4 k4] 36
   have b5 := rI h1 a8
   have b6 := rI h2 a8
   have c0 := rI h3 a8
   have c1 := rI h4 a8
   have b4 := iI hx0 a8
   have b7 := iI hx1 a8
   have a9 := iI hx2 a8
   have b0 := iI hx3 a8
   clear h1 h2 h3 h4 hx0 hx1 hx2 hx3
   go_wp2_with fail
   replace a8 := bD a8
   replace b5 := rD b5
   replace b6 := rD b6
   replace c0 := rD c0
   replace c1 := rD c1
   replace b4 := iD b4
   replace b7 := iD b7
   replace a9 := iD a9
   replace b0 := iD b0
   replace a6 := kD a6
   replace a7 := kD a7
   refine wp_region_held_drew (S := (fun W' => Blk W' (w.heap.size) 74 #[.int .i64 c, .slice A n k, .slice B m j, .int .i64 d, .slice C n2 k2, .slice D m2 j2, .int .i64 p1, .int .i64 p2, .int .i64 p3, .int .i64 p4] ∧ Blk W' (w.heap.size + 1) 36 #[.slice X1 x1 k1, .slice X2 x2 k2x, .slice X3 x3 k3, .slice X4 x4 k4])) (by kernel_rfl) ⟨a6.out, a7.out⟩ (fun _ => ?_)
   obtain ⟨t0, f8⟩ : ∃ w', w' = (((w.alloc (.cells #[.int .i64 c, .slice A n k, .slice B m j, .int .i64 d, .slice C n2 k2, .slice D m2 j2, .int .i64 p1, .int .i64 p2, .int .i64 p3, .int .i64 p4] 74)).alloc (.cells #[.slice X1 x1 k1, .slice X2 x2 k2x, .slice X3 x3 k3, .slice X4 x4 k4] 36)).drew) := ⟨_, rfl⟩
   rw [← f8] at a8 b5 b6 c0 c1 b4 b7 a9 b0 a6 a7
   rw [← f8]
   clear f8
   refine' twH 0 ⟨a6.out, a7.out⟩ ?_
   refine' twH 1 ⟨a6.out, a7.out⟩ ?_
   refine' tkH 2 ⟨a6.out, a7.out⟩ ?h5 ?_
   case h5 => (rintro W' ⟨hS0, hS1⟩; have hc0 := Blk.nth hS0 0; have hc1 := Blk.nth hS0 1; have hc2 := Blk.nth hS0 2; clear hS0 hS1; go_simp; try with_reducible rfl)
   refine' twH 4 ⟨a6.out, a7.out⟩ ?_
   try simp only [Act.put, qsA, qsZ, qsS]
   refine' tkH 5 ⟨a6.out, a7.out⟩ ?h6 ?_
   case h6 => (rintro W' ⟨hS0, hS1⟩; have hc0 := Blk.nth hS1 0; clear hS0 hS1; go_simp; try with_reducible rfl)
   try simp only [Act.put, qsA, qsZ, qsS]
   refine oneH 3 rfl fun K hK => ?_
   go_simp
   go_at_call 93
   refine (ownWays_any c A B n k m j _ (by omega) (by omega)).mono ?_
   rintro e t1 ⟨rfl, c4⟩
   dsimp only
   replace c4 := Lib.hid c4
   replace a6 := kH a6 c4
   replace a7 := kH a7 c4
   refine hK.out _ _ ⟨a6.out, a7.out⟩ (fun _ => ?_); clear hK K
   try simp only [Act.put, qsA, qsZ, qsS]
   refine oneH 6 rfl fun K hK => ?_
   replace b5 := rH b5 c4
   replace b4 := iH b4 c4
   go_simp
   go_at_call 92
   refine (areKept_is (c + 1) A n k ws _ b5.out hn X1 x1 k1 xa b4.out hl0 _ EK0.out).mono ?_
   rintro e t2 ⟨rfl, c5⟩
   dsimp only
   replace c5 := Lib.hid c5
   replace a6 := kH a6 c5
   replace a7 := kH a7 c5
   refine hK.out _ _ ⟨a6.out, a7.out⟩ (fun _ => ?_); clear hK K
   try simp only [Act.put, qsA, qsZ, qsS]
   refine' twH 7 ⟨a6.out, a7.out⟩ ?_
   refine' twH 8 ⟨a6.out, a7.out⟩ ?_
   refine' twH 9 ⟨a6.out, a7.out⟩ ?_
   refine' twH 10 ⟨a6.out, a7.out⟩ ?_
   try simp only [Act.put, qsA, qsZ, qsS]
   refine' tkH 11 ⟨a6.out, a7.out⟩ ?h7 ?_
   case h7 => (rintro W' ⟨hS0, hS1⟩; have hc0 := Blk.nth hS0 3; have hc1 := Blk.nth hS0 4; have hc2 := Blk.nth hS0 5; clear hS0 hS1; go_simp; try with_reducible rfl)
   refine' twH 13 ⟨a6.out, a7.out⟩ ?_
   refine' tkH 14 ⟨a6.out, a7.out⟩ ?h8 ?_
   case h8 => (rintro W' ⟨hS0, hS1⟩; have hc0 := Blk.nth hS1 1; clear hS0 hS1; go_simp; try with_reducible rfl)
   try simp only [Act.put, qsA, qsZ, qsS]
   refine oneH 12 rfl fun K hK => ?_
   go_simp
   go_at_call 93
   refine (ownWays_any d C D n2 k2 m2 j2 _ (by omega) (by omega)).mono ?_
   rintro e t3 ⟨rfl, c6⟩
   dsimp only
   replace c6 := Lib.hid c6
   replace a6 := kH a6 c6
   replace a7 := kH a7 c6
   refine hK.out _ _ ⟨a6.out, a7.out⟩ (fun _ => ?_); clear hK K
   try simp only [Act.put, qsA, qsZ, qsS]
   refine oneH 15 rfl fun K hK => ?_
   replace c0 := rH (rH (rH c0 c4) c5) c6
   replace b7 := iH (iH (iH b7 c4) c5) c6
   go_simp
   go_at_call 92
   refine (areKept_is (d + 1) C n2 k2 ws2 _ c0.out hn2 X2 x2 k2x xb b7.out hl1 _ EK1.out).mono ?_
   rintro e h9 ⟨rfl, c7⟩
   dsimp only
   replace c7 := Lib.hid c7
   replace a6 := kH a6 c7
   replace a7 := kH a7 c7
   refine hK.out _ _ ⟨a6.out, a7.out⟩ (fun _ => ?_); clear hK K
   try simp only [Act.put, qsA, qsZ, qsS]
   refine' twH 16 ⟨a6.out, a7.out⟩ ?_
   refine' twH 17 ⟨a6.out, a7.out⟩ ?_
   try simp only [Act.put, qsA, qsZ, qsS]
   refine wpAnyH_done (by kernel_rfl) ?_ _
   replace a8 := bH (bH (bH (bH a8 c4) c5) c6) c7
   replace b5 := rH (rH (rH b5 c5) c6) c7
   replace b6 := rH (rH (rH (rH b6 c4) c5) c6) c7
   replace c0 := rH c0 c7
   replace c1 := rH (rH (rH (rH c1 c4) c5) c6) c7
   replace b4 := iH (iH (iH b4 c5) c6) c7
   replace b7 := iH b7 c7
   replace a9 := iH (iH (iH (iH a9 c4) c5) c6) c7
   replace b0 := iH (iH (iH (iH b0 c4) c5) c6) c7
   cases b1
   · go_wp2
     go_ret
     exact ⟨rfl, a8.out⟩
   · go_wp2_with fail
     cases b2
     · replace a8 := bD a8
       replace b5 := rD b5
       replace b6 := rD b6
       replace c0 := rD c0
       replace c1 := rD c1
       replace b4 := iD b4
       replace b7 := iD b7
       replace a9 := iD a9
       replace b0 := iD b0
       replace a6 := kD a6
       replace a7 := kD a7
       refine wp_region_held_drew (S := (fun W' => Blk W' (w.heap.size) 74 #[.int .i64 c, .slice A n k, .slice B m j, .int .i64 d, .slice C n2 k2, .slice D m2 j2, .int .i64 p1, .int .i64 p2, .int .i64 p3, .int .i64 p4] ∧ Blk W' (w.heap.size + 1) 36 #[.slice X1 x1 k1, .slice X2 x2 k2x, .slice X3 x3 k3, .slice X4 x4 k4])) (by kernel_rfl) ⟨a6.out, a7.out⟩ (fun _ => ?_)
       obtain ⟨t4, f9⟩ : ∃ w', w' = (h9.drew) := ⟨_, rfl⟩
       rw [← f9] at a8 b5 b6 c0 c1 b4 b7 a9 b0 a6 a7
       rw [← f9]
       clear f9
       refine' twH 0 ⟨a6.out, a7.out⟩ ?_
       refine' twH 1 ⟨a6.out, a7.out⟩ ?_
       refine' tkH 2 ⟨a6.out, a7.out⟩ ?i9 ?_
       case i9 => (rintro W' ⟨hS0, hS1⟩; have hc0 := Blk.nth hS0 0; have hc1 := Blk.nth hS0 1; have hc2 := Blk.nth hS0 2; clear hS0 hS1; go_simp; try with_reducible rfl)
       refine' twH 4 ⟨a6.out, a7.out⟩ ?_
       try simp only [Act.put, qsA, qsZ, qsS]
       refine' tkH 5 ⟨a6.out, a7.out⟩ ?j0 ?_
       case j0 => (rintro W' ⟨hS0, hS1⟩; have hc0 := Blk.nth hS1 2; clear hS0 hS1; go_simp; try with_reducible rfl)
       try simp only [Act.put, qsA, qsZ, qsS]
       refine oneH 3 rfl fun K hK => ?_
       go_simp
       go_at_call 93
       refine (ownTurns_any c A B n k m j _).mono ?_
       rintro e t5 ⟨rfl, d4⟩
       dsimp only
       replace d4 := Lib.hid d4
       replace a6 := kH a6 d4
       replace a7 := kH a7 d4
       refine hK.out _ _ ⟨a6.out, a7.out⟩ (fun _ => ?_); clear hK K
       try simp only [Act.put, qsA, qsZ, qsS]
       refine oneH 6 rfl fun K hK => ?_
       replace b6 := rH b6 d4
       replace a9 := iH a9 d4
       go_simp
       go_at_call 92
       refine (areKept_is c B m j ts _ b6.out hm X3 x3 k3 ya a9.out hl2 _ EK2.out).mono ?_
       rintro e t6 ⟨rfl, f5⟩
       dsimp only
       replace f5 := Lib.hid f5
       replace a6 := kH a6 f5
       replace a7 := kH a7 f5
       refine hK.out _ _ ⟨a6.out, a7.out⟩ (fun _ => ?_); clear hK K
       try simp only [Act.put, qsA, qsZ, qsS]
       refine' twH 7 ⟨a6.out, a7.out⟩ ?_
       refine' twH 8 ⟨a6.out, a7.out⟩ ?_
       refine' tkNH 9 ⟨a6.out, a7.out⟩ ?_
       refine' tkNH 10 ⟨a6.out, a7.out⟩ ?_
       try simp only [Act.put, qsA, qsZ, qsS]
       refine' tkNH 11 ⟨a6.out, a7.out⟩ ?_
       refine' tkNH 12 ⟨a6.out, a7.out⟩ ?_
       refine' tkNH 13 ⟨a6.out, a7.out⟩ ?_
       refine' tkNH 14 ⟨a6.out, a7.out⟩ ?_
       try simp only [Act.put, qsA, qsZ, qsS]
       refine' tkNH 15 ⟨a6.out, a7.out⟩ ?_
       refine' tkNH 16 ⟨a6.out, a7.out⟩ ?_
       refine' twH 17 ⟨a6.out, a7.out⟩ ?_
       try simp only [Act.put, qsA, qsZ, qsS]
       refine wpAnyH_done (by kernel_rfl) ?_ _
       go_wp2
       go_ret
       replace a8 := bH (bH a8 d4) f5
       exact ⟨rfl, a8.out⟩
     · replace a8 := bD a8
       replace b5 := rD b5
       replace b6 := rD b6
       replace c0 := rD c0
       replace c1 := rD c1
       replace b4 := iD b4
       replace b7 := iD b7
       replace a9 := iD a9
       replace b0 := iD b0
       replace a6 := kD a6
       replace a7 := kD a7
       refine wp_region_held_drew (S := (fun W' => Blk W' (w.heap.size) 74 #[.int .i64 c, .slice A n k, .slice B m j, .int .i64 d, .slice C n2 k2, .slice D m2 j2, .int .i64 p1, .int .i64 p2, .int .i64 p3, .int .i64 p4] ∧ Blk W' (w.heap.size + 1) 36 #[.slice X1 x1 k1, .slice X2 x2 k2x, .slice X3 x3 k3, .slice X4 x4 k4])) (by kernel_rfl) ⟨a6.out, a7.out⟩ (fun _ => ?_)
       obtain ⟨t7, g0⟩ : ∃ w', w' = (h9.drew) := ⟨_, rfl⟩
       rw [← g0] at a8 b5 b6 c0 c1 b4 b7 a9 b0 a6 a7
       rw [← g0]
       clear g0
       refine' twH 0 ⟨a6.out, a7.out⟩ ?_
       refine' twH 1 ⟨a6.out, a7.out⟩ ?_
       refine' tkH 2 ⟨a6.out, a7.out⟩ ?j1 ?_
       case j1 => (rintro W' ⟨hS0, hS1⟩; have hc0 := Blk.nth hS0 0; have hc1 := Blk.nth hS0 1; have hc2 := Blk.nth hS0 2; clear hS0 hS1; go_simp; try with_reducible rfl)
       refine' twH 4 ⟨a6.out, a7.out⟩ ?_
       try simp only [Act.put, qsA, qsZ, qsS]
       refine' tkH 5 ⟨a6.out, a7.out⟩ ?j3 ?_
       case j3 => (rintro W' ⟨hS0, hS1⟩; have hc0 := Blk.nth hS1 2; clear hS0 hS1; go_simp; try with_reducible rfl)
       try simp only [Act.put, qsA, qsZ, qsS]
       refine oneH 3 rfl fun K hK => ?_
       go_simp
       go_at_call 93
       refine (ownTurns_any c A B n k m j _).mono ?_
       rintro e t8 ⟨rfl, c8⟩
       dsimp only
       replace c8 := Lib.hid c8
       replace a6 := kH a6 c8
       replace a7 := kH a7 c8
       refine hK.out _ _ ⟨a6.out, a7.out⟩ (fun _ => ?_); clear hK K
       try simp only [Act.put, qsA, qsZ, qsS]
       refine oneH 6 rfl fun K hK => ?_
       replace b6 := rH b6 c8
       replace a9 := iH a9 c8
       go_simp
       go_at_call 92
       refine (areKept_is c B m j ts _ b6.out hm X3 x3 k3 ya a9.out hl2 _ EK2.out).mono ?_
       rintro e t9 ⟨rfl, c9⟩
       dsimp only
       replace c9 := Lib.hid c9
       replace a6 := kH a6 c9
       replace a7 := kH a7 c9
       refine hK.out _ _ ⟨a6.out, a7.out⟩ (fun _ => ?_); clear hK K
       try simp only [Act.put, qsA, qsZ, qsS]
       refine' twH 7 ⟨a6.out, a7.out⟩ ?_
       refine' twH 8 ⟨a6.out, a7.out⟩ ?_
       refine' twH 9 ⟨a6.out, a7.out⟩ ?_
       refine' twH 10 ⟨a6.out, a7.out⟩ ?_
       try simp only [Act.put, qsA, qsZ, qsS]
       refine' tkH 11 ⟨a6.out, a7.out⟩ ?j4 ?_
       case j4 => (rintro W' ⟨hS0, hS1⟩; have hc0 := Blk.nth hS0 3; have hc1 := Blk.nth hS0 4; have hc2 := Blk.nth hS0 5; clear hS0 hS1; go_simp; try with_reducible rfl)
       refine' twH 13 ⟨a6.out, a7.out⟩ ?_
       refine' tkH 14 ⟨a6.out, a7.out⟩ ?j5 ?_
       case j5 => (rintro W' ⟨hS0, hS1⟩; have hc0 := Blk.nth hS1 3; clear hS0 hS1; go_simp; try with_reducible rfl)
       try simp only [Act.put, qsA, qsZ, qsS]
       refine oneH 12 rfl fun K hK => ?_
       go_simp
       go_at_call 93
       refine (ownTurns_any d C D n2 k2 m2 j2 _).mono ?_
       rintro e u0 ⟨rfl, d0⟩
       dsimp only
       replace d0 := Lib.hid d0
       replace a6 := kH a6 d0
       replace a7 := kH a7 d0
       refine hK.out _ _ ⟨a6.out, a7.out⟩ (fun _ => ?_); clear hK K
       try simp only [Act.put, qsA, qsZ, qsS]
       refine oneH 15 rfl fun K hK => ?_
       replace c1 := rH (rH (rH c1 c8) c9) d0
       replace b0 := iH (iH (iH b0 c8) c9) d0
       go_simp
       go_at_call 92
       refine (areKept_is d D m2 j2 ts2 _ c1.out hm2 X4 x4 k4 yb b0.out hl3 _ EK3.out).mono ?_
       rintro e r1 ⟨rfl, d1⟩
       dsimp only
       replace d1 := Lib.hid d1
       replace a6 := kH a6 d1
       replace a7 := kH a7 d1
       refine hK.out _ _ ⟨a6.out, a7.out⟩ (fun _ => ?_); clear hK K
       try simp only [Act.put, qsA, qsZ, qsS]
       refine' twH 16 ⟨a6.out, a7.out⟩ ?_
       refine' twH 17 ⟨a6.out, a7.out⟩ ?_
       try simp only [Act.put, qsA, qsZ, qsS]
       refine wpAnyH_done (by kernel_rfl) ?_ _
       replace a8 := bH (bH (bH (bH a8 c8) c9) d0) d1
       replace b5 := rH (rH (rH (rH b5 c8) c9) d0) d1
       replace b6 := rH (rH (rH b6 c9) d0) d1
       replace c0 := rH (rH (rH (rH c0 c8) c9) d0) d1
       replace c1 := rH c1 d1
       replace b4 := iH (iH (iH (iH b4 c8) c9) d0) d1
       replace b7 := iH (iH (iH (iH b7 c8) c9) d0) d1
       replace a9 := iH (iH (iH a9 c9) d0) d1
       replace b0 := iH b0 d1
       cases b3
       · go_wp2
         go_ret
         exact ⟨rfl, a8.out⟩
       · go_wp2_with fail
         replace a8 := bD a8
         replace b5 := rD b5
         replace b6 := rD b6
         replace c0 := rD c0
         replace c1 := rD c1
         replace b4 := iD b4
         replace b7 := iD b7
         replace a9 := iD a9
         replace b0 := iD b0
         replace a6 := kD a6
         replace a7 := kD a7
         refine wp_region_held_drew (S := (fun W' => Blk W' (w.heap.size) 74 #[.int .i64 c, .slice A n k, .slice B m j, .int .i64 d, .slice C n2 k2, .slice D m2 j2, .int .i64 p1, .int .i64 p2, .int .i64 p3, .int .i64 p4])) (by kernel_rfl) a6.out (fun _ => ?_)
         obtain ⟨u1, g3⟩ : ∃ w', w' = (r1.drew) := ⟨_, rfl⟩
         rw [← g3] at a8 b5 b6 c0 c1 b4 b7 a9 b0 a6 a7
         rw [← g3]
         clear g3
         refine' tkH 0 a6.out ?j6 ?_
         case j6 => (rintro W' hS0; have hc0 := Blk.nth hS0 0; have hc1 := Blk.nth hS0 1; have hc2 := Blk.nth hS0 2; have hc3 := Blk.nth hS0 3; have hc4 := Blk.nth hS0 4; have hc5 := Blk.nth hS0 5; have hc6 := Blk.nth hS0 6; have hc7 := Blk.nth hS0 7; have hc8 := Blk.nth hS0 8; have hc9 := Blk.nth hS0 9; clear hS0; go_simp; try with_reducible rfl)
         refine' tkH 2 a6.out ?j7 ?_
         case j7 => (rintro W' hS0; have hc0 := Blk.nth hS0 0; have hc1 := Blk.nth hS0 1; have hc2 := Blk.nth hS0 2; have hc3 := Blk.nth hS0 3; have hc4 := Blk.nth hS0 4; have hc5 := Blk.nth hS0 5; have hc6 := Blk.nth hS0 6; have hc7 := Blk.nth hS0 7; have hc8 := Blk.nth hS0 8; have hc9 := Blk.nth hS0 9; clear hS0; go_simp; try with_reducible rfl)
         try simp only [Act.put, qsA, qsZ, qsS]
         refine oneH 1 rfl fun K hK => ?_
         go_simp
         go_at_call 76
         refine (corner_any c A B n k m j d C D n2 k2 m2 j2 p1 p2 p3 p4 _ ⟨ga1, ga2⟩).mono ?_
         rintro e u2 ⟨g1, rfl, hcl1, hge1, d2⟩
         dsimp only
         unfold fnV
         replace d2 := Lib.hid d2
         have f3 := Lib.hid (hcl1)
         replace a6 := kH a6 d2
         refine hK.out _ _ a6.out (fun _ => ?_); clear hK K
         try simp only [Act.put, qsA, qsZ, qsS]
         refine oneH 3 rfl fun K hK => ?_
         go_simp
         go_at_call 77
         refine (side_any c A B n k m j d C D n2 k2 m2 j2 p1 p2 p3 p4 _ ⟨by omega, by omega⟩).mono ?_
         rintro e u3 ⟨g2, rfl, hcl2, hge2, c3⟩
         dsimp only
         unfold fnV
         replace c3 := Lib.hid c3
         have f6 := Lib.hid (hcl2)
         replace a6 := kH a6 c3
         refine hK.out _ _ a6.out (fun _ => ?_); clear hK K
         try simp only [Act.put, qsA, qsZ, qsS]
         refine' twH 4 a6.out ?_
         refine' twH 5 a6.out ?_
         try simp only [Act.put, qsA, qsZ, qsS]
         refine wpAnyH_done (by kernel_rfl) ?_ _
         replace b5 := rH (rH b5 d2) c3
         clear b5
         replace b6 := rH (rH b6 d2) c3
         clear b6
         replace c0 := rH (rH c0 d2) c3
         clear c0
         replace c1 := rH (rH c1 d2) c3
         clear c1
         obtain ⟨j8, j9, k0, k5, k6, k7, k8, k9, l0, l1⟩ := at10 a6
         replace a7 := kH (kH a7 d2) c3
         obtain ⟨l2, l3, l4, l5⟩ := at4 a7
         go_wp2
         clear j8 j9 k0 k5 k6 k7 k8 k9 l0 l1 l2 l3 l4 l5
         clear hge1 hge2
         replace a8 := bH (bH a8 d2) c3
         replace b4 := iH (iH b4 d2) c3
         replace b7 := iH (iH b7 d2) c3
         replace a9 := iH (iH a9 d2) c3
         replace b0 := iH (iH b0 d2) c3
         replace f3 := Lib.hid (Cl.keep (f3.out) c3.out)
         go_loopw [7] (fun i wr => ∃ q r : Nat, q ≤ p4 - p3 ∧ r = p3 + q ∧ i = .int .i64 (r : Int) ∧ ties ⟨p1, p2, p3, p4⟩ xa xb ya yb q = true ∧ Cl wr g1 (c + 1) p1 p3 p4 ∧ Cl wr g2 c p1 p3 ((p4 : Int) - 1) ∧ Blk wr (w.heap.size) 74 #[.int .i64 c, .slice A n k, .slice B m j, .int .i64 d, .slice C n2 k2, .slice D m2 j2, .int .i64 p1, .int .i64 p2, .int .i64 p3, .int .i64 p4] ∧ Blk wr (w.heap.size + 1) 36 #[.slice X1 x1 k1, .slice X2 x2 k2x, .slice X3 x3 k3, .slice X4 x4 k4] ∧ RdI wr X1 x1 k1 xa ∧ RdI wr X2 x2 k2x xb ∧ RdI wr X3 x3 k3 ya ∧ RdI wr X4 x4 k4 yb ∧ Below w.heap.size w wr) (fun i _ => p4 - (intOf i).toNat)
         case atStart => exact ⟨0, p3, Nat.zero_le _, rfl, rfl, rfl, f3.out, f6.out, a6.out, a7.out, b4.out, b7.out, a9.out, b0.out, a8.out⟩
         case round =>
          clear a8 b4 b7 a9 b0 a6 a7 f3 f6
          obtain ⟨q, r, hq, hrq, rfl, hti, i0, i1, i2, i3, i4, i5, i6, i7, i8⟩ := hrel
          have b8 := Lib.hid (i0)
          have c2 := Lib.hid (i1)
          have a0 := Lib.hid (i2)
          have a1 := Lib.hid (i3)
          have a2 := Lib.hid (i4)
          have a3 := Lib.hid (i5)
          have a4 := Lib.hid (i6)
          have a5 := Lib.hid (i7)
          have b9 := Lib.hid (i8)
          clear i0 i1 i2 i3 i4 i5 i6 i7 i8
          have HTI := Lib.hid hti; clear hti
          by_cases hlt : r < p4
          · have hlt' : (r : Int) < (p4 : Int) := by omega
            obtain ⟨v1, hv1⟩ : ∃ v, v = p1 + p4 - r := ⟨_, rfl⟩
            obtain ⟨v2, hv2⟩ : ∃ v, v = p1 + p4 - 1 - r := ⟨_, rfl⟩
            obtain ⟨p5, hp5⟩ : ∃ v, v = p4 - 1 := ⟨_, rfl⟩
            have hr1 : ren (c + 1) p1 p3 p4 (r : Int) = (v1 : Int) := by unfold ren; rw [if_neg (by omega), if_neg (by omega)]; omega
            have hr2 : ren c p1 p3 ((p4 : Int) - 1) (r : Int) = (v2 : Int) := by unfold ren; rw [if_neg (by omega), if_neg (by omega)]; omega
            have HV1 := Lib.hid (fun w h => Calls.mono (renum_any (c + 1) p1 p3 p4 (r : Int) g1 w h (by omega) (by omega) (by omega) (by omega) (by omega)) (fun e w' h => (show e = .returned (.int .i64 (v1 : Int)) ∧ w = w' from ⟨by rw [h.1, hr1], h.2⟩)))
            have HV2 := Lib.hid (fun w h => Calls.mono (renum_any c p1 p3 ((p4 : Int) - 1) (r : Int) g2 w h (by omega) (by omega) (by omega) (by omega) (by omega)) (fun e w' h => (show e = .returned (.int .i64 (v2 : Int)) ∧ w = w' from ⟨by rw [h.1, hr2], h.2⟩)))
            clear hr1 hr2
            obtain ⟨kl0, kb0⟩ := kept_facts EK0.out; have hn0_ := (a2.out).len
            obtain ⟨kl1, kb1⟩ := kept_facts EK1.out; have hn1_ := (a3.out).len
            obtain ⟨kl2, kb2⟩ := kept_facts EK2.out; have hn2_ := (a4.out).len
            obtain ⟨kl3, kb3⟩ := kept_facts EK3.out; have hn3_ := (a5.out).len
            have hin_ : v1 < xa.length := by omega
            have ga_ := get_of hin_; have ba_ := kb0 _ hin_; clear hin_
            obtain ⟨za, hza⟩ : ∃ z, at_ xa v1 = z := ⟨_, rfl⟩
            rw [hza] at ga_ ba_
            have hin_ : p1 < xa.length := by omega
            have gb_ := get_of hin_; have bb_ := kb0 _ hin_; clear hin_
            obtain ⟨zb, hzb⟩ : ∃ z, at_ xa p1 = z := ⟨_, rfl⟩
            rw [hzb] at gb_ bb_
            have hin_ : p4 < xb.length := by omega
            have gc_ := get_of hin_; have bc_ := kb1 _ hin_; clear hin_
            obtain ⟨zc, hzc⟩ : ∃ z, at_ xb p4 = z := ⟨_, rfl⟩
            rw [hzc] at gc_ bc_
            have hin_ : r < xb.length := by omega
            have gd_ := get_of hin_; have bd_ := kb1 _ hin_; clear hin_
            obtain ⟨zd, hzd⟩ : ∃ z, at_ xb r = z := ⟨_, rfl⟩
            rw [hzd] at gd_ bd_
            have hin_ : v2 < ya.length := by omega
            have ge_ := get_of hin_; have be_ := kb2 _ hin_; clear hin_
            obtain ⟨ze, hze⟩ : ∃ z, at_ ya v2 = z := ⟨_, rfl⟩
            rw [hze] at ge_ be_
            have hin_ : p1 < ya.length := by omega
            have gf_ := get_of hin_; have bf_ := kb2 _ hin_; clear hin_
            obtain ⟨zf, hzf⟩ : ∃ z, at_ ya p1 = z := ⟨_, rfl⟩
            rw [hzf] at gf_ bf_
            have hin_ : r < yb.length := by omega
            have gg_ := get_of hin_; have bg_ := kb3 _ hin_; clear hin_
            obtain ⟨zg, hzg⟩ : ∃ z, at_ yb r = z := ⟨_, rfl⟩
            rw [hzg] at gg_ bg_
            have hin_ : p5 < yb.length := by omega
            have gh_ := get_of hin_; have bh_ := kb3 _ hin_; clear hin_
            obtain ⟨zh, hzh⟩ : ∃ z, at_ yb p5 = z := ⟨_, rfl⟩
            rw [hzh] at gh_ bh_
            obtain ⟨ab0, ao0, hA0⟩ := rdI_some (a2.out) ga_
            obtain ⟨ab1, ao1, hA1⟩ := rdI_some (a3.out) gc_
            obtain ⟨ab2, ao2, hA2⟩ := rdI_some (a4.out) ge_
            obtain ⟨ab3, ao3, hA3⟩ := rdI_some (a5.out) gg_
            subst hA0
            subst hA1
            subst hA2
            subst hA3
            have htw : tieW ⟨p1, p2, p3, p4⟩ xa xb ((p3 : Int) + (q : Int)) = decide (za - zb = zc - zd) := by unfold tieW; dsimp only; rw [show ((p1 : Int) + p4 - ((p3 : Int) + q)) = ((v1 : Nat) : Int) by omega, show ((p3 : Int) + q) = ((r : Nat) : Int) by omega, look_at, look_at, look_at, look_at, hza, hzb, hzc, hzd]
            have htt : tieT ⟨p1, p2, p3, p4⟩ ya yb ((p3 : Int) + (q : Int)) = decide (ze - zf = zg - zh) := by unfold tieT; dsimp only; rw [show ((p1 : Int) + p4 - 1 - ((p3 : Int) + q)) = ((v2 : Nat) : Int) by omega, show ((p3 : Int) + q) = (r : Int) by omega, show ((p4 : Int) - 1) = ((p5 : Nat) : Int) by omega, look_at, look_at, look_at, look_at, hze, hzf, hzg, hzh]
            have HTW := Lib.hid htw; have HTT := Lib.hid htt; clear htw htt hza hzb hzc hzd hze hzf hzg hzh
            have u4 : IntKind.i64.wrap (za - zb) = za - zb := IntWalk.i64_in _ (by omega)
            have u5 : IntKind.i64.wrap (zc - zd) = zc - zd := IntWalk.i64_in _ (by omega)
            have u6 : IntKind.i64.wrap (ze - zf) = ze - zf := IntWalk.i64_in _ (by omega)
            have u7 : IntKind.i64.wrap (zg - zh) = zg - zh := IntWalk.i64_in _ (by omega)
            have u8 : IntKind.i64.wrap ((p4 : Int) - 1) = (p5 : Int) := by rw [IntWalk.i64_in _ (by omega)]; omega
            have hlv1 : (v1 : Int) < x1 := by omega
            have hlp1 : (p1 : Int) < x1 := by omega
            have hlp4 : (p4 : Int) < x2 := by omega
            have hlq2 : (r : Int) < x2 := by omega
            have hlv2 : (v2 : Int) < x3 := by omega
            have hlp13 : (p1 : Int) < x3 := by omega
            have hlq4 : (r : Int) < x4 := by omega
            have hlp5 : (p5 : Int) < x4 := by omega
            clear kl0 kb0 hn0_ kl1 kb1 hn1_ kl2 kb2 hn2_ kl3 kb3 hn3_
            have HRQ := Lib.hid hrq; clear hv1 hv2 hp5 hrq
            by_cases h1 : za - zb = zc - zd
            · have hb1 : (za - zb != zc - zd) = false := by simpa using h1
              have hd1 : decide (za - zb = zc - zd) = true := decide_eq_true h1
              clear h1
              by_cases h2 : ze - zf = zg - zh
              · have hb2 : (ze - zf != zg - zh) = false := by simpa using h2
                have hd2 : decide (ze - zf = zg - zh) = true := decide_eq_true h2
                clear h2
                obtain ⟨d5, d6, d7, d8, d9, e4, e5, e6, e7, e8⟩ := at10 a0
                obtain ⟨e9, f0, f1, f2⟩ := at4 a1
                go_wp2_with fail
                clear d5 d6 d7 d8 d9 e4 e5 e6 e7 e8 e9 f0 f1 f2
                replace b8 := Lib.hid (Cl.drew (b8.out))
                replace c2 := Lib.hid (Cl.drew (c2.out))
                replace a0 := kD a0
                replace a1 := kD a1
                replace a2 := iD a2
                replace a3 := iD a3
                replace a4 := iD a4
                replace a5 := iD a5
                replace b9 := bD b9
                refine wp_region_held_drew (S := (fun W' => Blk W' (w.heap.size) 74 #[.int .i64 c, .slice A n k, .slice B m j, .int .i64 d, .slice C n2 k2, .slice D m2 j2, .int .i64 p1, .int .i64 p2, .int .i64 p3, .int .i64 p4] ∧ Blk W' (w.heap.size + 1) 36 #[.slice (some ⟨ab0, ao0, none⟩) x1 k1, .slice (some ⟨ab1, ao1, none⟩) x2 k2x, .slice (some ⟨ab2, ao2, none⟩) x3 k3, .slice (some ⟨ab3, ao3, none⟩) x4 k4] ∧ RdI W' (some ⟨ab0, ao0, none⟩) x1 k1 xa ∧ RdI W' (some ⟨ab1, ao1, none⟩) x2 k2x xb ∧ RdI W' (some ⟨ab2, ao2, none⟩) x3 k3 ya ∧ RdI W' (some ⟨ab3, ao3, none⟩) x4 k4 yb)) (by kernel_rfl) ⟨a0.out, a1.out, a2.out, a3.out, a4.out, a5.out⟩ (fun _ => ?_)
                obtain ⟨u9, g4⟩ : ∃ w', w' = (wr.drew) := ⟨_, rfl⟩
                rw [← g4] at b8 c2 a0 a1 a2 a3 a4 a5 b9
                rw [← g4]
                clear g4
                refine' twH 0 ⟨a0.out, a1.out, a2.out, a3.out, a4.out, a5.out⟩ ?_
                refine' tkH 1 ⟨a0.out, a1.out, a2.out, a3.out, a4.out, a5.out⟩ ?l6 ?_
                case l6 => (rintro W' ⟨hS0, hS1, hS2, hS3, hS4, hS5⟩; have hc0 := Blk.nth hS1 0; clear hS0 hS1 hS2 hS3 hS4 hS5; go_simp; try with_reducible rfl)
                refine' twH 2 ⟨a0.out, a1.out, a2.out, a3.out, a4.out, a5.out⟩ ?_
                refine' twH 3 ⟨a0.out, a1.out, a2.out, a3.out, a4.out, a5.out⟩ ?_
                try simp only [Act.put, qsA, qsZ, qsS]
                refine' twH 7 ⟨a0.out, a1.out, a2.out, a3.out, a4.out, a5.out⟩ ?_
                refine' tkH 8 ⟨a0.out, a1.out, a2.out, a3.out, a4.out, a5.out⟩ ?l7 ?_
                case l7 => (rintro W' ⟨hS0, hS1, hS2, hS3, hS4, hS5⟩; have hc0 := Blk.nth hS1 0; clear hS0 hS1 hS2 hS3 hS4 hS5; go_simp; try with_reducible rfl)
                refine' twH 9 ⟨a0.out, a1.out, a2.out, a3.out, a4.out, a5.out⟩ ?_
                refine' twH 10 ⟨a0.out, a1.out, a2.out, a3.out, a4.out, a5.out⟩ ?_
                try simp only [Act.put, qsA, qsZ, qsS]
                refine' twH 11 ⟨a0.out, a1.out, a2.out, a3.out, a4.out, a5.out⟩ ?_
                refine' tkH 12 ⟨a0.out, a1.out, a2.out, a3.out, a4.out, a5.out⟩ ?l8 ?_
                case l8 => (rintro W' ⟨hS0, hS1, hS2, hS3, hS4, hS5⟩; have hc0 := Blk.nth hS0 6; clear hS0 hS1 hS2 hS3 hS4 hS5; go_simp; try with_reducible rfl)
                refine' twH 13 ⟨a0.out, a1.out, a2.out, a3.out, a4.out, a5.out⟩ ?_
                refine' tkH 14 ⟨a0.out, a1.out, a2.out, a3.out, a4.out, a5.out⟩ ?l9 ?_
                case l9 => (rintro W' ⟨hS0, hS1, hS2, hS3, hS4, hS5⟩; have hc_ := (rdI_at hS2 gb_).1; clear hS0 hS1 hS2 hS3 hS4 hS5; go_simp; try with_reducible rfl)
                try simp only [Act.put, qsA, qsZ, qsS]
                refine' twH 16 ⟨a0.out, a1.out, a2.out, a3.out, a4.out, a5.out⟩ ?_
                refine' tkH 17 ⟨a0.out, a1.out, a2.out, a3.out, a4.out, a5.out⟩ ?m0 ?_
                case m0 => (rintro W' ⟨hS0, hS1, hS2, hS3, hS4, hS5⟩; have hc0 := Blk.nth hS1 1; clear hS0 hS1 hS2 hS3 hS4 hS5; go_simp; try with_reducible rfl)
                refine' twH 18 ⟨a0.out, a1.out, a2.out, a3.out, a4.out, a5.out⟩ ?_
                refine' twH 19 ⟨a0.out, a1.out, a2.out, a3.out, a4.out, a5.out⟩ ?_
                try simp only [Act.put, qsA, qsZ, qsS]
                refine' twH 20 ⟨a0.out, a1.out, a2.out, a3.out, a4.out, a5.out⟩ ?_
                refine' tkH 21 ⟨a0.out, a1.out, a2.out, a3.out, a4.out, a5.out⟩ ?m1 ?_
                case m1 => (rintro W' ⟨hS0, hS1, hS2, hS3, hS4, hS5⟩; have hc0 := Blk.nth hS0 9; clear hS0 hS1 hS2 hS3 hS4 hS5; go_simp; try with_reducible rfl)
                refine' twH 22 ⟨a0.out, a1.out, a2.out, a3.out, a4.out, a5.out⟩ ?_
                refine' tkH 23 ⟨a0.out, a1.out, a2.out, a3.out, a4.out, a5.out⟩ ?m3 ?_
                case m3 => (rintro W' ⟨hS0, hS1, hS2, hS3, hS4, hS5⟩; have hc_ := (rdI_at hS3 gc_).1; clear hS0 hS1 hS2 hS3 hS4 hS5; go_simp; try with_reducible rfl)
                try simp only [Act.put, qsA, qsZ, qsS]
                refine' twH 24 ⟨a0.out, a1.out, a2.out, a3.out, a4.out, a5.out⟩ ?_
                refine' tkH 25 ⟨a0.out, a1.out, a2.out, a3.out, a4.out, a5.out⟩ ?m4 ?_
                case m4 => (rintro W' ⟨hS0, hS1, hS2, hS3, hS4, hS5⟩; have hc0 := Blk.nth hS1 1; clear hS0 hS1 hS2 hS3 hS4 hS5; go_simp; try with_reducible rfl)
                refine' twH 26 ⟨a0.out, a1.out, a2.out, a3.out, a4.out, a5.out⟩ ?_
                refine' twH 27 ⟨a0.out, a1.out, a2.out, a3.out, a4.out, a5.out⟩ ?_
                try simp only [Act.put, qsA, qsZ, qsS]
                refine' tkH 28 ⟨a0.out, a1.out, a2.out, a3.out, a4.out, a5.out⟩ ?m5 ?_
                case m5 => (rintro W' ⟨hS0, hS1, hS2, hS3, hS4, hS5⟩; have hc_ := (rdI_at hS3 gd_).1; clear hS0 hS1 hS2 hS3 hS4 hS5; go_simp; try with_reducible rfl)
                refine' twH 29 ⟨a0.out, a1.out, a2.out, a3.out, a4.out, a5.out⟩ ?_
                try simp only [Act.put, qsA, qsZ, qsS]
                refine oneH 4 rfl fun K hK => ?_
                go_simp
                go_at_call 149
                refine (HV1.out _ (b8.out)).mono ?_
                rintro e v0 ⟨rfl, rfl⟩
                dsimp only
                refine hK.out _ _ ⟨a0.out, a1.out, a2.out, a3.out, a4.out, a5.out⟩ (fun _ => ?_); clear hK K
                try simp only [Act.put, qsA, qsZ, qsS]
                refine' twH 5 ⟨a0.out, a1.out, a2.out, a3.out, a4.out, a5.out⟩ ?_
                refine' tkH 6 ⟨a0.out, a1.out, a2.out, a3.out, a4.out, a5.out⟩ ?m6 ?_
                case m6 => (rintro W' ⟨hS0, hS1, hS2, hS3, hS4, hS5⟩; have hc_ := (rdI_at hS2 ga_).1; clear hS0 hS1 hS2 hS3 hS4 hS5; go_simp; try with_reducible rfl)
                refine' twH 15 ⟨a0.out, a1.out, a2.out, a3.out, a4.out, a5.out⟩ ?_
                refine' twH 30 ⟨a0.out, a1.out, a2.out, a3.out, a4.out, a5.out⟩ ?_
                try simp only [Act.put, qsA, qsZ, qsS]
                refine' twH 31 ⟨a0.out, a1.out, a2.out, a3.out, a4.out, a5.out⟩ ?_
                refine' twH 32 ⟨a0.out, a1.out, a2.out, a3.out, a4.out, a5.out⟩ ?_
                refine' tkH 33 ⟨a0.out, a1.out, a2.out, a3.out, a4.out, a5.out⟩ ?m7 ?_
                case m7 => (rintro W' ⟨hS0, hS1, hS2, hS3, hS4, hS5⟩; have hc0 := Blk.nth hS1 2; clear hS0 hS1 hS2 hS3 hS4 hS5; go_simp; try with_reducible rfl)
                refine' twH 34 ⟨a0.out, a1.out, a2.out, a3.out, a4.out, a5.out⟩ ?_
                try simp only [Act.put, qsA, qsZ, qsS]
                refine' twH 35 ⟨a0.out, a1.out, a2.out, a3.out, a4.out, a5.out⟩ ?_
                refine' twH 39 ⟨a0.out, a1.out, a2.out, a3.out, a4.out, a5.out⟩ ?_
                refine' tkH 40 ⟨a0.out, a1.out, a2.out, a3.out, a4.out, a5.out⟩ ?m8 ?_
                case m8 => (rintro W' ⟨hS0, hS1, hS2, hS3, hS4, hS5⟩; have hc0 := Blk.nth hS1 2; clear hS0 hS1 hS2 hS3 hS4 hS5; go_simp; try with_reducible rfl)
                refine' twH 41 ⟨a0.out, a1.out, a2.out, a3.out, a4.out, a5.out⟩ ?_
                try simp only [Act.put, qsA, qsZ, qsS]
                refine' twH 42 ⟨a0.out, a1.out, a2.out, a3.out, a4.out, a5.out⟩ ?_
                refine' twH 43 ⟨a0.out, a1.out, a2.out, a3.out, a4.out, a5.out⟩ ?_
                refine' tkH 44 ⟨a0.out, a1.out, a2.out, a3.out, a4.out, a5.out⟩ ?m9 ?_
                case m9 => (rintro W' ⟨hS0, hS1, hS2, hS3, hS4, hS5⟩; have hc0 := Blk.nth hS0 6; clear hS0 hS1 hS2 hS3 hS4 hS5; go_simp; try with_reducible rfl)
                refine' twH 45 ⟨a0.out, a1.out, a2.out, a3.out, a4.out, a5.out⟩ ?_
                try simp only [Act.put, qsA, qsZ, qsS]
                refine' tkH 46 ⟨a0.out, a1.out, a2.out, a3.out, a4.out, a5.out⟩ ?n0 ?_
                case n0 => (rintro W' ⟨hS0, hS1, hS2, hS3, hS4, hS5⟩; have hc_ := (rdI_at hS4 gf_).1; clear hS0 hS1 hS2 hS3 hS4 hS5; go_simp; try with_reducible rfl)
                refine' twH 48 ⟨a0.out, a1.out, a2.out, a3.out, a4.out, a5.out⟩ ?_
                refine' tkH 49 ⟨a0.out, a1.out, a2.out, a3.out, a4.out, a5.out⟩ ?n1 ?_
                case n1 => (rintro W' ⟨hS0, hS1, hS2, hS3, hS4, hS5⟩; have hc0 := Blk.nth hS1 3; clear hS0 hS1 hS2 hS3 hS4 hS5; go_simp; try with_reducible rfl)
                refine' twH 50 ⟨a0.out, a1.out, a2.out, a3.out, a4.out, a5.out⟩ ?_
                try simp only [Act.put, qsA, qsZ, qsS]
                refine' twH 51 ⟨a0.out, a1.out, a2.out, a3.out, a4.out, a5.out⟩ ?_
                refine' tkH 52 ⟨a0.out, a1.out, a2.out, a3.out, a4.out, a5.out⟩ ?n3 ?_
                case n3 => (rintro W' ⟨hS0, hS1, hS2, hS3, hS4, hS5⟩; have hc_ := (rdI_at hS5 gg_).1; clear hS0 hS1 hS2 hS3 hS4 hS5; go_simp; try with_reducible rfl)
                refine' twH 53 ⟨a0.out, a1.out, a2.out, a3.out, a4.out, a5.out⟩ ?_
                refine' tkH 54 ⟨a0.out, a1.out, a2.out, a3.out, a4.out, a5.out⟩ ?n4 ?_
                case n4 => (rintro W' ⟨hS0, hS1, hS2, hS3, hS4, hS5⟩; have hc0 := Blk.nth hS1 3; clear hS0 hS1 hS2 hS3 hS4 hS5; go_simp; try with_reducible rfl)
                try simp only [Act.put, qsA, qsZ, qsS]
                refine' twH 55 ⟨a0.out, a1.out, a2.out, a3.out, a4.out, a5.out⟩ ?_
                refine' twH 56 ⟨a0.out, a1.out, a2.out, a3.out, a4.out, a5.out⟩ ?_
                refine' twH 57 ⟨a0.out, a1.out, a2.out, a3.out, a4.out, a5.out⟩ ?_
                refine' tkH 58 ⟨a0.out, a1.out, a2.out, a3.out, a4.out, a5.out⟩ ?n5 ?_
                case n5 => (rintro W' ⟨hS0, hS1, hS2, hS3, hS4, hS5⟩; have hc0 := Blk.nth hS0 9; clear hS0 hS1 hS2 hS3 hS4 hS5; go_simp; try with_reducible rfl)
                try simp only [Act.put, qsA, qsZ, qsS]
                refine' twH 59 ⟨a0.out, a1.out, a2.out, a3.out, a4.out, a5.out⟩ ?_
                refine' twH 60 ⟨a0.out, a1.out, a2.out, a3.out, a4.out, a5.out⟩ ?_
                refine' tkH 61 ⟨a0.out, a1.out, a2.out, a3.out, a4.out, a5.out⟩ ?n6 ?_
                case n6 => (rintro W' ⟨hS0, hS1, hS2, hS3, hS4, hS5⟩; have hc_ := (rdI_at hS5 gh_).1; clear hS0 hS1 hS2 hS3 hS4 hS5; go_simp; try with_reducible rfl)
                refine' twH 62 ⟨a0.out, a1.out, a2.out, a3.out, a4.out, a5.out⟩ ?_
                try simp only [Act.put, qsA, qsZ, qsS]
                refine oneH 36 rfl fun K hK => ?_
                go_simp
                go_at_call 149
                refine (HV2.out _ (c2.out)).mono ?_
                rintro e v3 ⟨rfl, rfl⟩
                dsimp only
                refine hK.out _ _ ⟨a0.out, a1.out, a2.out, a3.out, a4.out, a5.out⟩ (fun _ => ?_); clear hK K
                try simp only [Act.put, qsA, qsZ, qsS]
                refine' twH 37 ⟨a0.out, a1.out, a2.out, a3.out, a4.out, a5.out⟩ ?_
                refine' tkH 38 ⟨a0.out, a1.out, a2.out, a3.out, a4.out, a5.out⟩ ?n7 ?_
                case n7 => (rintro W' ⟨hS0, hS1, hS2, hS3, hS4, hS5⟩; have hc_ := (rdI_at hS4 ge_).1; clear hS0 hS1 hS2 hS3 hS4 hS5; go_simp; try with_reducible rfl)
                refine' twH 47 ⟨a0.out, a1.out, a2.out, a3.out, a4.out, a5.out⟩ ?_
                refine' twH 63 ⟨a0.out, a1.out, a2.out, a3.out, a4.out, a5.out⟩ ?_
                try simp only [Act.put, qsA, qsZ, qsS]
                refine' twH 64 ⟨a0.out, a1.out, a2.out, a3.out, a4.out, a5.out⟩ ?_
                try simp only [Act.put, qsA, qsZ, qsS]
                refine wpAnyH_done (by kernel_rfl) ?_ _
                go_wp2
                go_roundw
                all_goals have hrq := HRQ.out
                case rel => exact ⟨q + 1, r + 1, by omega, by omega, by go_num, by rw [ties_succ, HTI.out, HTW.out, HTT.out, hd1, hd2]; rfl, b8.out, c2.out, a0.out, a1.out, a2.out, a3.out, a4.out, a5.out, b9.out⟩
                case measure => simp [intOf]; omega
              · have hb2 : (ze - zf != zg - zh) = true := by simpa using h2
                have hd2 : decide (ze - zf = zg - zh) = false := decide_eq_false h2
                clear h2
                obtain ⟨d5, d6, d7, d8, d9, e4, e5, e6, e7, e8⟩ := at10 a0
                obtain ⟨e9, f0, f1, f2⟩ := at4 a1
                go_wp2_with fail
                clear d5 d6 d7 d8 d9 e4 e5 e6 e7 e8 e9 f0 f1 f2
                replace b8 := Lib.hid (Cl.drew (b8.out))
                replace c2 := Lib.hid (Cl.drew (c2.out))
                replace a0 := kD a0
                replace a1 := kD a1
                replace a2 := iD a2
                replace a3 := iD a3
                replace a4 := iD a4
                replace a5 := iD a5
                replace b9 := bD b9
                refine wp_region_held_drew (S := (fun W' => Blk W' (w.heap.size) 74 #[.int .i64 c, .slice A n k, .slice B m j, .int .i64 d, .slice C n2 k2, .slice D m2 j2, .int .i64 p1, .int .i64 p2, .int .i64 p3, .int .i64 p4] ∧ Blk W' (w.heap.size + 1) 36 #[.slice (some ⟨ab0, ao0, none⟩) x1 k1, .slice (some ⟨ab1, ao1, none⟩) x2 k2x, .slice (some ⟨ab2, ao2, none⟩) x3 k3, .slice (some ⟨ab3, ao3, none⟩) x4 k4] ∧ RdI W' (some ⟨ab0, ao0, none⟩) x1 k1 xa ∧ RdI W' (some ⟨ab1, ao1, none⟩) x2 k2x xb ∧ RdI W' (some ⟨ab2, ao2, none⟩) x3 k3 ya ∧ RdI W' (some ⟨ab3, ao3, none⟩) x4 k4 yb)) (by kernel_rfl) ⟨a0.out, a1.out, a2.out, a3.out, a4.out, a5.out⟩ (fun _ => ?_)
                obtain ⟨v4, g5⟩ : ∃ w', w' = (wr.drew) := ⟨_, rfl⟩
                rw [← g5] at b8 c2 a0 a1 a2 a3 a4 a5 b9
                rw [← g5]
                clear g5
                refine' twH 0 ⟨a0.out, a1.out, a2.out, a3.out, a4.out, a5.out⟩ ?_
                refine' tkH 1 ⟨a0.out, a1.out, a2.out, a3.out, a4.out, a5.out⟩ ?n8 ?_
                case n8 => (rintro W' ⟨hS0, hS1, hS2, hS3, hS4, hS5⟩; have hc0 := Blk.nth hS1 0; clear hS0 hS1 hS2 hS3 hS4 hS5; go_simp; try with_reducible rfl)
                refine' twH 2 ⟨a0.out, a1.out, a2.out, a3.out, a4.out, a5.out⟩ ?_
                refine' twH 3 ⟨a0.out, a1.out, a2.out, a3.out, a4.out, a5.out⟩ ?_
                try simp only [Act.put, qsA, qsZ, qsS]
                refine' twH 7 ⟨a0.out, a1.out, a2.out, a3.out, a4.out, a5.out⟩ ?_
                refine' tkH 8 ⟨a0.out, a1.out, a2.out, a3.out, a4.out, a5.out⟩ ?n9 ?_
                case n9 => (rintro W' ⟨hS0, hS1, hS2, hS3, hS4, hS5⟩; have hc0 := Blk.nth hS1 0; clear hS0 hS1 hS2 hS3 hS4 hS5; go_simp; try with_reducible rfl)
                refine' twH 9 ⟨a0.out, a1.out, a2.out, a3.out, a4.out, a5.out⟩ ?_
                refine' twH 10 ⟨a0.out, a1.out, a2.out, a3.out, a4.out, a5.out⟩ ?_
                try simp only [Act.put, qsA, qsZ, qsS]
                refine' twH 11 ⟨a0.out, a1.out, a2.out, a3.out, a4.out, a5.out⟩ ?_
                refine' tkH 12 ⟨a0.out, a1.out, a2.out, a3.out, a4.out, a5.out⟩ ?o0 ?_
                case o0 => (rintro W' ⟨hS0, hS1, hS2, hS3, hS4, hS5⟩; have hc0 := Blk.nth hS0 6; clear hS0 hS1 hS2 hS3 hS4 hS5; go_simp; try with_reducible rfl)
                refine' twH 13 ⟨a0.out, a1.out, a2.out, a3.out, a4.out, a5.out⟩ ?_
                refine' tkH 14 ⟨a0.out, a1.out, a2.out, a3.out, a4.out, a5.out⟩ ?o1 ?_
                case o1 => (rintro W' ⟨hS0, hS1, hS2, hS3, hS4, hS5⟩; have hc_ := (rdI_at hS2 gb_).1; clear hS0 hS1 hS2 hS3 hS4 hS5; go_simp; try with_reducible rfl)
                try simp only [Act.put, qsA, qsZ, qsS]
                refine' twH 16 ⟨a0.out, a1.out, a2.out, a3.out, a4.out, a5.out⟩ ?_
                refine' tkH 17 ⟨a0.out, a1.out, a2.out, a3.out, a4.out, a5.out⟩ ?o2 ?_
                case o2 => (rintro W' ⟨hS0, hS1, hS2, hS3, hS4, hS5⟩; have hc0 := Blk.nth hS1 1; clear hS0 hS1 hS2 hS3 hS4 hS5; go_simp; try with_reducible rfl)
                refine' twH 18 ⟨a0.out, a1.out, a2.out, a3.out, a4.out, a5.out⟩ ?_
                refine' twH 19 ⟨a0.out, a1.out, a2.out, a3.out, a4.out, a5.out⟩ ?_
                try simp only [Act.put, qsA, qsZ, qsS]
                refine' twH 20 ⟨a0.out, a1.out, a2.out, a3.out, a4.out, a5.out⟩ ?_
                refine' tkH 21 ⟨a0.out, a1.out, a2.out, a3.out, a4.out, a5.out⟩ ?o3 ?_
                case o3 => (rintro W' ⟨hS0, hS1, hS2, hS3, hS4, hS5⟩; have hc0 := Blk.nth hS0 9; clear hS0 hS1 hS2 hS3 hS4 hS5; go_simp; try with_reducible rfl)
                refine' twH 22 ⟨a0.out, a1.out, a2.out, a3.out, a4.out, a5.out⟩ ?_
                refine' tkH 23 ⟨a0.out, a1.out, a2.out, a3.out, a4.out, a5.out⟩ ?o4 ?_
                case o4 => (rintro W' ⟨hS0, hS1, hS2, hS3, hS4, hS5⟩; have hc_ := (rdI_at hS3 gc_).1; clear hS0 hS1 hS2 hS3 hS4 hS5; go_simp; try with_reducible rfl)
                try simp only [Act.put, qsA, qsZ, qsS]
                refine' twH 24 ⟨a0.out, a1.out, a2.out, a3.out, a4.out, a5.out⟩ ?_
                refine' tkH 25 ⟨a0.out, a1.out, a2.out, a3.out, a4.out, a5.out⟩ ?o5 ?_
                case o5 => (rintro W' ⟨hS0, hS1, hS2, hS3, hS4, hS5⟩; have hc0 := Blk.nth hS1 1; clear hS0 hS1 hS2 hS3 hS4 hS5; go_simp; try with_reducible rfl)
                refine' twH 26 ⟨a0.out, a1.out, a2.out, a3.out, a4.out, a5.out⟩ ?_
                refine' twH 27 ⟨a0.out, a1.out, a2.out, a3.out, a4.out, a5.out⟩ ?_
                try simp only [Act.put, qsA, qsZ, qsS]
                refine' tkH 28 ⟨a0.out, a1.out, a2.out, a3.out, a4.out, a5.out⟩ ?o6 ?_
                case o6 => (rintro W' ⟨hS0, hS1, hS2, hS3, hS4, hS5⟩; have hc_ := (rdI_at hS3 gd_).1; clear hS0 hS1 hS2 hS3 hS4 hS5; go_simp; try with_reducible rfl)
                refine' twH 29 ⟨a0.out, a1.out, a2.out, a3.out, a4.out, a5.out⟩ ?_
                try simp only [Act.put, qsA, qsZ, qsS]
                refine oneH 4 rfl fun K hK => ?_
                go_simp
                go_at_call 149
                refine (HV1.out _ (b8.out)).mono ?_
                rintro e v5 ⟨rfl, rfl⟩
                dsimp only
                refine hK.out _ _ ⟨a0.out, a1.out, a2.out, a3.out, a4.out, a5.out⟩ (fun _ => ?_); clear hK K
                try simp only [Act.put, qsA, qsZ, qsS]
                refine' twH 5 ⟨a0.out, a1.out, a2.out, a3.out, a4.out, a5.out⟩ ?_
                refine' tkH 6 ⟨a0.out, a1.out, a2.out, a3.out, a4.out, a5.out⟩ ?o7 ?_
                case o7 => (rintro W' ⟨hS0, hS1, hS2, hS3, hS4, hS5⟩; have hc_ := (rdI_at hS2 ga_).1; clear hS0 hS1 hS2 hS3 hS4 hS5; go_simp; try with_reducible rfl)
                refine' twH 15 ⟨a0.out, a1.out, a2.out, a3.out, a4.out, a5.out⟩ ?_
                refine' twH 30 ⟨a0.out, a1.out, a2.out, a3.out, a4.out, a5.out⟩ ?_
                try simp only [Act.put, qsA, qsZ, qsS]
                refine' twH 31 ⟨a0.out, a1.out, a2.out, a3.out, a4.out, a5.out⟩ ?_
                refine' twH 32 ⟨a0.out, a1.out, a2.out, a3.out, a4.out, a5.out⟩ ?_
                refine' tkH 33 ⟨a0.out, a1.out, a2.out, a3.out, a4.out, a5.out⟩ ?o8 ?_
                case o8 => (rintro W' ⟨hS0, hS1, hS2, hS3, hS4, hS5⟩; have hc0 := Blk.nth hS1 2; clear hS0 hS1 hS2 hS3 hS4 hS5; go_simp; try with_reducible rfl)
                refine' twH 34 ⟨a0.out, a1.out, a2.out, a3.out, a4.out, a5.out⟩ ?_
                try simp only [Act.put, qsA, qsZ, qsS]
                refine' twH 35 ⟨a0.out, a1.out, a2.out, a3.out, a4.out, a5.out⟩ ?_
                refine' twH 39 ⟨a0.out, a1.out, a2.out, a3.out, a4.out, a5.out⟩ ?_
                refine' tkH 40 ⟨a0.out, a1.out, a2.out, a3.out, a4.out, a5.out⟩ ?o9 ?_
                case o9 => (rintro W' ⟨hS0, hS1, hS2, hS3, hS4, hS5⟩; have hc0 := Blk.nth hS1 2; clear hS0 hS1 hS2 hS3 hS4 hS5; go_simp; try with_reducible rfl)
                refine' twH 41 ⟨a0.out, a1.out, a2.out, a3.out, a4.out, a5.out⟩ ?_
                try simp only [Act.put, qsA, qsZ, qsS]
                refine' twH 42 ⟨a0.out, a1.out, a2.out, a3.out, a4.out, a5.out⟩ ?_
                refine' twH 43 ⟨a0.out, a1.out, a2.out, a3.out, a4.out, a5.out⟩ ?_
                refine' tkH 44 ⟨a0.out, a1.out, a2.out, a3.out, a4.out, a5.out⟩ ?p0 ?_
                case p0 => (rintro W' ⟨hS0, hS1, hS2, hS3, hS4, hS5⟩; have hc0 := Blk.nth hS0 6; clear hS0 hS1 hS2 hS3 hS4 hS5; go_simp; try with_reducible rfl)
                refine' twH 45 ⟨a0.out, a1.out, a2.out, a3.out, a4.out, a5.out⟩ ?_
                try simp only [Act.put, qsA, qsZ, qsS]
                refine' tkH 46 ⟨a0.out, a1.out, a2.out, a3.out, a4.out, a5.out⟩ ?p6 ?_
                case p6 => (rintro W' ⟨hS0, hS1, hS2, hS3, hS4, hS5⟩; have hc_ := (rdI_at hS4 gf_).1; clear hS0 hS1 hS2 hS3 hS4 hS5; go_simp; try with_reducible rfl)
                refine' twH 48 ⟨a0.out, a1.out, a2.out, a3.out, a4.out, a5.out⟩ ?_
                refine' tkH 49 ⟨a0.out, a1.out, a2.out, a3.out, a4.out, a5.out⟩ ?p7 ?_
                case p7 => (rintro W' ⟨hS0, hS1, hS2, hS3, hS4, hS5⟩; have hc0 := Blk.nth hS1 3; clear hS0 hS1 hS2 hS3 hS4 hS5; go_simp; try with_reducible rfl)
                refine' twH 50 ⟨a0.out, a1.out, a2.out, a3.out, a4.out, a5.out⟩ ?_
                try simp only [Act.put, qsA, qsZ, qsS]
                refine' twH 51 ⟨a0.out, a1.out, a2.out, a3.out, a4.out, a5.out⟩ ?_
                refine' tkH 52 ⟨a0.out, a1.out, a2.out, a3.out, a4.out, a5.out⟩ ?p8 ?_
                case p8 => (rintro W' ⟨hS0, hS1, hS2, hS3, hS4, hS5⟩; have hc_ := (rdI_at hS5 gg_).1; clear hS0 hS1 hS2 hS3 hS4 hS5; go_simp; try with_reducible rfl)
                refine' twH 53 ⟨a0.out, a1.out, a2.out, a3.out, a4.out, a5.out⟩ ?_
                refine' tkH 54 ⟨a0.out, a1.out, a2.out, a3.out, a4.out, a5.out⟩ ?p9 ?_
                case p9 => (rintro W' ⟨hS0, hS1, hS2, hS3, hS4, hS5⟩; have hc0 := Blk.nth hS1 3; clear hS0 hS1 hS2 hS3 hS4 hS5; go_simp; try with_reducible rfl)
                try simp only [Act.put, qsA, qsZ, qsS]
                refine' twH 55 ⟨a0.out, a1.out, a2.out, a3.out, a4.out, a5.out⟩ ?_
                refine' twH 56 ⟨a0.out, a1.out, a2.out, a3.out, a4.out, a5.out⟩ ?_
                refine' twH 57 ⟨a0.out, a1.out, a2.out, a3.out, a4.out, a5.out⟩ ?_
                refine' tkH 58 ⟨a0.out, a1.out, a2.out, a3.out, a4.out, a5.out⟩ ?q0 ?_
                case q0 => (rintro W' ⟨hS0, hS1, hS2, hS3, hS4, hS5⟩; have hc0 := Blk.nth hS0 9; clear hS0 hS1 hS2 hS3 hS4 hS5; go_simp; try with_reducible rfl)
                try simp only [Act.put, qsA, qsZ, qsS]
                refine' twH 59 ⟨a0.out, a1.out, a2.out, a3.out, a4.out, a5.out⟩ ?_
                refine' twH 60 ⟨a0.out, a1.out, a2.out, a3.out, a4.out, a5.out⟩ ?_
                refine' tkH 61 ⟨a0.out, a1.out, a2.out, a3.out, a4.out, a5.out⟩ ?q1 ?_
                case q1 => (rintro W' ⟨hS0, hS1, hS2, hS3, hS4, hS5⟩; have hc_ := (rdI_at hS5 gh_).1; clear hS0 hS1 hS2 hS3 hS4 hS5; go_simp; try with_reducible rfl)
                refine' twH 62 ⟨a0.out, a1.out, a2.out, a3.out, a4.out, a5.out⟩ ?_
                try simp only [Act.put, qsA, qsZ, qsS]
                refine oneH 36 rfl fun K hK => ?_
                go_simp
                go_at_call 149
                refine (HV2.out _ (c2.out)).mono ?_
                rintro e v6 ⟨rfl, rfl⟩
                dsimp only
                refine hK.out _ _ ⟨a0.out, a1.out, a2.out, a3.out, a4.out, a5.out⟩ (fun _ => ?_); clear hK K
                try simp only [Act.put, qsA, qsZ, qsS]
                refine' twH 37 ⟨a0.out, a1.out, a2.out, a3.out, a4.out, a5.out⟩ ?_
                refine' tkH 38 ⟨a0.out, a1.out, a2.out, a3.out, a4.out, a5.out⟩ ?q2 ?_
                case q2 => (rintro W' ⟨hS0, hS1, hS2, hS3, hS4, hS5⟩; have hc_ := (rdI_at hS4 ge_).1; clear hS0 hS1 hS2 hS3 hS4 hS5; go_simp; try with_reducible rfl)
                refine' twH 47 ⟨a0.out, a1.out, a2.out, a3.out, a4.out, a5.out⟩ ?_
                refine' twH 63 ⟨a0.out, a1.out, a2.out, a3.out, a4.out, a5.out⟩ ?_
                try simp only [Act.put, qsA, qsZ, qsS]
                refine' twH 64 ⟨a0.out, a1.out, a2.out, a3.out, a4.out, a5.out⟩ ?_
                try simp only [Act.put, qsA, qsZ, qsS]
                refine wpAnyH_done (by kernel_rfl) ?_ _
                go_wp2
                go_ret
                have hrq := HRQ.out
                exact ⟨ret_bool (ties_no (j := q) (by show q < ((p4 : Int) - p3).toNat; omega) (by rw [HTT.out, hd2]; simp)).symm, b9.out⟩
            · have hb1 : (za - zb != zc - zd) = true := by simpa using h1
              have hd1 : decide (za - zb = zc - zd) = false := decide_eq_false h1
              clear h1
              obtain ⟨d5, d6, d7, d8, d9, e4, e5, e6, e7, e8⟩ := at10 a0
              obtain ⟨e9, f0, f1, f2⟩ := at4 a1
              go_wp2_with fail
              clear d5 d6 d7 d8 d9 e4 e5 e6 e7 e8 e9 f0 f1 f2
              replace b8 := Lib.hid (Cl.drew (b8.out))
              replace c2 := Lib.hid (Cl.drew (c2.out))
              replace a0 := kD a0
              replace a1 := kD a1
              replace a2 := iD a2
              replace a3 := iD a3
              replace a4 := iD a4
              replace a5 := iD a5
              replace b9 := bD b9
              refine wp_region_held_drew (S := (fun W' => Blk W' (w.heap.size) 74 #[.int .i64 c, .slice A n k, .slice B m j, .int .i64 d, .slice C n2 k2, .slice D m2 j2, .int .i64 p1, .int .i64 p2, .int .i64 p3, .int .i64 p4] ∧ Blk W' (w.heap.size + 1) 36 #[.slice (some ⟨ab0, ao0, none⟩) x1 k1, .slice (some ⟨ab1, ao1, none⟩) x2 k2x, .slice (some ⟨ab2, ao2, none⟩) x3 k3, .slice (some ⟨ab3, ao3, none⟩) x4 k4] ∧ RdI W' (some ⟨ab0, ao0, none⟩) x1 k1 xa ∧ RdI W' (some ⟨ab1, ao1, none⟩) x2 k2x xb ∧ RdI W' (some ⟨ab2, ao2, none⟩) x3 k3 ya ∧ RdI W' (some ⟨ab3, ao3, none⟩) x4 k4 yb)) (by kernel_rfl) ⟨a0.out, a1.out, a2.out, a3.out, a4.out, a5.out⟩ (fun _ => ?_)
              obtain ⟨v7, g6⟩ : ∃ w', w' = (wr.drew) := ⟨_, rfl⟩
              rw [← g6] at b8 c2 a0 a1 a2 a3 a4 a5 b9
              rw [← g6]
              clear g6
              refine' twH 0 ⟨a0.out, a1.out, a2.out, a3.out, a4.out, a5.out⟩ ?_
              refine' tkH 1 ⟨a0.out, a1.out, a2.out, a3.out, a4.out, a5.out⟩ ?q3 ?_
              case q3 => (rintro W' ⟨hS0, hS1, hS2, hS3, hS4, hS5⟩; have hc0 := Blk.nth hS1 0; clear hS0 hS1 hS2 hS3 hS4 hS5; go_simp; try with_reducible rfl)
              refine' twH 2 ⟨a0.out, a1.out, a2.out, a3.out, a4.out, a5.out⟩ ?_
              refine' twH 3 ⟨a0.out, a1.out, a2.out, a3.out, a4.out, a5.out⟩ ?_
              try simp only [Act.put, qsA, qsZ, qsS]
              refine' twH 7 ⟨a0.out, a1.out, a2.out, a3.out, a4.out, a5.out⟩ ?_
              refine' tkH 8 ⟨a0.out, a1.out, a2.out, a3.out, a4.out, a5.out⟩ ?q4 ?_
              case q4 => (rintro W' ⟨hS0, hS1, hS2, hS3, hS4, hS5⟩; have hc0 := Blk.nth hS1 0; clear hS0 hS1 hS2 hS3 hS4 hS5; go_simp; try with_reducible rfl)
              refine' twH 9 ⟨a0.out, a1.out, a2.out, a3.out, a4.out, a5.out⟩ ?_
              refine' twH 10 ⟨a0.out, a1.out, a2.out, a3.out, a4.out, a5.out⟩ ?_
              try simp only [Act.put, qsA, qsZ, qsS]
              refine' twH 11 ⟨a0.out, a1.out, a2.out, a3.out, a4.out, a5.out⟩ ?_
              refine' tkH 12 ⟨a0.out, a1.out, a2.out, a3.out, a4.out, a5.out⟩ ?q5 ?_
              case q5 => (rintro W' ⟨hS0, hS1, hS2, hS3, hS4, hS5⟩; have hc0 := Blk.nth hS0 6; clear hS0 hS1 hS2 hS3 hS4 hS5; go_simp; try with_reducible rfl)
              refine' twH 13 ⟨a0.out, a1.out, a2.out, a3.out, a4.out, a5.out⟩ ?_
              refine' tkH 14 ⟨a0.out, a1.out, a2.out, a3.out, a4.out, a5.out⟩ ?q6 ?_
              case q6 => (rintro W' ⟨hS0, hS1, hS2, hS3, hS4, hS5⟩; have hc_ := (rdI_at hS2 gb_).1; clear hS0 hS1 hS2 hS3 hS4 hS5; go_simp; try with_reducible rfl)
              try simp only [Act.put, qsA, qsZ, qsS]
              refine' twH 16 ⟨a0.out, a1.out, a2.out, a3.out, a4.out, a5.out⟩ ?_
              refine' tkH 17 ⟨a0.out, a1.out, a2.out, a3.out, a4.out, a5.out⟩ ?q7 ?_
              case q7 => (rintro W' ⟨hS0, hS1, hS2, hS3, hS4, hS5⟩; have hc0 := Blk.nth hS1 1; clear hS0 hS1 hS2 hS3 hS4 hS5; go_simp; try with_reducible rfl)
              refine' twH 18 ⟨a0.out, a1.out, a2.out, a3.out, a4.out, a5.out⟩ ?_
              refine' twH 19 ⟨a0.out, a1.out, a2.out, a3.out, a4.out, a5.out⟩ ?_
              try simp only [Act.put, qsA, qsZ, qsS]
              refine' twH 20 ⟨a0.out, a1.out, a2.out, a3.out, a4.out, a5.out⟩ ?_
              refine' tkH 21 ⟨a0.out, a1.out, a2.out, a3.out, a4.out, a5.out⟩ ?q8 ?_
              case q8 => (rintro W' ⟨hS0, hS1, hS2, hS3, hS4, hS5⟩; have hc0 := Blk.nth hS0 9; clear hS0 hS1 hS2 hS3 hS4 hS5; go_simp; try with_reducible rfl)
              refine' twH 22 ⟨a0.out, a1.out, a2.out, a3.out, a4.out, a5.out⟩ ?_
              refine' tkH 23 ⟨a0.out, a1.out, a2.out, a3.out, a4.out, a5.out⟩ ?q9 ?_
              case q9 => (rintro W' ⟨hS0, hS1, hS2, hS3, hS4, hS5⟩; have hc_ := (rdI_at hS3 gc_).1; clear hS0 hS1 hS2 hS3 hS4 hS5; go_simp; try with_reducible rfl)
              try simp only [Act.put, qsA, qsZ, qsS]
              refine' twH 24 ⟨a0.out, a1.out, a2.out, a3.out, a4.out, a5.out⟩ ?_
              refine' tkH 25 ⟨a0.out, a1.out, a2.out, a3.out, a4.out, a5.out⟩ ?r0 ?_
              case r0 => (rintro W' ⟨hS0, hS1, hS2, hS3, hS4, hS5⟩; have hc0 := Blk.nth hS1 1; clear hS0 hS1 hS2 hS3 hS4 hS5; go_simp; try with_reducible rfl)
              refine' twH 26 ⟨a0.out, a1.out, a2.out, a3.out, a4.out, a5.out⟩ ?_
              refine' twH 27 ⟨a0.out, a1.out, a2.out, a3.out, a4.out, a5.out⟩ ?_
              try simp only [Act.put, qsA, qsZ, qsS]
              refine' tkH 28 ⟨a0.out, a1.out, a2.out, a3.out, a4.out, a5.out⟩ ?g7 ?_
              case g7 => (rintro W' ⟨hS0, hS1, hS2, hS3, hS4, hS5⟩; have hc_ := (rdI_at hS3 gd_).1; clear hS0 hS1 hS2 hS3 hS4 hS5; go_simp; try with_reducible rfl)
              refine' twH 29 ⟨a0.out, a1.out, a2.out, a3.out, a4.out, a5.out⟩ ?_
              try simp only [Act.put, qsA, qsZ, qsS]
              refine oneH 4 rfl fun K hK => ?_
              go_simp
              go_at_call 149
              refine (HV1.out _ (b8.out)).mono ?_
              rintro e s6 ⟨rfl, rfl⟩
              dsimp only
              refine hK.out _ _ ⟨a0.out, a1.out, a2.out, a3.out, a4.out, a5.out⟩ (fun _ => ?_); clear hK K
              try simp only [Act.put, qsA, qsZ, qsS]
              refine' twH 5 ⟨a0.out, a1.out, a2.out, a3.out, a4.out, a5.out⟩ ?_
              refine' tkH 6 ⟨a0.out, a1.out, a2.out, a3.out, a4.out, a5.out⟩ ?g8 ?_
              case g8 => (rintro W' ⟨hS0, hS1, hS2, hS3, hS4, hS5⟩; have hc_ := (rdI_at hS2 ga_).1; clear hS0 hS1 hS2 hS3 hS4 hS5; go_simp; try with_reducible rfl)
              refine' twH 15 ⟨a0.out, a1.out, a2.out, a3.out, a4.out, a5.out⟩ ?_
              refine' twH 30 ⟨a0.out, a1.out, a2.out, a3.out, a4.out, a5.out⟩ ?_
              try simp only [Act.put, qsA, qsZ, qsS]
              refine' twH 31 ⟨a0.out, a1.out, a2.out, a3.out, a4.out, a5.out⟩ ?_
              refine' tkNH 32 ⟨a0.out, a1.out, a2.out, a3.out, a4.out, a5.out⟩ ?_
              refine' tkNH 33 ⟨a0.out, a1.out, a2.out, a3.out, a4.out, a5.out⟩ ?_
              refine' tkNH 34 ⟨a0.out, a1.out, a2.out, a3.out, a4.out, a5.out⟩ ?_
              try simp only [Act.put, qsA, qsZ, qsS]
              refine' tkNH 35 ⟨a0.out, a1.out, a2.out, a3.out, a4.out, a5.out⟩ ?_
              refine' tkNH 36 ⟨a0.out, a1.out, a2.out, a3.out, a4.out, a5.out⟩ ?_
              refine' tkNH 37 ⟨a0.out, a1.out, a2.out, a3.out, a4.out, a5.out⟩ ?_
              refine' tkNH 38 ⟨a0.out, a1.out, a2.out, a3.out, a4.out, a5.out⟩ ?_
              try simp only [Act.put, qsA, qsZ, qsS]
              refine' tkNH 39 ⟨a0.out, a1.out, a2.out, a3.out, a4.out, a5.out⟩ ?_
              refine' tkNH 40 ⟨a0.out, a1.out, a2.out, a3.out, a4.out, a5.out⟩ ?_
              refine' tkNH 41 ⟨a0.out, a1.out, a2.out, a3.out, a4.out, a5.out⟩ ?_
              refine' tkNH 42 ⟨a0.out, a1.out, a2.out, a3.out, a4.out, a5.out⟩ ?_
              try simp only [Act.put, qsA, qsZ, qsS]
              refine' tkNH 43 ⟨a0.out, a1.out, a2.out, a3.out, a4.out, a5.out⟩ ?_
              refine' tkNH 44 ⟨a0.out, a1.out, a2.out, a3.out, a4.out, a5.out⟩ ?_
              refine' tkNH 45 ⟨a0.out, a1.out, a2.out, a3.out, a4.out, a5.out⟩ ?_
              refine' tkNH 46 ⟨a0.out, a1.out, a2.out, a3.out, a4.out, a5.out⟩ ?_
              try simp only [Act.put, qsA, qsZ, qsS]
              refine' tkNH 47 ⟨a0.out, a1.out, a2.out, a3.out, a4.out, a5.out⟩ ?_
              refine' tkNH 48 ⟨a0.out, a1.out, a2.out, a3.out, a4.out, a5.out⟩ ?_
              refine' tkNH 49 ⟨a0.out, a1.out, a2.out, a3.out, a4.out, a5.out⟩ ?_
              refine' tkNH 50 ⟨a0.out, a1.out, a2.out, a3.out, a4.out, a5.out⟩ ?_
              try simp only [Act.put, qsA, qsZ, qsS]
              refine' tkNH 51 ⟨a0.out, a1.out, a2.out, a3.out, a4.out, a5.out⟩ ?_
              refine' tkNH 52 ⟨a0.out, a1.out, a2.out, a3.out, a4.out, a5.out⟩ ?_
              refine' tkNH 53 ⟨a0.out, a1.out, a2.out, a3.out, a4.out, a5.out⟩ ?_
              refine' tkNH 54 ⟨a0.out, a1.out, a2.out, a3.out, a4.out, a5.out⟩ ?_
              try simp only [Act.put, qsA, qsZ, qsS]
              refine' tkNH 55 ⟨a0.out, a1.out, a2.out, a3.out, a4.out, a5.out⟩ ?_
              refine' tkNH 56 ⟨a0.out, a1.out, a2.out, a3.out, a4.out, a5.out⟩ ?_
              refine' tkNH 57 ⟨a0.out, a1.out, a2.out, a3.out, a4.out, a5.out⟩ ?_
              refine' tkNH 58 ⟨a0.out, a1.out, a2.out, a3.out, a4.out, a5.out⟩ ?_
              try simp only [Act.put, qsA, qsZ, qsS]
              refine' tkNH 59 ⟨a0.out, a1.out, a2.out, a3.out, a4.out, a5.out⟩ ?_
              refine' tkNH 60 ⟨a0.out, a1.out, a2.out, a3.out, a4.out, a5.out⟩ ?_
              refine' tkNH 61 ⟨a0.out, a1.out, a2.out, a3.out, a4.out, a5.out⟩ ?_
              refine' tkNH 62 ⟨a0.out, a1.out, a2.out, a3.out, a4.out, a5.out⟩ ?_
              try simp only [Act.put, qsA, qsZ, qsS]
              refine' tkNH 63 ⟨a0.out, a1.out, a2.out, a3.out, a4.out, a5.out⟩ ?_
              refine' twH 64 ⟨a0.out, a1.out, a2.out, a3.out, a4.out, a5.out⟩ ?_
              try simp only [Act.put, qsA, qsZ, qsS]
              refine wpAnyH_done (by kernel_rfl) ?_ _
              go_wp2
              go_ret
              have hrq := HRQ.out
              exact ⟨ret_bool (ties_no (j := q) (by show q < ((p4 : Int) - p3).toNat; omega) (by rw [HTW.out, hd1]; simp)).symm, b9.out⟩
          · have hqe : p4 - p3 = q := by omega
            have hnl : ¬ (r : Int) < (p4 : Int) := by omega
            have HQE := Lib.hid hqe; clear hqe
            obtain ⟨r2, r3, r4, r5, r6, r7, r8, r9, s0, s1⟩ := at10 a0
            obtain ⟨s2, s3, s4, s5⟩ := at4 a1
            go_wp2
            go_ret
            exact ⟨ret_bool (by have h := HTI.out; rw [← HQE.out] at h; first | exact h.symm | simpa using h.symm), b9.out⟩
end Go.Proofs.YtjjmifcjailpaaaGreat
