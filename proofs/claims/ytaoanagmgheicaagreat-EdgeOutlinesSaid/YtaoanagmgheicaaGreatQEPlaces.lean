import Derived.Deep.OwnRows
import Derived.Test.YtaoanagmgheicaaGreatQKeeps
import Derived.Test.YtaoanagmgheicaaGreatQShz
import Derived.Test.YtaoanagmgheicaaGreatQEWays
set_option maxHeartbeats 4000000
set_option linter.unusedSimpArgs false
set_option linter.unusedVariables false
namespace Go.Proofs.YtaoanagmgheicaaGreat
open Go.RowKit
theorem kept_spec {p : Int} {l : List Bnd} {x : List Int} {q : Int} (h : keepsV p l x = (true, q)) : chk p l = 0 ∧ nums p x = true ∧ ∀ c ∈ l, look x c.t ≤ look x c.f + c.m := by
 unfold keepsV at h
 injection h with h _
 rw [Bool.and_eq_true, decide_eq_true_eq] at h
 obtain ⟨h1, h2⟩ := h
 unfold breaksV at h1 h2
 by_cases hk : chk p l = 0
 · rw [if_neg (by simpa using hk)] at h1 h2
   by_cases hn : nums p x = false
   · rw [if_pos hn] at h1; cases h1
   · rw [if_neg hn] at h1 h2
     refine ⟨hk, by simpa using hn, fun c hc => ?_⟩
     cases hf : l.findIdx? (fun b => !keepB x b) with
     | some i => rw [hf] at h2; cases h2
     | none =>
      rw [List.findIdx?_eq_none_iff] at hf
      have := hf c hc
      unfold keepB at this
      simp only [Bool.not_eq_false', decide_eq_true_eq] at this
      omega
 · rw [if_pos hk] at h1; exact absurd h1 hk
end Go.Proofs.YtaoanagmgheicaaGreat
set_option linter.unusedSimpArgs false
set_option linter.unusedVariables false
namespace Go.Proofs.YtaoanagmgheicaaGreat
open Go.RowKit
def near1 (v : Int) : Bool := decide (-100000000 ≤ v ∧ v ≤ 100000000)
def keptV (P : Int) (l : List Bnd) (x : List Int) : Bool := x.all near1 && (keepsV P l x).1
set_option maxRecDepth 100000 in
theorem areKept_any (P : Int) (A : Option Addr) (n k : Nat) (l : List Bnd) (w : World) (h1 : RdB w A n k l) (hn : n ≤ maxLen) (X : Option Addr) (xn xk : Nat) (x : List Int) (hx : RdI w X xn xk x) (hxm : xn ≤ maxLen) :
 Calls Tryz.prog 127 #[.agg #[.int .i64 P, .slice A n k], .slice X xn xk] w fun e w' => e = .returned (.bool (keptV P l x)) ∧ Below w.heap.size w w' := by
 have hxm' := hxm
 unfold maxLen at hxm'
 have X0 := Lib.hid hx
 go_enter Tryz.func127, Tryz.ntmps127
 obtain ⟨bs_1, bel_2⟩ := ent1 w #[.int .i64 P, .slice A n k] 46
 have r1_3 := rI h1 bel_2
 have rx_4 := iI hx bel_2
 clear h1 hx
 obtain ⟨z_5, z_6⟩ := at2 bs_1
 go_wp2
 clear z_5 z_6
 go_loopw [11] (fun i wr => ∃ q : Nat, q ≤ xn ∧ i = .int .i64 q ∧ (x.take q).all near1 = true ∧ Blk wr w.heap.size 46 #[.int .i64 P, .slice A n k] ∧ RdB wr A n k l ∧ RdI wr X xn xk x ∧ Below w.heap.size w wr) (fun i _ => xn - (intOf i).toNat)
 case atStart => exact ⟨0, Nat.zero_le _, rfl, rfl, bs_1.out, r1_3.out, rx_4.out, bel_2.out⟩
 case round =>
  clear bel_2 r1_3 rx_4 bs_1
  obtain ⟨q, hq, rfl, hall, i1, i2, i3, i4⟩ := hrel
  have bs_1007 := Lib.hid (i1)
  have r1_1008 := Lib.hid (i2)
  have rx_1009 := Lib.hid (i3)
  have bel_1010 := Lib.hid (i4)
  clear i1 i2 i3 i4
  have HALL := Lib.hid hall; clear hall
  by_cases hlt : q < xn
  · have hlt' : (q : Int) < xn := by omega
    obtain ⟨xb, xo, v, hX, xlt, hxq, hxc⟩ := RdI.get (rx_1009.out) hlt
    subst hX
    have HXQ := Lib.hid hxq; clear hxq
    obtain ⟨z_2011, z_2012⟩ := at2 bs_1007
    by_cases hv1 : -100000000 ≤ v
    · by_cases hv2 : v ≤ 100000000
      · go_wp2
        go_roundw
        case rel => exact ⟨q + 1, by omega, by go_num, (by rw [List.take_add_one, HXQ.out, List.all_append, HALL.out]; simp [near1]; omega), bs_1007.out, r1_1008.out, rx_1009.out, bel_1010.out⟩
        case measure => simp [intOf]; omega
      · go_wp2
        go_ret
        exact ⟨ret_bool (by unfold keptV; rw [List.all_eq_false.2 ⟨v, List.mem_of_getElem? HXQ.out, by simp [near1]; omega⟩]; rfl), bel_1010.out⟩
    · go_wp2
      go_ret
      exact ⟨ret_bool (by unfold keptV; rw [List.all_eq_false.2 ⟨v, List.mem_of_getElem? HXQ.out, by simp [near1]; omega⟩]; rfl), bel_1010.out⟩
  · obtain rfl : xn = q := by omega
    obtain ⟨z_2011, z_2012⟩ := at2 bs_1007
    have hall := HALL.out; rw [List.take_of_length_le (by rw [X0.out.len]; omega)] at hall
    have HA2 := Lib.hid hall; clear hall
    obtain ⟨V, hV⟩ : ∃ V, keepsV P l x = V := ⟨_, rfl⟩
    have hc := Keeps_any P A X n k xn xk l x _ r1_1008.out hn rx_1009.out hxm
    rw [hV] at hc
    have HV := Lib.hid hV; clear hV
    obtain ⟨V1, V2⟩ := V
    dsimp only at hc
    have hc := hc
    have HC := Lib.hid hc; clear hc
    go_wp2_with fail
    refine HC.out.mono ?_
    rintro e w_2013 ⟨rfl, hb⟩
    clear HC
    clear z_2011 z_2012
    have hb_2014 := Lib.hid hb
    clear hb
    go_wp2
    go_ret
    replace bel_1010 := bH bel_1010 hb_2014
    exact ⟨ret_bool (by unfold keptV; rw [HA2.out, HV.out]; rfl), bel_1010.out⟩
theorem areKept_is (P : Int) (A : Option Addr) (n k : Nat) (l : List Bnd) (w : World) (h1 : RdB w A n k l) (hn : n ≤ maxLen) (X : Option Addr) (xn xk : Nat) (x : List Int) (hx : RdI w X xn xk x) (hxm : xn ≤ maxLen) (b : Bool) (hb : keptV P l x = b) :
 Calls Tryz.prog 127 #[.agg #[.int .i64 P, .slice A n k], .slice X xn xk] w fun e w' => e = .returned (.bool b) ∧ Below w.heap.size w w' := by
 subst hb
 exact areKept_any P A n k l w h1 hn X xn xk x hx hxm
def tieW (p : Prg) (xa xb : List Int) (q : Int) : Bool := decide (look xa (p.af + p.bt - q) - look xa p.af = look xb p.bt - look xb q)
def tieT (p : Prg) (ya yb : List Int) (q : Int) : Bool := decide (look ya (p.af + p.bt - 1 - q) - look ya p.af = look yb q - look yb (p.bt - 1))
def ties (p : Prg) (xa xb ya yb : List Int) (n : Nat) : Bool := (List.range n).all fun j => tieW p xa xb (p.bf + j) && tieT p ya yb (p.bf + j)
def plB (a b : Otl) (p : Prg) (xa xb ya yb : List Int) : Bool :=
 keptV (a.c + 1) a.ws xa && keptV (b.c + 1) b.ws xb && keptV a.c a.ts ya && keptV b.c b.ts yb && ties p xa xb ya yb (p.bt - p.bf).toNat
theorem ties_succ (p : Prg) (xa xb ya yb : List Int) (n : Nat) : ties p xa xb ya yb (n + 1) = (ties p xa xb ya yb n && (tieW p xa xb (p.bf + n) && tieT p ya yb (p.bf + n))) := by
 unfold ties
 rw [List.range_succ, List.all_append]
 simp
theorem ties_no {p : Prg} {xa xb ya yb : List Int} {n j : Nat} (hj : j < n) (h : (tieW p xa xb (p.bf + j) && tieT p ya yb (p.bf + j)) = false) : ties p xa xb ya yb n = false := by
 unfold ties
 rw [List.all_eq_false]
 exact ⟨j, List.mem_range.2 hj, by simpa using h⟩
theorem kept_facts {P : Int} {l : List Bnd} {x : List Int} (h : keptV P l x = true) : (x.length : Int) = P ∧ ∀ i, i < x.length → -100000000 ≤ at_ x i ∧ at_ x i ≤ 100000000 := by
 unfold keptV at h
 rw [Bool.and_eq_true] at h
 obtain ⟨h1, h2⟩ := h
 obtain ⟨-, hn, -⟩ := kept_spec (q := (keepsV P l x).2) (Prod.ext h2 rfl)
 refine ⟨(nums_at hn).1, fun i hi => ?_⟩
 have := List.all_eq_true.1 h1 (x[i]) (List.getElem_mem hi)
 simp only [near1, decide_eq_true_eq] at this
 simpa [at_, List.getD_eq_getElem?_getD, List.getElem?_eq_getElem hi] using this
theorem get_of {x : List Int} {i : Nat} (h : i < x.length) : x[i]? = some (at_ x i) := by
 simp [at_, List.getD_eq_getElem?_getD, List.getElem?_eq_getElem h]
set_option maxRecDepth 100000 in
theorem isPlacement_any (c : Int) (A B : Option Addr) (n k m j : Nat) (ws ts : List Bnd) (d : Int) (C D : Option Addr) (n2 k2 m2 j2 : Nat) (ws2 ts2 : List Bnd) (p1 p2 p3 p4 : Nat) (X1 : Option Addr) (x1 k1 : Nat) (xa : List Int) (X2 : Option Addr) (x2 k2x : Nat) (xb : List Int) (X3 : Option Addr) (x3 k3 : Nat) (ya : List Int) (X4 : Option Addr) (x4 k4 : Nat) (yb : List Int) (w : World) (h1 : RdB w A n k ws) (h2 : RdB w B m j ts) (hn : n ≤ maxLen) (hm : m ≤ maxLen) (h3 : RdB w C n2 k2 ws2) (h4 : RdB w D m2 j2 ts2) (hn2 : n2 ≤ maxLen) (hm2 : m2 ≤ maxLen) (hx0 : RdI w X1 x1 k1 xa) (hl0 : x1 ≤ maxLen) (hx1 : RdI w X2 x2 k2x xb) (hl1 : x2 ≤ maxLen) (hx2 : RdI w X3 x3 k3 ya) (hl2 : x3 ≤ maxLen) (hx3 : RdI w X4 x4 k4 yb) (hl3 : x4 ≤ maxLen) (hq : chkP ⟨c, ws, ts⟩ ⟨d, ws2, ts2⟩ ⟨p1, p2, p3, p4⟩ = 0) :
 Calls Tryz.prog 89 #[.agg #[.int .i64 c, .slice A n k, .slice B m j, .int .i64 d, .slice C n2 k2, .slice D m2 j2, .int .i64 p1, .int .i64 p2, .int .i64 p3, .int .i64 p4], .agg #[.slice X1 x1 k1, .slice X2 x2 k2x, .slice X3 x3 k3, .slice X4 x4 k4]] w fun e w' => e = .returned (.bool (plB ⟨c, ws, ts⟩ ⟨d, ws2, ts2⟩ ⟨p1, p2, p3, p4⟩ xa xb ya yb)) ∧ Below w.heap.size w w' := by
 obtain ⟨oa, ob, sa, sb, hk⟩ := chkP_ok hq
 obtain ⟨ga1, ga2, -, -⟩ := chkO_ok oa
 obtain ⟨gb1, gb2, -, -⟩ := chkO_ok ob
 dsimp only at sa sb hk ga1 ga2 gb1 gb2
 clear oa ob hq
 unfold plB
 dsimp only
 cases e0 : keptV (c + 1) ws xa
 · have EK0 := Lib.hid e0; clear e0
   simp only [Bool.false_and]
   go_enter Tryz.func89, Tryz.ntmps89
   obtain ⟨bx_1, by_2, bel_3⟩ := ent2 w #[.int .i64 c, .slice A n k, .slice B m j, .int .i64 d, .slice C n2 k2, .slice D m2 j2, .int .i64 p1, .int .i64 p2, .int .i64 p3, .int .i64 p4] 101 #[.slice X1 x1 k1, .slice X2 x2 k2x, .slice X3 x3 k3, .slice X4 x4 k4] 54
   have ra_4 := rI h1 bel_3
   have rb_5 := rI h2 bel_3
   have rc_6 := rI h3 bel_3
   have rd_7 := rI h4 bel_3
   have l0_8 := iI hx0 bel_3
   have l1_9 := iI hx1 bel_3
   have l2_10 := iI hx2 bel_3
   have l3_11 := iI hx3 bel_3
   clear h1 h2 h3 h4 hx0 hx1 hx2 hx3
   go_wp2_with fail
   replace bel_3 := bD bel_3
   replace ra_4 := rD ra_4
   replace rb_5 := rD rb_5
   replace rc_6 := rD rc_6
   replace rd_7 := rD rd_7
   replace l0_8 := iD l0_8
   replace l1_9 := iD l1_9
   replace l2_10 := iD l2_10
   replace l3_11 := iD l3_11
   replace bx_1 := kD bx_1
   replace by_2 := kD by_2
   refine wp_region_held_drew (S := (fun W' => Blk W' (w.heap.size) 101 #[.int .i64 c, .slice A n k, .slice B m j, .int .i64 d, .slice C n2 k2, .slice D m2 j2, .int .i64 p1, .int .i64 p2, .int .i64 p3, .int .i64 p4] ∧ Blk W' (w.heap.size + 1) 54 #[.slice X1 x1 k1, .slice X2 x2 k2x, .slice X3 x3 k3, .slice X4 x4 k4])) (by kernel_rfl) ⟨bx_1.out, by_2.out⟩ (fun _ => ?_)
   obtain ⟨w884, hw885⟩ : ∃ w', w' = (((w.alloc (.cells #[.int .i64 c, .slice A n k, .slice B m j, .int .i64 d, .slice C n2 k2, .slice D m2 j2, .int .i64 p1, .int .i64 p2, .int .i64 p3, .int .i64 p4] 101)).alloc (.cells #[.slice X1 x1 k1, .slice X2 x2 k2x, .slice X3 x3 k3, .slice X4 x4 k4] 54)).drew) := ⟨_, rfl⟩
   rw [← hw885] at bel_3 ra_4 rb_5 rc_6 rd_7 l0_8 l1_9 l2_10 l3_11 bx_1 by_2
   rw [← hw885]
   clear hw885
   refine' twH 0 ⟨bx_1.out, by_2.out⟩ ?_
   refine' twH 1 ⟨bx_1.out, by_2.out⟩ ?_
   refine' tkH 2 ⟨bx_1.out, by_2.out⟩ ?hyR888 ?_
   case hyR888 => (rintro W' ⟨hS0, hS1⟩; have hc0 := Blk.nth hS0 0; have hc1 := Blk.nth hS0 1; have hc2 := Blk.nth hS0 2; clear hS0 hS1; go_simp; try with_reducible rfl)
   refine' twH 4 ⟨bx_1.out, by_2.out⟩ ?_
   try simp only [Act.put, qsA, qsZ, qsS]
   refine' tkH 5 ⟨bx_1.out, by_2.out⟩ ?hyR890 ?_
   case hyR890 => (rintro W' ⟨hS0, hS1⟩; have hc0 := Blk.nth hS1 0; clear hS0 hS1; go_simp; try with_reducible rfl)
   try simp only [Act.put, qsA, qsZ, qsS]
   refine oneH 3 rfl fun K hK => ?_
   go_simp
   go_at_call 63
   refine (ownWays_any c A B n k m j _ (by omega) (by omega)).mono ?_
   rintro e w891 ⟨rfl, hb892⟩
   dsimp only
   replace hb892 := Lib.hid hb892
   replace bx_1 := kH bx_1 hb892
   replace by_2 := kH by_2 hb892
   refine hK.out _ _ ⟨bx_1.out, by_2.out⟩ (fun _ => ?_); clear hK K
   try simp only [Act.put, qsA, qsZ, qsS]
   refine oneH 6 rfl fun K hK => ?_
   replace ra_4 := rH ra_4 hb892
   replace l0_8 := iH l0_8 hb892
   go_simp
   go_at_call 127
   refine (areKept_is (c + 1) A n k ws _ ra_4.out hn X1 x1 k1 xa l0_8.out hl0 _ EK0.out).mono ?_
   rintro e w893 ⟨rfl, hb894⟩
   dsimp only
   replace hb894 := Lib.hid hb894
   replace bx_1 := kH bx_1 hb894
   replace by_2 := kH by_2 hb894
   refine hK.out _ _ ⟨bx_1.out, by_2.out⟩ (fun _ => ?_); clear hK K
   try simp only [Act.put, qsA, qsZ, qsS]
   refine' twH 7 ⟨bx_1.out, by_2.out⟩ ?_
   refine' twH 8 ⟨bx_1.out, by_2.out⟩ ?_
   refine' tkNH 9 ⟨bx_1.out, by_2.out⟩ ?_
   refine' tkNH 10 ⟨bx_1.out, by_2.out⟩ ?_
   try simp only [Act.put, qsA, qsZ, qsS]
   refine' tkNH 11 ⟨bx_1.out, by_2.out⟩ ?_
   refine' tkNH 12 ⟨bx_1.out, by_2.out⟩ ?_
   refine' tkNH 13 ⟨bx_1.out, by_2.out⟩ ?_
   refine' tkNH 14 ⟨bx_1.out, by_2.out⟩ ?_
   try simp only [Act.put, qsA, qsZ, qsS]
   refine' tkNH 15 ⟨bx_1.out, by_2.out⟩ ?_
   refine' tkNH 16 ⟨bx_1.out, by_2.out⟩ ?_
   refine' twH 17 ⟨bx_1.out, by_2.out⟩ ?_
   try simp only [Act.put, qsA, qsZ, qsS]
   refine wpAnyH_done (by kernel_rfl) ?_ _
   go_wp2
   go_ret
   replace bel_3 := bH (bH bel_3 hb892) hb894
   exact ⟨rfl, bel_3.out⟩
 · have EK0 := Lib.hid e0; clear e0
   cases e1 : keptV (d + 1) ws2 xb
   · have EK1 := Lib.hid e1; clear e1
     simp only [Bool.false_and, Bool.and_false]
     go_enter Tryz.func89, Tryz.ntmps89
     obtain ⟨bx_1, by_2, bel_3⟩ := ent2 w #[.int .i64 c, .slice A n k, .slice B m j, .int .i64 d, .slice C n2 k2, .slice D m2 j2, .int .i64 p1, .int .i64 p2, .int .i64 p3, .int .i64 p4] 101 #[.slice X1 x1 k1, .slice X2 x2 k2x, .slice X3 x3 k3, .slice X4 x4 k4] 54
     have ra_4 := rI h1 bel_3
     have rb_5 := rI h2 bel_3
     have rc_6 := rI h3 bel_3
     have rd_7 := rI h4 bel_3
     have l0_8 := iI hx0 bel_3
     have l1_9 := iI hx1 bel_3
     have l2_10 := iI hx2 bel_3
     have l3_11 := iI hx3 bel_3
     clear h1 h2 h3 h4 hx0 hx1 hx2 hx3
     go_wp2_with fail
     replace bel_3 := bD bel_3
     replace ra_4 := rD ra_4
     replace rb_5 := rD rb_5
     replace rc_6 := rD rc_6
     replace rd_7 := rD rd_7
     replace l0_8 := iD l0_8
     replace l1_9 := iD l1_9
     replace l2_10 := iD l2_10
     replace l3_11 := iD l3_11
     replace bx_1 := kD bx_1
     replace by_2 := kD by_2
     refine wp_region_held_drew (S := (fun W' => Blk W' (w.heap.size) 101 #[.int .i64 c, .slice A n k, .slice B m j, .int .i64 d, .slice C n2 k2, .slice D m2 j2, .int .i64 p1, .int .i64 p2, .int .i64 p3, .int .i64 p4] ∧ Blk W' (w.heap.size + 1) 54 #[.slice X1 x1 k1, .slice X2 x2 k2x, .slice X3 x3 k3, .slice X4 x4 k4])) (by kernel_rfl) ⟨bx_1.out, by_2.out⟩ (fun _ => ?_)
     obtain ⟨w906, hw907⟩ : ∃ w', w' = (((w.alloc (.cells #[.int .i64 c, .slice A n k, .slice B m j, .int .i64 d, .slice C n2 k2, .slice D m2 j2, .int .i64 p1, .int .i64 p2, .int .i64 p3, .int .i64 p4] 101)).alloc (.cells #[.slice X1 x1 k1, .slice X2 x2 k2x, .slice X3 x3 k3, .slice X4 x4 k4] 54)).drew) := ⟨_, rfl⟩
     rw [← hw907] at bel_3 ra_4 rb_5 rc_6 rd_7 l0_8 l1_9 l2_10 l3_11 bx_1 by_2
     rw [← hw907]
     clear hw907
     refine' twH 0 ⟨bx_1.out, by_2.out⟩ ?_
     refine' twH 1 ⟨bx_1.out, by_2.out⟩ ?_
     refine' tkH 2 ⟨bx_1.out, by_2.out⟩ ?hyR910 ?_
     case hyR910 => (rintro W' ⟨hS0, hS1⟩; have hc0 := Blk.nth hS0 0; have hc1 := Blk.nth hS0 1; have hc2 := Blk.nth hS0 2; clear hS0 hS1; go_simp; try with_reducible rfl)
     refine' twH 4 ⟨bx_1.out, by_2.out⟩ ?_
     try simp only [Act.put, qsA, qsZ, qsS]
     refine' tkH 5 ⟨bx_1.out, by_2.out⟩ ?hyR912 ?_
     case hyR912 => (rintro W' ⟨hS0, hS1⟩; have hc0 := Blk.nth hS1 0; clear hS0 hS1; go_simp; try with_reducible rfl)
     try simp only [Act.put, qsA, qsZ, qsS]
     refine oneH 3 rfl fun K hK => ?_
     go_simp
     go_at_call 63
     refine (ownWays_any c A B n k m j _ (by omega) (by omega)).mono ?_
     rintro e w913 ⟨rfl, hb914⟩
     dsimp only
     replace hb914 := Lib.hid hb914
     replace bx_1 := kH bx_1 hb914
     replace by_2 := kH by_2 hb914
     refine hK.out _ _ ⟨bx_1.out, by_2.out⟩ (fun _ => ?_); clear hK K
     try simp only [Act.put, qsA, qsZ, qsS]
     refine oneH 6 rfl fun K hK => ?_
     replace ra_4 := rH ra_4 hb914
     replace l0_8 := iH l0_8 hb914
     go_simp
     go_at_call 127
     refine (areKept_is (c + 1) A n k ws _ ra_4.out hn X1 x1 k1 xa l0_8.out hl0 _ EK0.out).mono ?_
     rintro e w915 ⟨rfl, hb916⟩
     dsimp only
     replace hb916 := Lib.hid hb916
     replace bx_1 := kH bx_1 hb916
     replace by_2 := kH by_2 hb916
     refine hK.out _ _ ⟨bx_1.out, by_2.out⟩ (fun _ => ?_); clear hK K
     try simp only [Act.put, qsA, qsZ, qsS]
     refine' twH 7 ⟨bx_1.out, by_2.out⟩ ?_
     refine' twH 8 ⟨bx_1.out, by_2.out⟩ ?_
     refine' twH 9 ⟨bx_1.out, by_2.out⟩ ?_
     refine' twH 10 ⟨bx_1.out, by_2.out⟩ ?_
     try simp only [Act.put, qsA, qsZ, qsS]
     refine' tkH 11 ⟨bx_1.out, by_2.out⟩ ?hyR921 ?_
     case hyR921 => (rintro W' ⟨hS0, hS1⟩; have hc0 := Blk.nth hS0 3; have hc1 := Blk.nth hS0 4; have hc2 := Blk.nth hS0 5; clear hS0 hS1; go_simp; try with_reducible rfl)
     refine' twH 13 ⟨bx_1.out, by_2.out⟩ ?_
     refine' tkH 14 ⟨bx_1.out, by_2.out⟩ ?hyR923 ?_
     case hyR923 => (rintro W' ⟨hS0, hS1⟩; have hc0 := Blk.nth hS1 1; clear hS0 hS1; go_simp; try with_reducible rfl)
     try simp only [Act.put, qsA, qsZ, qsS]
     refine oneH 12 rfl fun K hK => ?_
     go_simp
     go_at_call 63
     refine (ownWays_any d C D n2 k2 m2 j2 _ (by omega) (by omega)).mono ?_
     rintro e w924 ⟨rfl, hb925⟩
     dsimp only
     replace hb925 := Lib.hid hb925
     replace bx_1 := kH bx_1 hb925
     replace by_2 := kH by_2 hb925
     refine hK.out _ _ ⟨bx_1.out, by_2.out⟩ (fun _ => ?_); clear hK K
     try simp only [Act.put, qsA, qsZ, qsS]
     refine oneH 15 rfl fun K hK => ?_
     replace rc_6 := rH (rH (rH rc_6 hb914) hb916) hb925
     replace l1_9 := iH (iH (iH l1_9 hb914) hb916) hb925
     go_simp
     go_at_call 127
     refine (areKept_is (d + 1) C n2 k2 ws2 _ rc_6.out hn2 X2 x2 k2x xb l1_9.out hl1 _ EK1.out).mono ?_
     rintro e w926 ⟨rfl, hb927⟩
     dsimp only
     replace hb927 := Lib.hid hb927
     replace bx_1 := kH bx_1 hb927
     replace by_2 := kH by_2 hb927
     refine hK.out _ _ ⟨bx_1.out, by_2.out⟩ (fun _ => ?_); clear hK K
     try simp only [Act.put, qsA, qsZ, qsS]
     refine' twH 16 ⟨bx_1.out, by_2.out⟩ ?_
     refine' twH 17 ⟨bx_1.out, by_2.out⟩ ?_
     try simp only [Act.put, qsA, qsZ, qsS]
     refine wpAnyH_done (by kernel_rfl) ?_ _
     go_wp2
     go_ret
     replace bel_3 := bH (bH (bH (bH bel_3 hb914) hb916) hb925) hb927
     exact ⟨rfl, bel_3.out⟩
   · have EK1 := Lib.hid e1; clear e1
     cases e2 : keptV c ts ya
     · have EK2 := Lib.hid e2; clear e2
       simp only [Bool.false_and, Bool.and_false]
       go_enter Tryz.func89, Tryz.ntmps89
       obtain ⟨bx_1, by_2, bel_3⟩ := ent2 w #[.int .i64 c, .slice A n k, .slice B m j, .int .i64 d, .slice C n2 k2, .slice D m2 j2, .int .i64 p1, .int .i64 p2, .int .i64 p3, .int .i64 p4] 101 #[.slice X1 x1 k1, .slice X2 x2 k2x, .slice X3 x3 k3, .slice X4 x4 k4] 54
       have ra_4 := rI h1 bel_3
       have rb_5 := rI h2 bel_3
       have rc_6 := rI h3 bel_3
       have rd_7 := rI h4 bel_3
       have l0_8 := iI hx0 bel_3
       have l1_9 := iI hx1 bel_3
       have l2_10 := iI hx2 bel_3
       have l3_11 := iI hx3 bel_3
       clear h1 h2 h3 h4 hx0 hx1 hx2 hx3
       go_wp2_with fail
       replace bel_3 := bD bel_3
       replace ra_4 := rD ra_4
       replace rb_5 := rD rb_5
       replace rc_6 := rD rc_6
       replace rd_7 := rD rd_7
       replace l0_8 := iD l0_8
       replace l1_9 := iD l1_9
       replace l2_10 := iD l2_10
       replace l3_11 := iD l3_11
       replace bx_1 := kD bx_1
       replace by_2 := kD by_2
       refine wp_region_held_drew (S := (fun W' => Blk W' (w.heap.size) 101 #[.int .i64 c, .slice A n k, .slice B m j, .int .i64 d, .slice C n2 k2, .slice D m2 j2, .int .i64 p1, .int .i64 p2, .int .i64 p3, .int .i64 p4] ∧ Blk W' (w.heap.size + 1) 54 #[.slice X1 x1 k1, .slice X2 x2 k2x, .slice X3 x3 k3, .slice X4 x4 k4])) (by kernel_rfl) ⟨bx_1.out, by_2.out⟩ (fun _ => ?_)
       obtain ⟨w930, hw931⟩ : ∃ w', w' = (((w.alloc (.cells #[.int .i64 c, .slice A n k, .slice B m j, .int .i64 d, .slice C n2 k2, .slice D m2 j2, .int .i64 p1, .int .i64 p2, .int .i64 p3, .int .i64 p4] 101)).alloc (.cells #[.slice X1 x1 k1, .slice X2 x2 k2x, .slice X3 x3 k3, .slice X4 x4 k4] 54)).drew) := ⟨_, rfl⟩
       rw [← hw931] at bel_3 ra_4 rb_5 rc_6 rd_7 l0_8 l1_9 l2_10 l3_11 bx_1 by_2
       rw [← hw931]
       clear hw931
       refine' twH 0 ⟨bx_1.out, by_2.out⟩ ?_
       refine' twH 1 ⟨bx_1.out, by_2.out⟩ ?_
       refine' tkH 2 ⟨bx_1.out, by_2.out⟩ ?hyR934 ?_
       case hyR934 => (rintro W' ⟨hS0, hS1⟩; have hc0 := Blk.nth hS0 0; have hc1 := Blk.nth hS0 1; have hc2 := Blk.nth hS0 2; clear hS0 hS1; go_simp; try with_reducible rfl)
       refine' twH 4 ⟨bx_1.out, by_2.out⟩ ?_
       try simp only [Act.put, qsA, qsZ, qsS]
       refine' tkH 5 ⟨bx_1.out, by_2.out⟩ ?hyR936 ?_
       case hyR936 => (rintro W' ⟨hS0, hS1⟩; have hc0 := Blk.nth hS1 0; clear hS0 hS1; go_simp; try with_reducible rfl)
       try simp only [Act.put, qsA, qsZ, qsS]
       refine oneH 3 rfl fun K hK => ?_
       go_simp
       go_at_call 63
       refine (ownWays_any c A B n k m j _ (by omega) (by omega)).mono ?_
       rintro e w937 ⟨rfl, hb938⟩
       dsimp only
       replace hb938 := Lib.hid hb938
       replace bx_1 := kH bx_1 hb938
       replace by_2 := kH by_2 hb938
       refine hK.out _ _ ⟨bx_1.out, by_2.out⟩ (fun _ => ?_); clear hK K
       try simp only [Act.put, qsA, qsZ, qsS]
       refine oneH 6 rfl fun K hK => ?_
       replace ra_4 := rH ra_4 hb938
       replace l0_8 := iH l0_8 hb938
       go_simp
       go_at_call 127
       refine (areKept_is (c + 1) A n k ws _ ra_4.out hn X1 x1 k1 xa l0_8.out hl0 _ EK0.out).mono ?_
       rintro e w939 ⟨rfl, hb940⟩
       dsimp only
       replace hb940 := Lib.hid hb940
       replace bx_1 := kH bx_1 hb940
       replace by_2 := kH by_2 hb940
       refine hK.out _ _ ⟨bx_1.out, by_2.out⟩ (fun _ => ?_); clear hK K
       try simp only [Act.put, qsA, qsZ, qsS]
       refine' twH 7 ⟨bx_1.out, by_2.out⟩ ?_
       refine' twH 8 ⟨bx_1.out, by_2.out⟩ ?_
       refine' twH 9 ⟨bx_1.out, by_2.out⟩ ?_
       refine' twH 10 ⟨bx_1.out, by_2.out⟩ ?_
       try simp only [Act.put, qsA, qsZ, qsS]
       refine' tkH 11 ⟨bx_1.out, by_2.out⟩ ?hyR945 ?_
       case hyR945 => (rintro W' ⟨hS0, hS1⟩; have hc0 := Blk.nth hS0 3; have hc1 := Blk.nth hS0 4; have hc2 := Blk.nth hS0 5; clear hS0 hS1; go_simp; try with_reducible rfl)
       refine' twH 13 ⟨bx_1.out, by_2.out⟩ ?_
       refine' tkH 14 ⟨bx_1.out, by_2.out⟩ ?hyR947 ?_
       case hyR947 => (rintro W' ⟨hS0, hS1⟩; have hc0 := Blk.nth hS1 1; clear hS0 hS1; go_simp; try with_reducible rfl)
       try simp only [Act.put, qsA, qsZ, qsS]
       refine oneH 12 rfl fun K hK => ?_
       go_simp
       go_at_call 63
       refine (ownWays_any d C D n2 k2 m2 j2 _ (by omega) (by omega)).mono ?_
       rintro e w948 ⟨rfl, hb949⟩
       dsimp only
       replace hb949 := Lib.hid hb949
       replace bx_1 := kH bx_1 hb949
       replace by_2 := kH by_2 hb949
       refine hK.out _ _ ⟨bx_1.out, by_2.out⟩ (fun _ => ?_); clear hK K
       try simp only [Act.put, qsA, qsZ, qsS]
       refine oneH 15 rfl fun K hK => ?_
       replace rc_6 := rH (rH (rH rc_6 hb938) hb940) hb949
       replace l1_9 := iH (iH (iH l1_9 hb938) hb940) hb949
       go_simp
       go_at_call 127
       refine (areKept_is (d + 1) C n2 k2 ws2 _ rc_6.out hn2 X2 x2 k2x xb l1_9.out hl1 _ EK1.out).mono ?_
       rintro e w950 ⟨rfl, hb951⟩
       dsimp only
       replace hb951 := Lib.hid hb951
       replace bx_1 := kH bx_1 hb951
       replace by_2 := kH by_2 hb951
       refine hK.out _ _ ⟨bx_1.out, by_2.out⟩ (fun _ => ?_); clear hK K
       try simp only [Act.put, qsA, qsZ, qsS]
       refine' twH 16 ⟨bx_1.out, by_2.out⟩ ?_
       refine' twH 17 ⟨bx_1.out, by_2.out⟩ ?_
       try simp only [Act.put, qsA, qsZ, qsS]
       refine wpAnyH_done (by kernel_rfl) ?_ _
       go_wp2_with fail
       replace bel_3 := bD (bH (bH (bH (bH bel_3 hb938) hb940) hb949) hb951)
       replace ra_4 := rD (rH (rH (rH ra_4 hb940) hb949) hb951)
       replace rb_5 := rD (rH (rH (rH (rH rb_5 hb938) hb940) hb949) hb951)
       replace rc_6 := rD (rH rc_6 hb951)
       replace rd_7 := rD (rH (rH (rH (rH rd_7 hb938) hb940) hb949) hb951)
       replace l0_8 := iD (iH (iH (iH l0_8 hb940) hb949) hb951)
       replace l1_9 := iD (iH l1_9 hb951)
       replace l2_10 := iD (iH (iH (iH (iH l2_10 hb938) hb940) hb949) hb951)
       replace l3_11 := iD (iH (iH (iH (iH l3_11 hb938) hb940) hb949) hb951)
       replace bx_1 := kD bx_1
       replace by_2 := kD by_2
       refine wp_region_held_drew (S := (fun W' => Blk W' (w.heap.size) 101 #[.int .i64 c, .slice A n k, .slice B m j, .int .i64 d, .slice C n2 k2, .slice D m2 j2, .int .i64 p1, .int .i64 p2, .int .i64 p3, .int .i64 p4] ∧ Blk W' (w.heap.size + 1) 54 #[.slice X1 x1 k1, .slice X2 x2 k2x, .slice X3 x3 k3, .slice X4 x4 k4])) (by kernel_rfl) ⟨bx_1.out, by_2.out⟩ (fun _ => ?_)
       obtain ⟨w954, hw955⟩ : ∃ w', w' = (w950.drew) := ⟨_, rfl⟩
       rw [← hw955] at bel_3 ra_4 rb_5 rc_6 rd_7 l0_8 l1_9 l2_10 l3_11 bx_1 by_2
       rw [← hw955]
       clear hw955
       refine' twH 0 ⟨bx_1.out, by_2.out⟩ ?_
       refine' twH 1 ⟨bx_1.out, by_2.out⟩ ?_
       refine' tkH 2 ⟨bx_1.out, by_2.out⟩ ?hyR958 ?_
       case hyR958 => (rintro W' ⟨hS0, hS1⟩; have hc0 := Blk.nth hS0 0; have hc1 := Blk.nth hS0 1; have hc2 := Blk.nth hS0 2; clear hS0 hS1; go_simp; try with_reducible rfl)
       refine' twH 4 ⟨bx_1.out, by_2.out⟩ ?_
       try simp only [Act.put, qsA, qsZ, qsS]
       refine' tkH 5 ⟨bx_1.out, by_2.out⟩ ?hyR960 ?_
       case hyR960 => (rintro W' ⟨hS0, hS1⟩; have hc0 := Blk.nth hS1 2; clear hS0 hS1; go_simp; try with_reducible rfl)
       try simp only [Act.put, qsA, qsZ, qsS]
       refine oneH 3 rfl fun K hK => ?_
       go_simp
       go_at_call 63
       refine (ownTurns_any c A B n k m j _).mono ?_
       rintro e w961 ⟨rfl, hb962⟩
       dsimp only
       replace hb962 := Lib.hid hb962
       replace bx_1 := kH bx_1 hb962
       replace by_2 := kH by_2 hb962
       refine hK.out _ _ ⟨bx_1.out, by_2.out⟩ (fun _ => ?_); clear hK K
       try simp only [Act.put, qsA, qsZ, qsS]
       refine oneH 6 rfl fun K hK => ?_
       replace rb_5 := rH rb_5 hb962
       replace l2_10 := iH l2_10 hb962
       go_simp
       go_at_call 127
       refine (areKept_is c B m j ts _ rb_5.out hm X3 x3 k3 ya l2_10.out hl2 _ EK2.out).mono ?_
       rintro e w963 ⟨rfl, hb964⟩
       dsimp only
       replace hb964 := Lib.hid hb964
       replace bx_1 := kH bx_1 hb964
       replace by_2 := kH by_2 hb964
       refine hK.out _ _ ⟨bx_1.out, by_2.out⟩ (fun _ => ?_); clear hK K
       try simp only [Act.put, qsA, qsZ, qsS]
       refine' twH 7 ⟨bx_1.out, by_2.out⟩ ?_
       refine' twH 8 ⟨bx_1.out, by_2.out⟩ ?_
       refine' tkNH 9 ⟨bx_1.out, by_2.out⟩ ?_
       refine' tkNH 10 ⟨bx_1.out, by_2.out⟩ ?_
       try simp only [Act.put, qsA, qsZ, qsS]
       refine' tkNH 11 ⟨bx_1.out, by_2.out⟩ ?_
       refine' tkNH 12 ⟨bx_1.out, by_2.out⟩ ?_
       refine' tkNH 13 ⟨bx_1.out, by_2.out⟩ ?_
       refine' tkNH 14 ⟨bx_1.out, by_2.out⟩ ?_
       try simp only [Act.put, qsA, qsZ, qsS]
       refine' tkNH 15 ⟨bx_1.out, by_2.out⟩ ?_
       refine' tkNH 16 ⟨bx_1.out, by_2.out⟩ ?_
       refine' twH 17 ⟨bx_1.out, by_2.out⟩ ?_
       try simp only [Act.put, qsA, qsZ, qsS]
       refine wpAnyH_done (by kernel_rfl) ?_ _
       go_wp2
       go_ret
       replace bel_3 := bH (bH bel_3 hb962) hb964
       exact ⟨rfl, bel_3.out⟩
     · have EK2 := Lib.hid e2; clear e2
       cases e3 : keptV d ts2 yb
       · have EK3 := Lib.hid e3; clear e3
         simp only [Bool.false_and, Bool.and_false]
         go_enter Tryz.func89, Tryz.ntmps89
         obtain ⟨bx_1, by_2, bel_3⟩ := ent2 w #[.int .i64 c, .slice A n k, .slice B m j, .int .i64 d, .slice C n2 k2, .slice D m2 j2, .int .i64 p1, .int .i64 p2, .int .i64 p3, .int .i64 p4] 101 #[.slice X1 x1 k1, .slice X2 x2 k2x, .slice X3 x3 k3, .slice X4 x4 k4] 54
         have ra_4 := rI h1 bel_3
         have rb_5 := rI h2 bel_3
         have rc_6 := rI h3 bel_3
         have rd_7 := rI h4 bel_3
         have l0_8 := iI hx0 bel_3
         have l1_9 := iI hx1 bel_3
         have l2_10 := iI hx2 bel_3
         have l3_11 := iI hx3 bel_3
         clear h1 h2 h3 h4 hx0 hx1 hx2 hx3
         go_wp2_with fail
         replace bel_3 := bD bel_3
         replace ra_4 := rD ra_4
         replace rb_5 := rD rb_5
         replace rc_6 := rD rc_6
         replace rd_7 := rD rd_7
         replace l0_8 := iD l0_8
         replace l1_9 := iD l1_9
         replace l2_10 := iD l2_10
         replace l3_11 := iD l3_11
         replace bx_1 := kD bx_1
         replace by_2 := kD by_2
         refine wp_region_held_drew (S := (fun W' => Blk W' (w.heap.size) 101 #[.int .i64 c, .slice A n k, .slice B m j, .int .i64 d, .slice C n2 k2, .slice D m2 j2, .int .i64 p1, .int .i64 p2, .int .i64 p3, .int .i64 p4] ∧ Blk W' (w.heap.size + 1) 54 #[.slice X1 x1 k1, .slice X2 x2 k2x, .slice X3 x3 k3, .slice X4 x4 k4])) (by kernel_rfl) ⟨bx_1.out, by_2.out⟩ (fun _ => ?_)
         obtain ⟨w976, hw977⟩ : ∃ w', w' = (((w.alloc (.cells #[.int .i64 c, .slice A n k, .slice B m j, .int .i64 d, .slice C n2 k2, .slice D m2 j2, .int .i64 p1, .int .i64 p2, .int .i64 p3, .int .i64 p4] 101)).alloc (.cells #[.slice X1 x1 k1, .slice X2 x2 k2x, .slice X3 x3 k3, .slice X4 x4 k4] 54)).drew) := ⟨_, rfl⟩
         rw [← hw977] at bel_3 ra_4 rb_5 rc_6 rd_7 l0_8 l1_9 l2_10 l3_11 bx_1 by_2
         rw [← hw977]
         clear hw977
         refine' twH 0 ⟨bx_1.out, by_2.out⟩ ?_
         refine' twH 1 ⟨bx_1.out, by_2.out⟩ ?_
         refine' tkH 2 ⟨bx_1.out, by_2.out⟩ ?hyR980 ?_
         case hyR980 => (rintro W' ⟨hS0, hS1⟩; have hc0 := Blk.nth hS0 0; have hc1 := Blk.nth hS0 1; have hc2 := Blk.nth hS0 2; clear hS0 hS1; go_simp; try with_reducible rfl)
         refine' twH 4 ⟨bx_1.out, by_2.out⟩ ?_
         try simp only [Act.put, qsA, qsZ, qsS]
         refine' tkH 5 ⟨bx_1.out, by_2.out⟩ ?hyR982 ?_
         case hyR982 => (rintro W' ⟨hS0, hS1⟩; have hc0 := Blk.nth hS1 0; clear hS0 hS1; go_simp; try with_reducible rfl)
         try simp only [Act.put, qsA, qsZ, qsS]
         refine oneH 3 rfl fun K hK => ?_
         go_simp
         go_at_call 63
         refine (ownWays_any c A B n k m j _ (by omega) (by omega)).mono ?_
         rintro e w983 ⟨rfl, hb984⟩
         dsimp only
         replace hb984 := Lib.hid hb984
         replace bx_1 := kH bx_1 hb984
         replace by_2 := kH by_2 hb984
         refine hK.out _ _ ⟨bx_1.out, by_2.out⟩ (fun _ => ?_); clear hK K
         try simp only [Act.put, qsA, qsZ, qsS]
         refine oneH 6 rfl fun K hK => ?_
         replace ra_4 := rH ra_4 hb984
         replace l0_8 := iH l0_8 hb984
         go_simp
         go_at_call 127
         refine (areKept_is (c + 1) A n k ws _ ra_4.out hn X1 x1 k1 xa l0_8.out hl0 _ EK0.out).mono ?_
         rintro e w985 ⟨rfl, hb986⟩
         dsimp only
         replace hb986 := Lib.hid hb986
         replace bx_1 := kH bx_1 hb986
         replace by_2 := kH by_2 hb986
         refine hK.out _ _ ⟨bx_1.out, by_2.out⟩ (fun _ => ?_); clear hK K
         try simp only [Act.put, qsA, qsZ, qsS]
         refine' twH 7 ⟨bx_1.out, by_2.out⟩ ?_
         refine' twH 8 ⟨bx_1.out, by_2.out⟩ ?_
         refine' twH 9 ⟨bx_1.out, by_2.out⟩ ?_
         refine' twH 10 ⟨bx_1.out, by_2.out⟩ ?_
         try simp only [Act.put, qsA, qsZ, qsS]
         refine' tkH 11 ⟨bx_1.out, by_2.out⟩ ?hyR991 ?_
         case hyR991 => (rintro W' ⟨hS0, hS1⟩; have hc0 := Blk.nth hS0 3; have hc1 := Blk.nth hS0 4; have hc2 := Blk.nth hS0 5; clear hS0 hS1; go_simp; try with_reducible rfl)
         refine' twH 13 ⟨bx_1.out, by_2.out⟩ ?_
         refine' tkH 14 ⟨bx_1.out, by_2.out⟩ ?hyR993 ?_
         case hyR993 => (rintro W' ⟨hS0, hS1⟩; have hc0 := Blk.nth hS1 1; clear hS0 hS1; go_simp; try with_reducible rfl)
         try simp only [Act.put, qsA, qsZ, qsS]
         refine oneH 12 rfl fun K hK => ?_
         go_simp
         go_at_call 63
         refine (ownWays_any d C D n2 k2 m2 j2 _ (by omega) (by omega)).mono ?_
         rintro e w994 ⟨rfl, hb995⟩
         dsimp only
         replace hb995 := Lib.hid hb995
         replace bx_1 := kH bx_1 hb995
         replace by_2 := kH by_2 hb995
         refine hK.out _ _ ⟨bx_1.out, by_2.out⟩ (fun _ => ?_); clear hK K
         try simp only [Act.put, qsA, qsZ, qsS]
         refine oneH 15 rfl fun K hK => ?_
         replace rc_6 := rH (rH (rH rc_6 hb984) hb986) hb995
         replace l1_9 := iH (iH (iH l1_9 hb984) hb986) hb995
         go_simp
         go_at_call 127
         refine (areKept_is (d + 1) C n2 k2 ws2 _ rc_6.out hn2 X2 x2 k2x xb l1_9.out hl1 _ EK1.out).mono ?_
         rintro e w996 ⟨rfl, hb997⟩
         dsimp only
         replace hb997 := Lib.hid hb997
         replace bx_1 := kH bx_1 hb997
         replace by_2 := kH by_2 hb997
         refine hK.out _ _ ⟨bx_1.out, by_2.out⟩ (fun _ => ?_); clear hK K
         try simp only [Act.put, qsA, qsZ, qsS]
         refine' twH 16 ⟨bx_1.out, by_2.out⟩ ?_
         refine' twH 17 ⟨bx_1.out, by_2.out⟩ ?_
         try simp only [Act.put, qsA, qsZ, qsS]
         refine wpAnyH_done (by kernel_rfl) ?_ _
         go_wp2_with fail
         replace bel_3 := bD (bH (bH (bH (bH bel_3 hb984) hb986) hb995) hb997)
         replace ra_4 := rD (rH (rH (rH ra_4 hb986) hb995) hb997)
         replace rb_5 := rD (rH (rH (rH (rH rb_5 hb984) hb986) hb995) hb997)
         replace rc_6 := rD (rH rc_6 hb997)
         replace rd_7 := rD (rH (rH (rH (rH rd_7 hb984) hb986) hb995) hb997)
         replace l0_8 := iD (iH (iH (iH l0_8 hb986) hb995) hb997)
         replace l1_9 := iD (iH l1_9 hb997)
         replace l2_10 := iD (iH (iH (iH (iH l2_10 hb984) hb986) hb995) hb997)
         replace l3_11 := iD (iH (iH (iH (iH l3_11 hb984) hb986) hb995) hb997)
         replace bx_1 := kD bx_1
         replace by_2 := kD by_2
         refine wp_region_held_drew (S := (fun W' => Blk W' (w.heap.size) 101 #[.int .i64 c, .slice A n k, .slice B m j, .int .i64 d, .slice C n2 k2, .slice D m2 j2, .int .i64 p1, .int .i64 p2, .int .i64 p3, .int .i64 p4] ∧ Blk W' (w.heap.size + 1) 54 #[.slice X1 x1 k1, .slice X2 x2 k2x, .slice X3 x3 k3, .slice X4 x4 k4])) (by kernel_rfl) ⟨bx_1.out, by_2.out⟩ (fun _ => ?_)
         obtain ⟨w1000, hw1001⟩ : ∃ w', w' = (w996.drew) := ⟨_, rfl⟩
         rw [← hw1001] at bel_3 ra_4 rb_5 rc_6 rd_7 l0_8 l1_9 l2_10 l3_11 bx_1 by_2
         rw [← hw1001]
         clear hw1001
         refine' twH 0 ⟨bx_1.out, by_2.out⟩ ?_
         refine' twH 1 ⟨bx_1.out, by_2.out⟩ ?_
         refine' tkH 2 ⟨bx_1.out, by_2.out⟩ ?hyR1004 ?_
         case hyR1004 => (rintro W' ⟨hS0, hS1⟩; have hc0 := Blk.nth hS0 0; have hc1 := Blk.nth hS0 1; have hc2 := Blk.nth hS0 2; clear hS0 hS1; go_simp; try with_reducible rfl)
         refine' twH 4 ⟨bx_1.out, by_2.out⟩ ?_
         try simp only [Act.put, qsA, qsZ, qsS]
         refine' tkH 5 ⟨bx_1.out, by_2.out⟩ ?hyR1006 ?_
         case hyR1006 => (rintro W' ⟨hS0, hS1⟩; have hc0 := Blk.nth hS1 2; clear hS0 hS1; go_simp; try with_reducible rfl)
         try simp only [Act.put, qsA, qsZ, qsS]
         refine oneH 3 rfl fun K hK => ?_
         go_simp
         go_at_call 63
         refine (ownTurns_any c A B n k m j _).mono ?_
         rintro e w1007 ⟨rfl, hb1008⟩
         dsimp only
         replace hb1008 := Lib.hid hb1008
         replace bx_1 := kH bx_1 hb1008
         replace by_2 := kH by_2 hb1008
         refine hK.out _ _ ⟨bx_1.out, by_2.out⟩ (fun _ => ?_); clear hK K
         try simp only [Act.put, qsA, qsZ, qsS]
         refine oneH 6 rfl fun K hK => ?_
         replace rb_5 := rH rb_5 hb1008
         replace l2_10 := iH l2_10 hb1008
         go_simp
         go_at_call 127
         refine (areKept_is c B m j ts _ rb_5.out hm X3 x3 k3 ya l2_10.out hl2 _ EK2.out).mono ?_
         rintro e w1009 ⟨rfl, hb1010⟩
         dsimp only
         replace hb1010 := Lib.hid hb1010
         replace bx_1 := kH bx_1 hb1010
         replace by_2 := kH by_2 hb1010
         refine hK.out _ _ ⟨bx_1.out, by_2.out⟩ (fun _ => ?_); clear hK K
         try simp only [Act.put, qsA, qsZ, qsS]
         refine' twH 7 ⟨bx_1.out, by_2.out⟩ ?_
         refine' twH 8 ⟨bx_1.out, by_2.out⟩ ?_
         refine' twH 9 ⟨bx_1.out, by_2.out⟩ ?_
         refine' twH 10 ⟨bx_1.out, by_2.out⟩ ?_
         try simp only [Act.put, qsA, qsZ, qsS]
         refine' tkH 11 ⟨bx_1.out, by_2.out⟩ ?hyR1015 ?_
         case hyR1015 => (rintro W' ⟨hS0, hS1⟩; have hc0 := Blk.nth hS0 3; have hc1 := Blk.nth hS0 4; have hc2 := Blk.nth hS0 5; clear hS0 hS1; go_simp; try with_reducible rfl)
         refine' twH 13 ⟨bx_1.out, by_2.out⟩ ?_
         refine' tkH 14 ⟨bx_1.out, by_2.out⟩ ?hyR1017 ?_
         case hyR1017 => (rintro W' ⟨hS0, hS1⟩; have hc0 := Blk.nth hS1 3; clear hS0 hS1; go_simp; try with_reducible rfl)
         try simp only [Act.put, qsA, qsZ, qsS]
         refine oneH 12 rfl fun K hK => ?_
         go_simp
         go_at_call 63
         refine (ownTurns_any d C D n2 k2 m2 j2 _).mono ?_
         rintro e w1018 ⟨rfl, hb1019⟩
         dsimp only
         replace hb1019 := Lib.hid hb1019
         replace bx_1 := kH bx_1 hb1019
         replace by_2 := kH by_2 hb1019
         refine hK.out _ _ ⟨bx_1.out, by_2.out⟩ (fun _ => ?_); clear hK K
         try simp only [Act.put, qsA, qsZ, qsS]
         refine oneH 15 rfl fun K hK => ?_
         replace rd_7 := rH (rH (rH rd_7 hb1008) hb1010) hb1019
         replace l3_11 := iH (iH (iH l3_11 hb1008) hb1010) hb1019
         go_simp
         go_at_call 127
         refine (areKept_is d D m2 j2 ts2 _ rd_7.out hm2 X4 x4 k4 yb l3_11.out hl3 _ EK3.out).mono ?_
         rintro e w1020 ⟨rfl, hb1021⟩
         dsimp only
         replace hb1021 := Lib.hid hb1021
         replace bx_1 := kH bx_1 hb1021
         replace by_2 := kH by_2 hb1021
         refine hK.out _ _ ⟨bx_1.out, by_2.out⟩ (fun _ => ?_); clear hK K
         try simp only [Act.put, qsA, qsZ, qsS]
         refine' twH 16 ⟨bx_1.out, by_2.out⟩ ?_
         refine' twH 17 ⟨bx_1.out, by_2.out⟩ ?_
         try simp only [Act.put, qsA, qsZ, qsS]
         refine wpAnyH_done (by kernel_rfl) ?_ _
         go_wp2
         go_ret
         replace bel_3 := bH (bH (bH (bH bel_3 hb1008) hb1010) hb1019) hb1021
         exact ⟨rfl, bel_3.out⟩
       · have EK3 := Lib.hid e3; clear e3
         simp only [Bool.and_self, Bool.true_and]
         go_enter Tryz.func89, Tryz.ntmps89
         obtain ⟨bx_1, by_2, bel_3⟩ := ent2 w #[.int .i64 c, .slice A n k, .slice B m j, .int .i64 d, .slice C n2 k2, .slice D m2 j2, .int .i64 p1, .int .i64 p2, .int .i64 p3, .int .i64 p4] 101 #[.slice X1 x1 k1, .slice X2 x2 k2x, .slice X3 x3 k3, .slice X4 x4 k4] 54
         have ra_4 := rI h1 bel_3
         have rb_5 := rI h2 bel_3
         have rc_6 := rI h3 bel_3
         have rd_7 := rI h4 bel_3
         have l0_8 := iI hx0 bel_3
         have l1_9 := iI hx1 bel_3
         have l2_10 := iI hx2 bel_3
         have l3_11 := iI hx3 bel_3
         clear h1 h2 h3 h4 hx0 hx1 hx2 hx3
         go_wp2_with fail
         replace bel_3 := bD bel_3
         replace ra_4 := rD ra_4
         replace rb_5 := rD rb_5
         replace rc_6 := rD rc_6
         replace rd_7 := rD rd_7
         replace l0_8 := iD l0_8
         replace l1_9 := iD l1_9
         replace l2_10 := iD l2_10
         replace l3_11 := iD l3_11
         replace bx_1 := kD bx_1
         replace by_2 := kD by_2
         refine wp_region_held_drew (S := (fun W' => Blk W' (w.heap.size) 101 #[.int .i64 c, .slice A n k, .slice B m j, .int .i64 d, .slice C n2 k2, .slice D m2 j2, .int .i64 p1, .int .i64 p2, .int .i64 p3, .int .i64 p4] ∧ Blk W' (w.heap.size + 1) 54 #[.slice X1 x1 k1, .slice X2 x2 k2x, .slice X3 x3 k3, .slice X4 x4 k4])) (by kernel_rfl) ⟨bx_1.out, by_2.out⟩ (fun _ => ?_)
         obtain ⟨w1024, hw1025⟩ : ∃ w', w' = (((w.alloc (.cells #[.int .i64 c, .slice A n k, .slice B m j, .int .i64 d, .slice C n2 k2, .slice D m2 j2, .int .i64 p1, .int .i64 p2, .int .i64 p3, .int .i64 p4] 101)).alloc (.cells #[.slice X1 x1 k1, .slice X2 x2 k2x, .slice X3 x3 k3, .slice X4 x4 k4] 54)).drew) := ⟨_, rfl⟩
         rw [← hw1025] at bel_3 ra_4 rb_5 rc_6 rd_7 l0_8 l1_9 l2_10 l3_11 bx_1 by_2
         rw [← hw1025]
         clear hw1025
         refine' twH 0 ⟨bx_1.out, by_2.out⟩ ?_
         refine' twH 1 ⟨bx_1.out, by_2.out⟩ ?_
         refine' tkH 2 ⟨bx_1.out, by_2.out⟩ ?hyR1028 ?_
         case hyR1028 => (rintro W' ⟨hS0, hS1⟩; have hc0 := Blk.nth hS0 0; have hc1 := Blk.nth hS0 1; have hc2 := Blk.nth hS0 2; clear hS0 hS1; go_simp; try with_reducible rfl)
         refine' twH 4 ⟨bx_1.out, by_2.out⟩ ?_
         try simp only [Act.put, qsA, qsZ, qsS]
         refine' tkH 5 ⟨bx_1.out, by_2.out⟩ ?hyR1030 ?_
         case hyR1030 => (rintro W' ⟨hS0, hS1⟩; have hc0 := Blk.nth hS1 0; clear hS0 hS1; go_simp; try with_reducible rfl)
         try simp only [Act.put, qsA, qsZ, qsS]
         refine oneH 3 rfl fun K hK => ?_
         go_simp
         go_at_call 63
         refine (ownWays_any c A B n k m j _ (by omega) (by omega)).mono ?_
         rintro e w1031 ⟨rfl, hb1032⟩
         dsimp only
         replace hb1032 := Lib.hid hb1032
         replace bx_1 := kH bx_1 hb1032
         replace by_2 := kH by_2 hb1032
         refine hK.out _ _ ⟨bx_1.out, by_2.out⟩ (fun _ => ?_); clear hK K
         try simp only [Act.put, qsA, qsZ, qsS]
         refine oneH 6 rfl fun K hK => ?_
         replace ra_4 := rH ra_4 hb1032
         replace l0_8 := iH l0_8 hb1032
         go_simp
         go_at_call 127
         refine (areKept_is (c + 1) A n k ws _ ra_4.out hn X1 x1 k1 xa l0_8.out hl0 _ EK0.out).mono ?_
         rintro e w1033 ⟨rfl, hb1034⟩
         dsimp only
         replace hb1034 := Lib.hid hb1034
         replace bx_1 := kH bx_1 hb1034
         replace by_2 := kH by_2 hb1034
         refine hK.out _ _ ⟨bx_1.out, by_2.out⟩ (fun _ => ?_); clear hK K
         try simp only [Act.put, qsA, qsZ, qsS]
         refine' twH 7 ⟨bx_1.out, by_2.out⟩ ?_
         refine' twH 8 ⟨bx_1.out, by_2.out⟩ ?_
         refine' twH 9 ⟨bx_1.out, by_2.out⟩ ?_
         refine' twH 10 ⟨bx_1.out, by_2.out⟩ ?_
         try simp only [Act.put, qsA, qsZ, qsS]
         refine' tkH 11 ⟨bx_1.out, by_2.out⟩ ?hyR1039 ?_
         case hyR1039 => (rintro W' ⟨hS0, hS1⟩; have hc0 := Blk.nth hS0 3; have hc1 := Blk.nth hS0 4; have hc2 := Blk.nth hS0 5; clear hS0 hS1; go_simp; try with_reducible rfl)
         refine' twH 13 ⟨bx_1.out, by_2.out⟩ ?_
         refine' tkH 14 ⟨bx_1.out, by_2.out⟩ ?hyR1041 ?_
         case hyR1041 => (rintro W' ⟨hS0, hS1⟩; have hc0 := Blk.nth hS1 1; clear hS0 hS1; go_simp; try with_reducible rfl)
         try simp only [Act.put, qsA, qsZ, qsS]
         refine oneH 12 rfl fun K hK => ?_
         go_simp
         go_at_call 63
         refine (ownWays_any d C D n2 k2 m2 j2 _ (by omega) (by omega)).mono ?_
         rintro e w1042 ⟨rfl, hb1043⟩
         dsimp only
         replace hb1043 := Lib.hid hb1043
         replace bx_1 := kH bx_1 hb1043
         replace by_2 := kH by_2 hb1043
         refine hK.out _ _ ⟨bx_1.out, by_2.out⟩ (fun _ => ?_); clear hK K
         try simp only [Act.put, qsA, qsZ, qsS]
         refine oneH 15 rfl fun K hK => ?_
         replace rc_6 := rH (rH (rH rc_6 hb1032) hb1034) hb1043
         replace l1_9 := iH (iH (iH l1_9 hb1032) hb1034) hb1043
         go_simp
         go_at_call 127
         refine (areKept_is (d + 1) C n2 k2 ws2 _ rc_6.out hn2 X2 x2 k2x xb l1_9.out hl1 _ EK1.out).mono ?_
         rintro e w1044 ⟨rfl, hb1045⟩
         dsimp only
         replace hb1045 := Lib.hid hb1045
         replace bx_1 := kH bx_1 hb1045
         replace by_2 := kH by_2 hb1045
         refine hK.out _ _ ⟨bx_1.out, by_2.out⟩ (fun _ => ?_); clear hK K
         try simp only [Act.put, qsA, qsZ, qsS]
         refine' twH 16 ⟨bx_1.out, by_2.out⟩ ?_
         refine' twH 17 ⟨bx_1.out, by_2.out⟩ ?_
         try simp only [Act.put, qsA, qsZ, qsS]
         refine wpAnyH_done (by kernel_rfl) ?_ _
         go_wp2_with fail
         replace bel_3 := bD (bH (bH (bH (bH bel_3 hb1032) hb1034) hb1043) hb1045)
         replace ra_4 := rD (rH (rH (rH ra_4 hb1034) hb1043) hb1045)
         replace rb_5 := rD (rH (rH (rH (rH rb_5 hb1032) hb1034) hb1043) hb1045)
         replace rc_6 := rD (rH rc_6 hb1045)
         replace rd_7 := rD (rH (rH (rH (rH rd_7 hb1032) hb1034) hb1043) hb1045)
         replace l0_8 := iD (iH (iH (iH l0_8 hb1034) hb1043) hb1045)
         replace l1_9 := iD (iH l1_9 hb1045)
         replace l2_10 := iD (iH (iH (iH (iH l2_10 hb1032) hb1034) hb1043) hb1045)
         replace l3_11 := iD (iH (iH (iH (iH l3_11 hb1032) hb1034) hb1043) hb1045)
         replace bx_1 := kD bx_1
         replace by_2 := kD by_2
         refine wp_region_held_drew (S := (fun W' => Blk W' (w.heap.size) 101 #[.int .i64 c, .slice A n k, .slice B m j, .int .i64 d, .slice C n2 k2, .slice D m2 j2, .int .i64 p1, .int .i64 p2, .int .i64 p3, .int .i64 p4] ∧ Blk W' (w.heap.size + 1) 54 #[.slice X1 x1 k1, .slice X2 x2 k2x, .slice X3 x3 k3, .slice X4 x4 k4])) (by kernel_rfl) ⟨bx_1.out, by_2.out⟩ (fun _ => ?_)
         obtain ⟨w1048, hw1049⟩ : ∃ w', w' = (w1044.drew) := ⟨_, rfl⟩
         rw [← hw1049] at bel_3 ra_4 rb_5 rc_6 rd_7 l0_8 l1_9 l2_10 l3_11 bx_1 by_2
         rw [← hw1049]
         clear hw1049
         refine' twH 0 ⟨bx_1.out, by_2.out⟩ ?_
         refine' twH 1 ⟨bx_1.out, by_2.out⟩ ?_
         refine' tkH 2 ⟨bx_1.out, by_2.out⟩ ?hyR1052 ?_
         case hyR1052 => (rintro W' ⟨hS0, hS1⟩; have hc0 := Blk.nth hS0 0; have hc1 := Blk.nth hS0 1; have hc2 := Blk.nth hS0 2; clear hS0 hS1; go_simp; try with_reducible rfl)
         refine' twH 4 ⟨bx_1.out, by_2.out⟩ ?_
         try simp only [Act.put, qsA, qsZ, qsS]
         refine' tkH 5 ⟨bx_1.out, by_2.out⟩ ?hyR1054 ?_
         case hyR1054 => (rintro W' ⟨hS0, hS1⟩; have hc0 := Blk.nth hS1 2; clear hS0 hS1; go_simp; try with_reducible rfl)
         try simp only [Act.put, qsA, qsZ, qsS]
         refine oneH 3 rfl fun K hK => ?_
         go_simp
         go_at_call 63
         refine (ownTurns_any c A B n k m j _).mono ?_
         rintro e w1055 ⟨rfl, hb1056⟩
         dsimp only
         replace hb1056 := Lib.hid hb1056
         replace bx_1 := kH bx_1 hb1056
         replace by_2 := kH by_2 hb1056
         refine hK.out _ _ ⟨bx_1.out, by_2.out⟩ (fun _ => ?_); clear hK K
         try simp only [Act.put, qsA, qsZ, qsS]
         refine oneH 6 rfl fun K hK => ?_
         replace rb_5 := rH rb_5 hb1056
         replace l2_10 := iH l2_10 hb1056
         go_simp
         go_at_call 127
         refine (areKept_is c B m j ts _ rb_5.out hm X3 x3 k3 ya l2_10.out hl2 _ EK2.out).mono ?_
         rintro e w1057 ⟨rfl, hb1058⟩
         dsimp only
         replace hb1058 := Lib.hid hb1058
         replace bx_1 := kH bx_1 hb1058
         replace by_2 := kH by_2 hb1058
         refine hK.out _ _ ⟨bx_1.out, by_2.out⟩ (fun _ => ?_); clear hK K
         try simp only [Act.put, qsA, qsZ, qsS]
         refine' twH 7 ⟨bx_1.out, by_2.out⟩ ?_
         refine' twH 8 ⟨bx_1.out, by_2.out⟩ ?_
         refine' twH 9 ⟨bx_1.out, by_2.out⟩ ?_
         refine' twH 10 ⟨bx_1.out, by_2.out⟩ ?_
         try simp only [Act.put, qsA, qsZ, qsS]
         refine' tkH 11 ⟨bx_1.out, by_2.out⟩ ?hyR1063 ?_
         case hyR1063 => (rintro W' ⟨hS0, hS1⟩; have hc0 := Blk.nth hS0 3; have hc1 := Blk.nth hS0 4; have hc2 := Blk.nth hS0 5; clear hS0 hS1; go_simp; try with_reducible rfl)
         refine' twH 13 ⟨bx_1.out, by_2.out⟩ ?_
         refine' tkH 14 ⟨bx_1.out, by_2.out⟩ ?hyR1065 ?_
         case hyR1065 => (rintro W' ⟨hS0, hS1⟩; have hc0 := Blk.nth hS1 3; clear hS0 hS1; go_simp; try with_reducible rfl)
         try simp only [Act.put, qsA, qsZ, qsS]
         refine oneH 12 rfl fun K hK => ?_
         go_simp
         go_at_call 63
         refine (ownTurns_any d C D n2 k2 m2 j2 _).mono ?_
         rintro e w1066 ⟨rfl, hb1067⟩
         dsimp only
         replace hb1067 := Lib.hid hb1067
         replace bx_1 := kH bx_1 hb1067
         replace by_2 := kH by_2 hb1067
         refine hK.out _ _ ⟨bx_1.out, by_2.out⟩ (fun _ => ?_); clear hK K
         try simp only [Act.put, qsA, qsZ, qsS]
         refine oneH 15 rfl fun K hK => ?_
         replace rd_7 := rH (rH (rH rd_7 hb1056) hb1058) hb1067
         replace l3_11 := iH (iH (iH l3_11 hb1056) hb1058) hb1067
         go_simp
         go_at_call 127
         refine (areKept_is d D m2 j2 ts2 _ rd_7.out hm2 X4 x4 k4 yb l3_11.out hl3 _ EK3.out).mono ?_
         rintro e w1068 ⟨rfl, hb1069⟩
         dsimp only
         replace hb1069 := Lib.hid hb1069
         replace bx_1 := kH bx_1 hb1069
         replace by_2 := kH by_2 hb1069
         refine hK.out _ _ ⟨bx_1.out, by_2.out⟩ (fun _ => ?_); clear hK K
         try simp only [Act.put, qsA, qsZ, qsS]
         refine' twH 16 ⟨bx_1.out, by_2.out⟩ ?_
         refine' twH 17 ⟨bx_1.out, by_2.out⟩ ?_
         try simp only [Act.put, qsA, qsZ, qsS]
         refine wpAnyH_done (by kernel_rfl) ?_ _
         go_wp2_with fail
         replace bel_3 := bD (bH (bH (bH (bH bel_3 hb1056) hb1058) hb1067) hb1069)
         replace ra_4 := rD (rH (rH (rH (rH ra_4 hb1056) hb1058) hb1067) hb1069)
         replace rb_5 := rD (rH (rH (rH rb_5 hb1058) hb1067) hb1069)
         replace rc_6 := rD (rH (rH (rH (rH rc_6 hb1056) hb1058) hb1067) hb1069)
         replace rd_7 := rD (rH rd_7 hb1069)
         replace l0_8 := iD (iH (iH (iH (iH l0_8 hb1056) hb1058) hb1067) hb1069)
         replace l1_9 := iD (iH (iH (iH (iH l1_9 hb1056) hb1058) hb1067) hb1069)
         replace l2_10 := iD (iH (iH (iH l2_10 hb1058) hb1067) hb1069)
         replace l3_11 := iD (iH l3_11 hb1069)
         replace bx_1 := kD bx_1
         replace by_2 := kD by_2
         refine wp_region_held_drew (S := (fun W' => Blk W' (w.heap.size) 101 #[.int .i64 c, .slice A n k, .slice B m j, .int .i64 d, .slice C n2 k2, .slice D m2 j2, .int .i64 p1, .int .i64 p2, .int .i64 p3, .int .i64 p4])) (by kernel_rfl) bx_1.out (fun _ => ?_)
         obtain ⟨w1072, hw1073⟩ : ∃ w', w' = (w1068.drew) := ⟨_, rfl⟩
         rw [← hw1073] at bel_3 ra_4 rb_5 rc_6 rd_7 l0_8 l1_9 l2_10 l3_11 bx_1 by_2
         rw [← hw1073]
         clear hw1073
         refine' tkH 0 bx_1.out ?hyR1074 ?_
         case hyR1074 => (rintro W' hS0; have hc0 := Blk.nth hS0 0; have hc1 := Blk.nth hS0 1; have hc2 := Blk.nth hS0 2; have hc3 := Blk.nth hS0 3; have hc4 := Blk.nth hS0 4; have hc5 := Blk.nth hS0 5; have hc6 := Blk.nth hS0 6; have hc7 := Blk.nth hS0 7; have hc8 := Blk.nth hS0 8; have hc9 := Blk.nth hS0 9; clear hS0; go_simp; try with_reducible rfl)
         refine' tkH 2 bx_1.out ?hyR1075 ?_
         case hyR1075 => (rintro W' hS0; have hc0 := Blk.nth hS0 0; have hc1 := Blk.nth hS0 1; have hc2 := Blk.nth hS0 2; have hc3 := Blk.nth hS0 3; have hc4 := Blk.nth hS0 4; have hc5 := Blk.nth hS0 5; have hc6 := Blk.nth hS0 6; have hc7 := Blk.nth hS0 7; have hc8 := Blk.nth hS0 8; have hc9 := Blk.nth hS0 9; clear hS0; go_simp; try with_reducible rfl)
         try simp only [Act.put, qsA, qsZ, qsS]
         refine oneH 1 rfl fun K hK => ?_
         go_simp
         go_at_call 117
         refine (corner_any c A B n k m j d C D n2 k2 m2 j2 p1 p2 p3 p4 _ ⟨ga1, ga2⟩).mono ?_
         rintro e w1076 ⟨g1, rfl, hcl1, hge1, hb1077⟩
         dsimp only
         unfold fnV
         replace hb1077 := Lib.hid hb1077
         have cl1_1078 := Lib.hid (hcl1)
         replace bx_1 := kH bx_1 hb1077
         refine hK.out _ _ bx_1.out (fun _ => ?_); clear hK K
         try simp only [Act.put, qsA, qsZ, qsS]
         refine oneH 3 rfl fun K hK => ?_
         go_simp
         go_at_call 118
         refine (side_any c A B n k m j d C D n2 k2 m2 j2 p1 p2 p3 p4 _ ⟨by omega, by omega⟩).mono ?_
         rintro e w1079 ⟨g2, rfl, hcl2, hge2, hb1080⟩
         dsimp only
         unfold fnV
         replace hb1080 := Lib.hid hb1080
         have cl2_1081 := Lib.hid (hcl2)
         replace bx_1 := kH bx_1 hb1080
         refine hK.out _ _ bx_1.out (fun _ => ?_); clear hK K
         try simp only [Act.put, qsA, qsZ, qsS]
         refine' twH 4 bx_1.out ?_
         refine' twH 5 bx_1.out ?_
         try simp only [Act.put, qsA, qsZ, qsS]
         refine wpAnyH_done (by kernel_rfl) ?_ _
         replace ra_4 := rH (rH ra_4 hb1077) hb1080
         clear ra_4
         replace rb_5 := rH (rH rb_5 hb1077) hb1080
         clear rb_5
         replace rc_6 := rH (rH rc_6 hb1077) hb1080
         clear rc_6
         replace rd_7 := rH (rH rd_7 hb1077) hb1080
         clear rd_7
         obtain ⟨z_3012, z_3013, z_3014, z_3015, z_3016, z_3017, z_3018, z_3019, z_3020, z_3021⟩ := at10 bx_1
         replace by_2 := kH (kH by_2 hb1077) hb1080
         obtain ⟨z_3022, z_3023, z_3024, z_3025⟩ := at4 by_2
         go_wp2
         clear z_3012 z_3013 z_3014 z_3015 z_3016 z_3017 z_3018 z_3019 z_3020 z_3021 z_3022 z_3023 z_3024 z_3025
         clear hge1 hge2
         replace bel_3 := bH (bH bel_3 hb1077) hb1080
         replace l0_8 := iH (iH l0_8 hb1077) hb1080
         replace l1_9 := iH (iH l1_9 hb1077) hb1080
         replace l2_10 := iH (iH l2_10 hb1077) hb1080
         replace l3_11 := iH (iH l3_11 hb1077) hb1080
         replace cl1_1078 := Lib.hid (Cl.keep (cl1_1078.out) hb1080.out)
         go_loopw [7] (fun i wr => ∃ q r : Nat, q ≤ p4 - p3 ∧ r = p3 + q ∧ i = .int .i64 (r : Int) ∧ ties ⟨p1, p2, p3, p4⟩ xa xb ya yb q = true ∧ Cl wr g1 (c + 1) p1 p3 p4 ∧ Cl wr g2 c p1 p3 ((p4 : Int) - 1) ∧ Blk wr (w.heap.size) 101 #[.int .i64 c, .slice A n k, .slice B m j, .int .i64 d, .slice C n2 k2, .slice D m2 j2, .int .i64 p1, .int .i64 p2, .int .i64 p3, .int .i64 p4] ∧ Blk wr (w.heap.size + 1) 54 #[.slice X1 x1 k1, .slice X2 x2 k2x, .slice X3 x3 k3, .slice X4 x4 k4] ∧ RdI wr X1 x1 k1 xa ∧ RdI wr X2 x2 k2x xb ∧ RdI wr X3 x3 k3 ya ∧ RdI wr X4 x4 k4 yb ∧ Below w.heap.size w wr) (fun i _ => p4 - (intOf i).toNat)
         case atStart => exact ⟨0, p3, Nat.zero_le _, rfl, rfl, rfl, cl1_1078.out, cl2_1081.out, bx_1.out, by_2.out, l0_8.out, l1_9.out, l2_10.out, l3_11.out, bel_3.out⟩
         case round =>
          clear bel_3 l0_8 l1_9 l2_10 l3_11 bx_1 by_2 cl1_1078 cl2_1081
          obtain ⟨q, r, hq, hrq, rfl, hti, i0, i1, i2, i3, i4, i5, i6, i7, i8⟩ := hrel
          have cl1_4026 := Lib.hid (i0)
          have cl2_4027 := Lib.hid (i1)
          have bx_4028 := Lib.hid (i2)
          have by_4029 := Lib.hid (i3)
          have l0_4030 := Lib.hid (i4)
          have l1_4031 := Lib.hid (i5)
          have l2_4032 := Lib.hid (i6)
          have l3_4033 := Lib.hid (i7)
          have bel_4034 := Lib.hid (i8)
          clear i0 i1 i2 i3 i4 i5 i6 i7 i8
          have HTI := Lib.hid hti; clear hti
          by_cases hlt : r < p4
          · have hlt' : (r : Int) < (p4 : Int) := by omega
            obtain ⟨v1, hv1⟩ : ∃ v, v = p1 + p4 - r := ⟨_, rfl⟩
            obtain ⟨v2, hv2⟩ : ∃ v, v = p1 + p4 - 1 - r := ⟨_, rfl⟩
            obtain ⟨p5, hp5⟩ : ∃ v, v = p4 - 1 := ⟨_, rfl⟩
            have hr1 : ren (c + 1) p1 p3 p4 (r : Int) = (v1 : Int) := by unfold ren; rw [if_neg (by omega), if_neg (by omega)]; omega
            have hr2 : ren c p1 p3 ((p4 : Int) - 1) (r : Int) = (v2 : Int) := by unfold ren; rw [if_neg (by omega), if_neg (by omega)]; omega
            have HV1 := Lib.hid (fun w h => Calls.mono (renum_any (c + 1) p1 p3 p4 (r : Int) g1 w h (by omega) (by omega) (by omega) (by omega) (by omega)) (fun e w' h => (show e = .returned (.int .i64 (v1 : Int)) ∧ w = w' from ⟨by rw [h.1, hr1], h.2⟩)))
            have HV2 := Lib.hid (fun w h => Calls.mono (renum_any c p1 p3 ((p4 : Int) - 1) (r : Int) g2 w h (by omega) (by omega) (by omega) (by omega) (by omega)) (fun e w' h => (show e = .returned (.int .i64 (v2 : Int)) ∧ w = w' from ⟨by rw [h.1, hr2], h.2⟩)))
            clear hr1 hr2
            obtain ⟨kl0, kb0⟩ := kept_facts EK0.out; have hn0_ := (l0_4030.out).len
            obtain ⟨kl1, kb1⟩ := kept_facts EK1.out; have hn1_ := (l1_4031.out).len
            obtain ⟨kl2, kb2⟩ := kept_facts EK2.out; have hn2_ := (l2_4032.out).len
            obtain ⟨kl3, kb3⟩ := kept_facts EK3.out; have hn3_ := (l3_4033.out).len
            have hin_ : v1 < xa.length := by omega
            have ga_ := get_of hin_; have ba_ := kb0 _ hin_; clear hin_
            obtain ⟨za, hza⟩ : ∃ z, at_ xa v1 = z := ⟨_, rfl⟩
            rw [hza] at ga_ ba_
            have hin_ : p1 < xa.length := by omega
            have gb_ := get_of hin_; have bb_ := kb0 _ hin_; clear hin_
            obtain ⟨zb, hzb⟩ : ∃ z, at_ xa p1 = z := ⟨_, rfl⟩
            rw [hzb] at gb_ bb_
            have hin_ : p4 < xb.length := by omega
            have gc_ := get_of hin_; have bc_ := kb1 _ hin_; clear hin_
            obtain ⟨zc, hzc⟩ : ∃ z, at_ xb p4 = z := ⟨_, rfl⟩
            rw [hzc] at gc_ bc_
            have hin_ : r < xb.length := by omega
            have gd_ := get_of hin_; have bd_ := kb1 _ hin_; clear hin_
            obtain ⟨zd, hzd⟩ : ∃ z, at_ xb r = z := ⟨_, rfl⟩
            rw [hzd] at gd_ bd_
            have hin_ : v2 < ya.length := by omega
            have ge_ := get_of hin_; have be_ := kb2 _ hin_; clear hin_
            obtain ⟨ze, hze⟩ : ∃ z, at_ ya v2 = z := ⟨_, rfl⟩
            rw [hze] at ge_ be_
            have hin_ : p1 < ya.length := by omega
            have gf_ := get_of hin_; have bf_ := kb2 _ hin_; clear hin_
            obtain ⟨zf, hzf⟩ : ∃ z, at_ ya p1 = z := ⟨_, rfl⟩
            rw [hzf] at gf_ bf_
            have hin_ : r < yb.length := by omega
            have gg_ := get_of hin_; have bg_ := kb3 _ hin_; clear hin_
            obtain ⟨zg, hzg⟩ : ∃ z, at_ yb r = z := ⟨_, rfl⟩
            rw [hzg] at gg_ bg_
            have hin_ : p5 < yb.length := by omega
            have gh_ := get_of hin_; have bh_ := kb3 _ hin_; clear hin_
            obtain ⟨zh, hzh⟩ : ∃ z, at_ yb p5 = z := ⟨_, rfl⟩
            rw [hzh] at gh_ bh_
            obtain ⟨ab0, ao0, hA0⟩ := rdI_some (l0_4030.out) ga_
            obtain ⟨ab1, ao1, hA1⟩ := rdI_some (l1_4031.out) gc_
            obtain ⟨ab2, ao2, hA2⟩ := rdI_some (l2_4032.out) ge_
            obtain ⟨ab3, ao3, hA3⟩ := rdI_some (l3_4033.out) gg_
            subst hA0
            subst hA1
            subst hA2
            subst hA3
            have htw : tieW ⟨p1, p2, p3, p4⟩ xa xb ((p3 : Int) + (q : Int)) = decide (za - zb = zc - zd) := by unfold tieW; dsimp only; rw [show ((p1 : Int) + p4 - ((p3 : Int) + q)) = ((v1 : Nat) : Int) by omega, show ((p3 : Int) + q) = ((r : Nat) : Int) by omega, look_at, look_at, look_at, look_at, hza, hzb, hzc, hzd]
            have htt : tieT ⟨p1, p2, p3, p4⟩ ya yb ((p3 : Int) + (q : Int)) = decide (ze - zf = zg - zh) := by unfold tieT; dsimp only; rw [show ((p1 : Int) + p4 - 1 - ((p3 : Int) + q)) = ((v2 : Nat) : Int) by omega, show ((p3 : Int) + q) = (r : Int) by omega, show ((p4 : Int) - 1) = ((p5 : Nat) : Int) by omega, look_at, look_at, look_at, look_at, hze, hzf, hzg, hzh]
            have HTW := Lib.hid htw; have HTT := Lib.hid htt; clear htw htt hza hzb hzc hzd hze hzf hzg hzh
            have hw15 : IntKind.i64.wrap (za - zb) = za - zb := IntWalk.i64_in _ (by omega)
            have hw29 : IntKind.i64.wrap (zc - zd) = zc - zd := IntWalk.i64_in _ (by omega)
            have hw47 : IntKind.i64.wrap (ze - zf) = ze - zf := IntWalk.i64_in _ (by omega)
            have hw62 : IntKind.i64.wrap (zg - zh) = zg - zh := IntWalk.i64_in _ (by omega)
            have hw59 : IntKind.i64.wrap ((p4 : Int) - 1) = (p5 : Int) := by rw [IntWalk.i64_in _ (by omega)]; omega
            have hlv1 : (v1 : Int) < x1 := by omega
            have hlp1 : (p1 : Int) < x1 := by omega
            have hlp4 : (p4 : Int) < x2 := by omega
            have hlq2 : (r : Int) < x2 := by omega
            have hlv2 : (v2 : Int) < x3 := by omega
            have hlp13 : (p1 : Int) < x3 := by omega
            have hlq4 : (r : Int) < x4 := by omega
            have hlp5 : (p5 : Int) < x4 := by omega
            clear kl0 kb0 hn0_ kl1 kb1 hn1_ kl2 kb2 hn2_ kl3 kb3 hn3_
            have HRQ := Lib.hid hrq; clear hv1 hv2 hp5 hrq
            by_cases h1 : za - zb = zc - zd
            · have hb1 : (za - zb != zc - zd) = false := by simpa using h1
              have hd1 : decide (za - zb = zc - zd) = true := decide_eq_true h1
              clear h1
              by_cases h2 : ze - zf = zg - zh
              · have hb2 : (ze - zf != zg - zh) = false := by simpa using h2
                have hd2 : decide (ze - zf = zg - zh) = true := decide_eq_true h2
                clear h2
                obtain ⟨z_6035, z_6036, z_6037, z_6038, z_6039, z_6040, z_6041, z_6042, z_6043, z_6044⟩ := at10 bx_4028
                obtain ⟨z_6045, z_6046, z_6047, z_6048⟩ := at4 by_4029
                go_wp2_with fail
                clear z_6035 z_6036 z_6037 z_6038 z_6039 z_6040 z_6041 z_6042 z_6043 z_6044 z_6045 z_6046 z_6047 z_6048
                replace cl1_4026 := Lib.hid (Cl.drew (cl1_4026.out))
                replace cl2_4027 := Lib.hid (Cl.drew (cl2_4027.out))
                replace bx_4028 := kD bx_4028
                replace by_4029 := kD by_4029
                replace l0_4030 := iD l0_4030
                replace l1_4031 := iD l1_4031
                replace l2_4032 := iD l2_4032
                replace l3_4033 := iD l3_4033
                replace bel_4034 := bD bel_4034
                refine wp_region_held_drew (S := (fun W' => Blk W' (w.heap.size) 101 #[.int .i64 c, .slice A n k, .slice B m j, .int .i64 d, .slice C n2 k2, .slice D m2 j2, .int .i64 p1, .int .i64 p2, .int .i64 p3, .int .i64 p4] ∧ Blk W' (w.heap.size + 1) 54 #[.slice (some ⟨ab0, ao0, none⟩) x1 k1, .slice (some ⟨ab1, ao1, none⟩) x2 k2x, .slice (some ⟨ab2, ao2, none⟩) x3 k3, .slice (some ⟨ab3, ao3, none⟩) x4 k4] ∧ RdI W' (some ⟨ab0, ao0, none⟩) x1 k1 xa ∧ RdI W' (some ⟨ab1, ao1, none⟩) x2 k2x xb ∧ RdI W' (some ⟨ab2, ao2, none⟩) x3 k3 ya ∧ RdI W' (some ⟨ab3, ao3, none⟩) x4 k4 yb)) (by kernel_rfl) ⟨bx_4028.out, by_4029.out, l0_4030.out, l1_4031.out, l2_4032.out, l3_4033.out⟩ (fun _ => ?_)
                obtain ⟨w1084, hw1085⟩ : ∃ w', w' = (wr.drew) := ⟨_, rfl⟩
                rw [← hw1085] at cl1_4026 cl2_4027 bx_4028 by_4029 l0_4030 l1_4031 l2_4032 l3_4033 bel_4034
                rw [← hw1085]
                clear hw1085
                refine' twH 0 ⟨bx_4028.out, by_4029.out, l0_4030.out, l1_4031.out, l2_4032.out, l3_4033.out⟩ ?_
                refine' tkH 1 ⟨bx_4028.out, by_4029.out, l0_4030.out, l1_4031.out, l2_4032.out, l3_4033.out⟩ ?hyR1087 ?_
                case hyR1087 => (rintro W' ⟨hS0, hS1, hS2, hS3, hS4, hS5⟩; have hc0 := Blk.nth hS1 0; clear hS0 hS1 hS2 hS3 hS4 hS5; go_simp; try with_reducible rfl)
                refine' twH 2 ⟨bx_4028.out, by_4029.out, l0_4030.out, l1_4031.out, l2_4032.out, l3_4033.out⟩ ?_
                refine' twH 3 ⟨bx_4028.out, by_4029.out, l0_4030.out, l1_4031.out, l2_4032.out, l3_4033.out⟩ ?_
                try simp only [Act.put, qsA, qsZ, qsS]
                refine' twH 7 ⟨bx_4028.out, by_4029.out, l0_4030.out, l1_4031.out, l2_4032.out, l3_4033.out⟩ ?_
                refine' tkH 8 ⟨bx_4028.out, by_4029.out, l0_4030.out, l1_4031.out, l2_4032.out, l3_4033.out⟩ ?hyR1091 ?_
                case hyR1091 => (rintro W' ⟨hS0, hS1, hS2, hS3, hS4, hS5⟩; have hc0 := Blk.nth hS1 0; clear hS0 hS1 hS2 hS3 hS4 hS5; go_simp; try with_reducible rfl)
                refine' twH 9 ⟨bx_4028.out, by_4029.out, l0_4030.out, l1_4031.out, l2_4032.out, l3_4033.out⟩ ?_
                refine' twH 10 ⟨bx_4028.out, by_4029.out, l0_4030.out, l1_4031.out, l2_4032.out, l3_4033.out⟩ ?_
                try simp only [Act.put, qsA, qsZ, qsS]
                refine' twH 11 ⟨bx_4028.out, by_4029.out, l0_4030.out, l1_4031.out, l2_4032.out, l3_4033.out⟩ ?_
                refine' tkH 12 ⟨bx_4028.out, by_4029.out, l0_4030.out, l1_4031.out, l2_4032.out, l3_4033.out⟩ ?hyR1095 ?_
                case hyR1095 => (rintro W' ⟨hS0, hS1, hS2, hS3, hS4, hS5⟩; have hc0 := Blk.nth hS0 6; clear hS0 hS1 hS2 hS3 hS4 hS5; go_simp; try with_reducible rfl)
                refine' twH 13 ⟨bx_4028.out, by_4029.out, l0_4030.out, l1_4031.out, l2_4032.out, l3_4033.out⟩ ?_
                refine' tkH 14 ⟨bx_4028.out, by_4029.out, l0_4030.out, l1_4031.out, l2_4032.out, l3_4033.out⟩ ?hyR1097 ?_
                case hyR1097 => (rintro W' ⟨hS0, hS1, hS2, hS3, hS4, hS5⟩; have hc_ := (rdI_at hS2 gb_).1; clear hS0 hS1 hS2 hS3 hS4 hS5; go_simp; try with_reducible rfl)
                try simp only [Act.put, qsA, qsZ, qsS]
                refine' twH 16 ⟨bx_4028.out, by_4029.out, l0_4030.out, l1_4031.out, l2_4032.out, l3_4033.out⟩ ?_
                refine' tkH 17 ⟨bx_4028.out, by_4029.out, l0_4030.out, l1_4031.out, l2_4032.out, l3_4033.out⟩ ?hyR1099 ?_
                case hyR1099 => (rintro W' ⟨hS0, hS1, hS2, hS3, hS4, hS5⟩; have hc0 := Blk.nth hS1 1; clear hS0 hS1 hS2 hS3 hS4 hS5; go_simp; try with_reducible rfl)
                refine' twH 18 ⟨bx_4028.out, by_4029.out, l0_4030.out, l1_4031.out, l2_4032.out, l3_4033.out⟩ ?_
                refine' twH 19 ⟨bx_4028.out, by_4029.out, l0_4030.out, l1_4031.out, l2_4032.out, l3_4033.out⟩ ?_
                try simp only [Act.put, qsA, qsZ, qsS]
                refine' twH 20 ⟨bx_4028.out, by_4029.out, l0_4030.out, l1_4031.out, l2_4032.out, l3_4033.out⟩ ?_
                refine' tkH 21 ⟨bx_4028.out, by_4029.out, l0_4030.out, l1_4031.out, l2_4032.out, l3_4033.out⟩ ?hyR1103 ?_
                case hyR1103 => (rintro W' ⟨hS0, hS1, hS2, hS3, hS4, hS5⟩; have hc0 := Blk.nth hS0 9; clear hS0 hS1 hS2 hS3 hS4 hS5; go_simp; try with_reducible rfl)
                refine' twH 22 ⟨bx_4028.out, by_4029.out, l0_4030.out, l1_4031.out, l2_4032.out, l3_4033.out⟩ ?_
                refine' tkH 23 ⟨bx_4028.out, by_4029.out, l0_4030.out, l1_4031.out, l2_4032.out, l3_4033.out⟩ ?hyR1105 ?_
                case hyR1105 => (rintro W' ⟨hS0, hS1, hS2, hS3, hS4, hS5⟩; have hc_ := (rdI_at hS3 gc_).1; clear hS0 hS1 hS2 hS3 hS4 hS5; go_simp; try with_reducible rfl)
                try simp only [Act.put, qsA, qsZ, qsS]
                refine' twH 24 ⟨bx_4028.out, by_4029.out, l0_4030.out, l1_4031.out, l2_4032.out, l3_4033.out⟩ ?_
                refine' tkH 25 ⟨bx_4028.out, by_4029.out, l0_4030.out, l1_4031.out, l2_4032.out, l3_4033.out⟩ ?hyR1107 ?_
                case hyR1107 => (rintro W' ⟨hS0, hS1, hS2, hS3, hS4, hS5⟩; have hc0 := Blk.nth hS1 1; clear hS0 hS1 hS2 hS3 hS4 hS5; go_simp; try with_reducible rfl)
                refine' twH 26 ⟨bx_4028.out, by_4029.out, l0_4030.out, l1_4031.out, l2_4032.out, l3_4033.out⟩ ?_
                refine' twH 27 ⟨bx_4028.out, by_4029.out, l0_4030.out, l1_4031.out, l2_4032.out, l3_4033.out⟩ ?_
                try simp only [Act.put, qsA, qsZ, qsS]
                refine' tkH 28 ⟨bx_4028.out, by_4029.out, l0_4030.out, l1_4031.out, l2_4032.out, l3_4033.out⟩ ?hyR1110 ?_
                case hyR1110 => (rintro W' ⟨hS0, hS1, hS2, hS3, hS4, hS5⟩; have hc_ := (rdI_at hS3 gd_).1; clear hS0 hS1 hS2 hS3 hS4 hS5; go_simp; try with_reducible rfl)
                refine' twH 29 ⟨bx_4028.out, by_4029.out, l0_4030.out, l1_4031.out, l2_4032.out, l3_4033.out⟩ ?_
                try simp only [Act.put, qsA, qsZ, qsS]
                refine oneH 4 rfl fun K hK => ?_
                go_simp
                go_at_call 173
                refine (HV1.out _ (cl1_4026.out)).mono ?_
                rintro e w1112 ⟨rfl, rfl⟩
                dsimp only
                refine hK.out _ _ ⟨bx_4028.out, by_4029.out, l0_4030.out, l1_4031.out, l2_4032.out, l3_4033.out⟩ (fun _ => ?_); clear hK K
                try simp only [Act.put, qsA, qsZ, qsS]
                refine' twH 5 ⟨bx_4028.out, by_4029.out, l0_4030.out, l1_4031.out, l2_4032.out, l3_4033.out⟩ ?_
                refine' tkH 6 ⟨bx_4028.out, by_4029.out, l0_4030.out, l1_4031.out, l2_4032.out, l3_4033.out⟩ ?hyR1114 ?_
                case hyR1114 => (rintro W' ⟨hS0, hS1, hS2, hS3, hS4, hS5⟩; have hc_ := (rdI_at hS2 ga_).1; clear hS0 hS1 hS2 hS3 hS4 hS5; go_simp; try with_reducible rfl)
                refine' twH 15 ⟨bx_4028.out, by_4029.out, l0_4030.out, l1_4031.out, l2_4032.out, l3_4033.out⟩ ?_
                refine' twH 30 ⟨bx_4028.out, by_4029.out, l0_4030.out, l1_4031.out, l2_4032.out, l3_4033.out⟩ ?_
                try simp only [Act.put, qsA, qsZ, qsS]
                refine' twH 31 ⟨bx_4028.out, by_4029.out, l0_4030.out, l1_4031.out, l2_4032.out, l3_4033.out⟩ ?_
                refine' twH 32 ⟨bx_4028.out, by_4029.out, l0_4030.out, l1_4031.out, l2_4032.out, l3_4033.out⟩ ?_
                refine' tkH 33 ⟨bx_4028.out, by_4029.out, l0_4030.out, l1_4031.out, l2_4032.out, l3_4033.out⟩ ?hyR1119 ?_
                case hyR1119 => (rintro W' ⟨hS0, hS1, hS2, hS3, hS4, hS5⟩; have hc0 := Blk.nth hS1 2; clear hS0 hS1 hS2 hS3 hS4 hS5; go_simp; try with_reducible rfl)
                refine' twH 34 ⟨bx_4028.out, by_4029.out, l0_4030.out, l1_4031.out, l2_4032.out, l3_4033.out⟩ ?_
                try simp only [Act.put, qsA, qsZ, qsS]
                refine' twH 35 ⟨bx_4028.out, by_4029.out, l0_4030.out, l1_4031.out, l2_4032.out, l3_4033.out⟩ ?_
                refine' twH 39 ⟨bx_4028.out, by_4029.out, l0_4030.out, l1_4031.out, l2_4032.out, l3_4033.out⟩ ?_
                refine' tkH 40 ⟨bx_4028.out, by_4029.out, l0_4030.out, l1_4031.out, l2_4032.out, l3_4033.out⟩ ?hyR1123 ?_
                case hyR1123 => (rintro W' ⟨hS0, hS1, hS2, hS3, hS4, hS5⟩; have hc0 := Blk.nth hS1 2; clear hS0 hS1 hS2 hS3 hS4 hS5; go_simp; try with_reducible rfl)
                refine' twH 41 ⟨bx_4028.out, by_4029.out, l0_4030.out, l1_4031.out, l2_4032.out, l3_4033.out⟩ ?_
                try simp only [Act.put, qsA, qsZ, qsS]
                refine' twH 42 ⟨bx_4028.out, by_4029.out, l0_4030.out, l1_4031.out, l2_4032.out, l3_4033.out⟩ ?_
                refine' twH 43 ⟨bx_4028.out, by_4029.out, l0_4030.out, l1_4031.out, l2_4032.out, l3_4033.out⟩ ?_
                refine' tkH 44 ⟨bx_4028.out, by_4029.out, l0_4030.out, l1_4031.out, l2_4032.out, l3_4033.out⟩ ?hyR1127 ?_
                case hyR1127 => (rintro W' ⟨hS0, hS1, hS2, hS3, hS4, hS5⟩; have hc0 := Blk.nth hS0 6; clear hS0 hS1 hS2 hS3 hS4 hS5; go_simp; try with_reducible rfl)
                refine' twH 45 ⟨bx_4028.out, by_4029.out, l0_4030.out, l1_4031.out, l2_4032.out, l3_4033.out⟩ ?_
                try simp only [Act.put, qsA, qsZ, qsS]
                refine' tkH 46 ⟨bx_4028.out, by_4029.out, l0_4030.out, l1_4031.out, l2_4032.out, l3_4033.out⟩ ?hyR1129 ?_
                case hyR1129 => (rintro W' ⟨hS0, hS1, hS2, hS3, hS4, hS5⟩; have hc_ := (rdI_at hS4 gf_).1; clear hS0 hS1 hS2 hS3 hS4 hS5; go_simp; try with_reducible rfl)
                refine' twH 48 ⟨bx_4028.out, by_4029.out, l0_4030.out, l1_4031.out, l2_4032.out, l3_4033.out⟩ ?_
                refine' tkH 49 ⟨bx_4028.out, by_4029.out, l0_4030.out, l1_4031.out, l2_4032.out, l3_4033.out⟩ ?hyR1131 ?_
                case hyR1131 => (rintro W' ⟨hS0, hS1, hS2, hS3, hS4, hS5⟩; have hc0 := Blk.nth hS1 3; clear hS0 hS1 hS2 hS3 hS4 hS5; go_simp; try with_reducible rfl)
                refine' twH 50 ⟨bx_4028.out, by_4029.out, l0_4030.out, l1_4031.out, l2_4032.out, l3_4033.out⟩ ?_
                try simp only [Act.put, qsA, qsZ, qsS]
                refine' twH 51 ⟨bx_4028.out, by_4029.out, l0_4030.out, l1_4031.out, l2_4032.out, l3_4033.out⟩ ?_
                refine' tkH 52 ⟨bx_4028.out, by_4029.out, l0_4030.out, l1_4031.out, l2_4032.out, l3_4033.out⟩ ?hyR1134 ?_
                case hyR1134 => (rintro W' ⟨hS0, hS1, hS2, hS3, hS4, hS5⟩; have hc_ := (rdI_at hS5 gg_).1; clear hS0 hS1 hS2 hS3 hS4 hS5; go_simp; try with_reducible rfl)
                refine' twH 53 ⟨bx_4028.out, by_4029.out, l0_4030.out, l1_4031.out, l2_4032.out, l3_4033.out⟩ ?_
                refine' tkH 54 ⟨bx_4028.out, by_4029.out, l0_4030.out, l1_4031.out, l2_4032.out, l3_4033.out⟩ ?hyR1136 ?_
                case hyR1136 => (rintro W' ⟨hS0, hS1, hS2, hS3, hS4, hS5⟩; have hc0 := Blk.nth hS1 3; clear hS0 hS1 hS2 hS3 hS4 hS5; go_simp; try with_reducible rfl)
                try simp only [Act.put, qsA, qsZ, qsS]
                refine' twH 55 ⟨bx_4028.out, by_4029.out, l0_4030.out, l1_4031.out, l2_4032.out, l3_4033.out⟩ ?_
                refine' twH 56 ⟨bx_4028.out, by_4029.out, l0_4030.out, l1_4031.out, l2_4032.out, l3_4033.out⟩ ?_
                refine' twH 57 ⟨bx_4028.out, by_4029.out, l0_4030.out, l1_4031.out, l2_4032.out, l3_4033.out⟩ ?_
                refine' tkH 58 ⟨bx_4028.out, by_4029.out, l0_4030.out, l1_4031.out, l2_4032.out, l3_4033.out⟩ ?hyR1140 ?_
                case hyR1140 => (rintro W' ⟨hS0, hS1, hS2, hS3, hS4, hS5⟩; have hc0 := Blk.nth hS0 9; clear hS0 hS1 hS2 hS3 hS4 hS5; go_simp; try with_reducible rfl)
                try simp only [Act.put, qsA, qsZ, qsS]
                refine' twH 59 ⟨bx_4028.out, by_4029.out, l0_4030.out, l1_4031.out, l2_4032.out, l3_4033.out⟩ ?_
                refine' twH 60 ⟨bx_4028.out, by_4029.out, l0_4030.out, l1_4031.out, l2_4032.out, l3_4033.out⟩ ?_
                refine' tkH 61 ⟨bx_4028.out, by_4029.out, l0_4030.out, l1_4031.out, l2_4032.out, l3_4033.out⟩ ?hyR1143 ?_
                case hyR1143 => (rintro W' ⟨hS0, hS1, hS2, hS3, hS4, hS5⟩; have hc_ := (rdI_at hS5 gh_).1; clear hS0 hS1 hS2 hS3 hS4 hS5; go_simp; try with_reducible rfl)
                refine' twH 62 ⟨bx_4028.out, by_4029.out, l0_4030.out, l1_4031.out, l2_4032.out, l3_4033.out⟩ ?_
                try simp only [Act.put, qsA, qsZ, qsS]
                refine oneH 36 rfl fun K hK => ?_
                go_simp
                go_at_call 173
                refine (HV2.out _ (cl2_4027.out)).mono ?_
                rintro e w1145 ⟨rfl, rfl⟩
                dsimp only
                refine hK.out _ _ ⟨bx_4028.out, by_4029.out, l0_4030.out, l1_4031.out, l2_4032.out, l3_4033.out⟩ (fun _ => ?_); clear hK K
                try simp only [Act.put, qsA, qsZ, qsS]
                refine' twH 37 ⟨bx_4028.out, by_4029.out, l0_4030.out, l1_4031.out, l2_4032.out, l3_4033.out⟩ ?_
                refine' tkH 38 ⟨bx_4028.out, by_4029.out, l0_4030.out, l1_4031.out, l2_4032.out, l3_4033.out⟩ ?hyR1147 ?_
                case hyR1147 => (rintro W' ⟨hS0, hS1, hS2, hS3, hS4, hS5⟩; have hc_ := (rdI_at hS4 ge_).1; clear hS0 hS1 hS2 hS3 hS4 hS5; go_simp; try with_reducible rfl)
                refine' twH 47 ⟨bx_4028.out, by_4029.out, l0_4030.out, l1_4031.out, l2_4032.out, l3_4033.out⟩ ?_
                refine' twH 63 ⟨bx_4028.out, by_4029.out, l0_4030.out, l1_4031.out, l2_4032.out, l3_4033.out⟩ ?_
                try simp only [Act.put, qsA, qsZ, qsS]
                refine' twH 64 ⟨bx_4028.out, by_4029.out, l0_4030.out, l1_4031.out, l2_4032.out, l3_4033.out⟩ ?_
                try simp only [Act.put, qsA, qsZ, qsS]
                refine wpAnyH_done (by kernel_rfl) ?_ _
                go_wp2
                go_roundw
                all_goals have hrq := HRQ.out
                case rel => exact ⟨q + 1, r + 1, by omega, by omega, by go_num, by rw [ties_succ, HTI.out, HTW.out, HTT.out, hd1, hd2]; rfl, cl1_4026.out, cl2_4027.out, bx_4028.out, by_4029.out, l0_4030.out, l1_4031.out, l2_4032.out, l3_4033.out, bel_4034.out⟩
                case measure => simp [intOf]; omega
              · have hb2 : (ze - zf != zg - zh) = true := by simpa using h2
                have hd2 : decide (ze - zf = zg - zh) = false := decide_eq_false h2
                clear h2
                obtain ⟨z_6035, z_6036, z_6037, z_6038, z_6039, z_6040, z_6041, z_6042, z_6043, z_6044⟩ := at10 bx_4028
                obtain ⟨z_6045, z_6046, z_6047, z_6048⟩ := at4 by_4029
                go_wp2_with fail
                clear z_6035 z_6036 z_6037 z_6038 z_6039 z_6040 z_6041 z_6042 z_6043 z_6044 z_6045 z_6046 z_6047 z_6048
                replace cl1_4026 := Lib.hid (Cl.drew (cl1_4026.out))
                replace cl2_4027 := Lib.hid (Cl.drew (cl2_4027.out))
                replace bx_4028 := kD bx_4028
                replace by_4029 := kD by_4029
                replace l0_4030 := iD l0_4030
                replace l1_4031 := iD l1_4031
                replace l2_4032 := iD l2_4032
                replace l3_4033 := iD l3_4033
                replace bel_4034 := bD bel_4034
                refine wp_region_held_drew (S := (fun W' => Blk W' (w.heap.size) 101 #[.int .i64 c, .slice A n k, .slice B m j, .int .i64 d, .slice C n2 k2, .slice D m2 j2, .int .i64 p1, .int .i64 p2, .int .i64 p3, .int .i64 p4] ∧ Blk W' (w.heap.size + 1) 54 #[.slice (some ⟨ab0, ao0, none⟩) x1 k1, .slice (some ⟨ab1, ao1, none⟩) x2 k2x, .slice (some ⟨ab2, ao2, none⟩) x3 k3, .slice (some ⟨ab3, ao3, none⟩) x4 k4] ∧ RdI W' (some ⟨ab0, ao0, none⟩) x1 k1 xa ∧ RdI W' (some ⟨ab1, ao1, none⟩) x2 k2x xb ∧ RdI W' (some ⟨ab2, ao2, none⟩) x3 k3 ya ∧ RdI W' (some ⟨ab3, ao3, none⟩) x4 k4 yb)) (by kernel_rfl) ⟨bx_4028.out, by_4029.out, l0_4030.out, l1_4031.out, l2_4032.out, l3_4033.out⟩ (fun _ => ?_)
                obtain ⟨w1151, hw1152⟩ : ∃ w', w' = (wr.drew) := ⟨_, rfl⟩
                rw [← hw1152] at cl1_4026 cl2_4027 bx_4028 by_4029 l0_4030 l1_4031 l2_4032 l3_4033 bel_4034
                rw [← hw1152]
                clear hw1152
                refine' twH 0 ⟨bx_4028.out, by_4029.out, l0_4030.out, l1_4031.out, l2_4032.out, l3_4033.out⟩ ?_
                refine' tkH 1 ⟨bx_4028.out, by_4029.out, l0_4030.out, l1_4031.out, l2_4032.out, l3_4033.out⟩ ?hyR1154 ?_
                case hyR1154 => (rintro W' ⟨hS0, hS1, hS2, hS3, hS4, hS5⟩; have hc0 := Blk.nth hS1 0; clear hS0 hS1 hS2 hS3 hS4 hS5; go_simp; try with_reducible rfl)
                refine' twH 2 ⟨bx_4028.out, by_4029.out, l0_4030.out, l1_4031.out, l2_4032.out, l3_4033.out⟩ ?_
                refine' twH 3 ⟨bx_4028.out, by_4029.out, l0_4030.out, l1_4031.out, l2_4032.out, l3_4033.out⟩ ?_
                try simp only [Act.put, qsA, qsZ, qsS]
                refine' twH 7 ⟨bx_4028.out, by_4029.out, l0_4030.out, l1_4031.out, l2_4032.out, l3_4033.out⟩ ?_
                refine' tkH 8 ⟨bx_4028.out, by_4029.out, l0_4030.out, l1_4031.out, l2_4032.out, l3_4033.out⟩ ?hyR1158 ?_
                case hyR1158 => (rintro W' ⟨hS0, hS1, hS2, hS3, hS4, hS5⟩; have hc0 := Blk.nth hS1 0; clear hS0 hS1 hS2 hS3 hS4 hS5; go_simp; try with_reducible rfl)
                refine' twH 9 ⟨bx_4028.out, by_4029.out, l0_4030.out, l1_4031.out, l2_4032.out, l3_4033.out⟩ ?_
                refine' twH 10 ⟨bx_4028.out, by_4029.out, l0_4030.out, l1_4031.out, l2_4032.out, l3_4033.out⟩ ?_
                try simp only [Act.put, qsA, qsZ, qsS]
                refine' twH 11 ⟨bx_4028.out, by_4029.out, l0_4030.out, l1_4031.out, l2_4032.out, l3_4033.out⟩ ?_
                refine' tkH 12 ⟨bx_4028.out, by_4029.out, l0_4030.out, l1_4031.out, l2_4032.out, l3_4033.out⟩ ?hyR1162 ?_
                case hyR1162 => (rintro W' ⟨hS0, hS1, hS2, hS3, hS4, hS5⟩; have hc0 := Blk.nth hS0 6; clear hS0 hS1 hS2 hS3 hS4 hS5; go_simp; try with_reducible rfl)
                refine' twH 13 ⟨bx_4028.out, by_4029.out, l0_4030.out, l1_4031.out, l2_4032.out, l3_4033.out⟩ ?_
                refine' tkH 14 ⟨bx_4028.out, by_4029.out, l0_4030.out, l1_4031.out, l2_4032.out, l3_4033.out⟩ ?hyR1164 ?_
                case hyR1164 => (rintro W' ⟨hS0, hS1, hS2, hS3, hS4, hS5⟩; have hc_ := (rdI_at hS2 gb_).1; clear hS0 hS1 hS2 hS3 hS4 hS5; go_simp; try with_reducible rfl)
                try simp only [Act.put, qsA, qsZ, qsS]
                refine' twH 16 ⟨bx_4028.out, by_4029.out, l0_4030.out, l1_4031.out, l2_4032.out, l3_4033.out⟩ ?_
                refine' tkH 17 ⟨bx_4028.out, by_4029.out, l0_4030.out, l1_4031.out, l2_4032.out, l3_4033.out⟩ ?hyR1166 ?_
                case hyR1166 => (rintro W' ⟨hS0, hS1, hS2, hS3, hS4, hS5⟩; have hc0 := Blk.nth hS1 1; clear hS0 hS1 hS2 hS3 hS4 hS5; go_simp; try with_reducible rfl)
                refine' twH 18 ⟨bx_4028.out, by_4029.out, l0_4030.out, l1_4031.out, l2_4032.out, l3_4033.out⟩ ?_
                refine' twH 19 ⟨bx_4028.out, by_4029.out, l0_4030.out, l1_4031.out, l2_4032.out, l3_4033.out⟩ ?_
                try simp only [Act.put, qsA, qsZ, qsS]
                refine' twH 20 ⟨bx_4028.out, by_4029.out, l0_4030.out, l1_4031.out, l2_4032.out, l3_4033.out⟩ ?_
                refine' tkH 21 ⟨bx_4028.out, by_4029.out, l0_4030.out, l1_4031.out, l2_4032.out, l3_4033.out⟩ ?hyR1170 ?_
                case hyR1170 => (rintro W' ⟨hS0, hS1, hS2, hS3, hS4, hS5⟩; have hc0 := Blk.nth hS0 9; clear hS0 hS1 hS2 hS3 hS4 hS5; go_simp; try with_reducible rfl)
                refine' twH 22 ⟨bx_4028.out, by_4029.out, l0_4030.out, l1_4031.out, l2_4032.out, l3_4033.out⟩ ?_
                refine' tkH 23 ⟨bx_4028.out, by_4029.out, l0_4030.out, l1_4031.out, l2_4032.out, l3_4033.out⟩ ?hyR1172 ?_
                case hyR1172 => (rintro W' ⟨hS0, hS1, hS2, hS3, hS4, hS5⟩; have hc_ := (rdI_at hS3 gc_).1; clear hS0 hS1 hS2 hS3 hS4 hS5; go_simp; try with_reducible rfl)
                try simp only [Act.put, qsA, qsZ, qsS]
                refine' twH 24 ⟨bx_4028.out, by_4029.out, l0_4030.out, l1_4031.out, l2_4032.out, l3_4033.out⟩ ?_
                refine' tkH 25 ⟨bx_4028.out, by_4029.out, l0_4030.out, l1_4031.out, l2_4032.out, l3_4033.out⟩ ?hyR1174 ?_
                case hyR1174 => (rintro W' ⟨hS0, hS1, hS2, hS3, hS4, hS5⟩; have hc0 := Blk.nth hS1 1; clear hS0 hS1 hS2 hS3 hS4 hS5; go_simp; try with_reducible rfl)
                refine' twH 26 ⟨bx_4028.out, by_4029.out, l0_4030.out, l1_4031.out, l2_4032.out, l3_4033.out⟩ ?_
                refine' twH 27 ⟨bx_4028.out, by_4029.out, l0_4030.out, l1_4031.out, l2_4032.out, l3_4033.out⟩ ?_
                try simp only [Act.put, qsA, qsZ, qsS]
                refine' tkH 28 ⟨bx_4028.out, by_4029.out, l0_4030.out, l1_4031.out, l2_4032.out, l3_4033.out⟩ ?hyR1177 ?_
                case hyR1177 => (rintro W' ⟨hS0, hS1, hS2, hS3, hS4, hS5⟩; have hc_ := (rdI_at hS3 gd_).1; clear hS0 hS1 hS2 hS3 hS4 hS5; go_simp; try with_reducible rfl)
                refine' twH 29 ⟨bx_4028.out, by_4029.out, l0_4030.out, l1_4031.out, l2_4032.out, l3_4033.out⟩ ?_
                try simp only [Act.put, qsA, qsZ, qsS]
                refine oneH 4 rfl fun K hK => ?_
                go_simp
                go_at_call 173
                refine (HV1.out _ (cl1_4026.out)).mono ?_
                rintro e w1179 ⟨rfl, rfl⟩
                dsimp only
                refine hK.out _ _ ⟨bx_4028.out, by_4029.out, l0_4030.out, l1_4031.out, l2_4032.out, l3_4033.out⟩ (fun _ => ?_); clear hK K
                try simp only [Act.put, qsA, qsZ, qsS]
                refine' twH 5 ⟨bx_4028.out, by_4029.out, l0_4030.out, l1_4031.out, l2_4032.out, l3_4033.out⟩ ?_
                refine' tkH 6 ⟨bx_4028.out, by_4029.out, l0_4030.out, l1_4031.out, l2_4032.out, l3_4033.out⟩ ?hyR1181 ?_
                case hyR1181 => (rintro W' ⟨hS0, hS1, hS2, hS3, hS4, hS5⟩; have hc_ := (rdI_at hS2 ga_).1; clear hS0 hS1 hS2 hS3 hS4 hS5; go_simp; try with_reducible rfl)
                refine' twH 15 ⟨bx_4028.out, by_4029.out, l0_4030.out, l1_4031.out, l2_4032.out, l3_4033.out⟩ ?_
                refine' twH 30 ⟨bx_4028.out, by_4029.out, l0_4030.out, l1_4031.out, l2_4032.out, l3_4033.out⟩ ?_
                try simp only [Act.put, qsA, qsZ, qsS]
                refine' twH 31 ⟨bx_4028.out, by_4029.out, l0_4030.out, l1_4031.out, l2_4032.out, l3_4033.out⟩ ?_
                refine' twH 32 ⟨bx_4028.out, by_4029.out, l0_4030.out, l1_4031.out, l2_4032.out, l3_4033.out⟩ ?_
                refine' tkH 33 ⟨bx_4028.out, by_4029.out, l0_4030.out, l1_4031.out, l2_4032.out, l3_4033.out⟩ ?hyR1186 ?_
                case hyR1186 => (rintro W' ⟨hS0, hS1, hS2, hS3, hS4, hS5⟩; have hc0 := Blk.nth hS1 2; clear hS0 hS1 hS2 hS3 hS4 hS5; go_simp; try with_reducible rfl)
                refine' twH 34 ⟨bx_4028.out, by_4029.out, l0_4030.out, l1_4031.out, l2_4032.out, l3_4033.out⟩ ?_
                try simp only [Act.put, qsA, qsZ, qsS]
                refine' twH 35 ⟨bx_4028.out, by_4029.out, l0_4030.out, l1_4031.out, l2_4032.out, l3_4033.out⟩ ?_
                refine' twH 39 ⟨bx_4028.out, by_4029.out, l0_4030.out, l1_4031.out, l2_4032.out, l3_4033.out⟩ ?_
                refine' tkH 40 ⟨bx_4028.out, by_4029.out, l0_4030.out, l1_4031.out, l2_4032.out, l3_4033.out⟩ ?hyR1190 ?_
                case hyR1190 => (rintro W' ⟨hS0, hS1, hS2, hS3, hS4, hS5⟩; have hc0 := Blk.nth hS1 2; clear hS0 hS1 hS2 hS3 hS4 hS5; go_simp; try with_reducible rfl)
                refine' twH 41 ⟨bx_4028.out, by_4029.out, l0_4030.out, l1_4031.out, l2_4032.out, l3_4033.out⟩ ?_
                try simp only [Act.put, qsA, qsZ, qsS]
                refine' twH 42 ⟨bx_4028.out, by_4029.out, l0_4030.out, l1_4031.out, l2_4032.out, l3_4033.out⟩ ?_
                refine' twH 43 ⟨bx_4028.out, by_4029.out, l0_4030.out, l1_4031.out, l2_4032.out, l3_4033.out⟩ ?_
                refine' tkH 44 ⟨bx_4028.out, by_4029.out, l0_4030.out, l1_4031.out, l2_4032.out, l3_4033.out⟩ ?hyR1194 ?_
                case hyR1194 => (rintro W' ⟨hS0, hS1, hS2, hS3, hS4, hS5⟩; have hc0 := Blk.nth hS0 6; clear hS0 hS1 hS2 hS3 hS4 hS5; go_simp; try with_reducible rfl)
                refine' twH 45 ⟨bx_4028.out, by_4029.out, l0_4030.out, l1_4031.out, l2_4032.out, l3_4033.out⟩ ?_
                try simp only [Act.put, qsA, qsZ, qsS]
                refine' tkH 46 ⟨bx_4028.out, by_4029.out, l0_4030.out, l1_4031.out, l2_4032.out, l3_4033.out⟩ ?hyR1196 ?_
                case hyR1196 => (rintro W' ⟨hS0, hS1, hS2, hS3, hS4, hS5⟩; have hc_ := (rdI_at hS4 gf_).1; clear hS0 hS1 hS2 hS3 hS4 hS5; go_simp; try with_reducible rfl)
                refine' twH 48 ⟨bx_4028.out, by_4029.out, l0_4030.out, l1_4031.out, l2_4032.out, l3_4033.out⟩ ?_
                refine' tkH 49 ⟨bx_4028.out, by_4029.out, l0_4030.out, l1_4031.out, l2_4032.out, l3_4033.out⟩ ?hyR1198 ?_
                case hyR1198 => (rintro W' ⟨hS0, hS1, hS2, hS3, hS4, hS5⟩; have hc0 := Blk.nth hS1 3; clear hS0 hS1 hS2 hS3 hS4 hS5; go_simp; try with_reducible rfl)
                refine' twH 50 ⟨bx_4028.out, by_4029.out, l0_4030.out, l1_4031.out, l2_4032.out, l3_4033.out⟩ ?_
                try simp only [Act.put, qsA, qsZ, qsS]
                refine' twH 51 ⟨bx_4028.out, by_4029.out, l0_4030.out, l1_4031.out, l2_4032.out, l3_4033.out⟩ ?_
                refine' tkH 52 ⟨bx_4028.out, by_4029.out, l0_4030.out, l1_4031.out, l2_4032.out, l3_4033.out⟩ ?hyR1201 ?_
                case hyR1201 => (rintro W' ⟨hS0, hS1, hS2, hS3, hS4, hS5⟩; have hc_ := (rdI_at hS5 gg_).1; clear hS0 hS1 hS2 hS3 hS4 hS5; go_simp; try with_reducible rfl)
                refine' twH 53 ⟨bx_4028.out, by_4029.out, l0_4030.out, l1_4031.out, l2_4032.out, l3_4033.out⟩ ?_
                refine' tkH 54 ⟨bx_4028.out, by_4029.out, l0_4030.out, l1_4031.out, l2_4032.out, l3_4033.out⟩ ?hyR1203 ?_
                case hyR1203 => (rintro W' ⟨hS0, hS1, hS2, hS3, hS4, hS5⟩; have hc0 := Blk.nth hS1 3; clear hS0 hS1 hS2 hS3 hS4 hS5; go_simp; try with_reducible rfl)
                try simp only [Act.put, qsA, qsZ, qsS]
                refine' twH 55 ⟨bx_4028.out, by_4029.out, l0_4030.out, l1_4031.out, l2_4032.out, l3_4033.out⟩ ?_
                refine' twH 56 ⟨bx_4028.out, by_4029.out, l0_4030.out, l1_4031.out, l2_4032.out, l3_4033.out⟩ ?_
                refine' twH 57 ⟨bx_4028.out, by_4029.out, l0_4030.out, l1_4031.out, l2_4032.out, l3_4033.out⟩ ?_
                refine' tkH 58 ⟨bx_4028.out, by_4029.out, l0_4030.out, l1_4031.out, l2_4032.out, l3_4033.out⟩ ?hyR1207 ?_
                case hyR1207 => (rintro W' ⟨hS0, hS1, hS2, hS3, hS4, hS5⟩; have hc0 := Blk.nth hS0 9; clear hS0 hS1 hS2 hS3 hS4 hS5; go_simp; try with_reducible rfl)
                try simp only [Act.put, qsA, qsZ, qsS]
                refine' twH 59 ⟨bx_4028.out, by_4029.out, l0_4030.out, l1_4031.out, l2_4032.out, l3_4033.out⟩ ?_
                refine' twH 60 ⟨bx_4028.out, by_4029.out, l0_4030.out, l1_4031.out, l2_4032.out, l3_4033.out⟩ ?_
                refine' tkH 61 ⟨bx_4028.out, by_4029.out, l0_4030.out, l1_4031.out, l2_4032.out, l3_4033.out⟩ ?hyR1210 ?_
                case hyR1210 => (rintro W' ⟨hS0, hS1, hS2, hS3, hS4, hS5⟩; have hc_ := (rdI_at hS5 gh_).1; clear hS0 hS1 hS2 hS3 hS4 hS5; go_simp; try with_reducible rfl)
                refine' twH 62 ⟨bx_4028.out, by_4029.out, l0_4030.out, l1_4031.out, l2_4032.out, l3_4033.out⟩ ?_
                try simp only [Act.put, qsA, qsZ, qsS]
                refine oneH 36 rfl fun K hK => ?_
                go_simp
                go_at_call 173
                refine (HV2.out _ (cl2_4027.out)).mono ?_
                rintro e w1212 ⟨rfl, rfl⟩
                dsimp only
                refine hK.out _ _ ⟨bx_4028.out, by_4029.out, l0_4030.out, l1_4031.out, l2_4032.out, l3_4033.out⟩ (fun _ => ?_); clear hK K
                try simp only [Act.put, qsA, qsZ, qsS]
                refine' twH 37 ⟨bx_4028.out, by_4029.out, l0_4030.out, l1_4031.out, l2_4032.out, l3_4033.out⟩ ?_
                refine' tkH 38 ⟨bx_4028.out, by_4029.out, l0_4030.out, l1_4031.out, l2_4032.out, l3_4033.out⟩ ?hyR1214 ?_
                case hyR1214 => (rintro W' ⟨hS0, hS1, hS2, hS3, hS4, hS5⟩; have hc_ := (rdI_at hS4 ge_).1; clear hS0 hS1 hS2 hS3 hS4 hS5; go_simp; try with_reducible rfl)
                refine' twH 47 ⟨bx_4028.out, by_4029.out, l0_4030.out, l1_4031.out, l2_4032.out, l3_4033.out⟩ ?_
                refine' twH 63 ⟨bx_4028.out, by_4029.out, l0_4030.out, l1_4031.out, l2_4032.out, l3_4033.out⟩ ?_
                try simp only [Act.put, qsA, qsZ, qsS]
                refine' twH 64 ⟨bx_4028.out, by_4029.out, l0_4030.out, l1_4031.out, l2_4032.out, l3_4033.out⟩ ?_
                try simp only [Act.put, qsA, qsZ, qsS]
                refine wpAnyH_done (by kernel_rfl) ?_ _
                go_wp2
                go_ret
                have hrq := HRQ.out
                exact ⟨ret_bool (ties_no (j := q) (by show q < ((p4 : Int) - p3).toNat; omega) (by rw [HTT.out, hd2]; simp)).symm, bel_4034.out⟩
            · have hb1 : (za - zb != zc - zd) = true := by simpa using h1
              have hd1 : decide (za - zb = zc - zd) = false := decide_eq_false h1
              clear h1
              obtain ⟨z_6035, z_6036, z_6037, z_6038, z_6039, z_6040, z_6041, z_6042, z_6043, z_6044⟩ := at10 bx_4028
              obtain ⟨z_6045, z_6046, z_6047, z_6048⟩ := at4 by_4029
              go_wp2_with fail
              clear z_6035 z_6036 z_6037 z_6038 z_6039 z_6040 z_6041 z_6042 z_6043 z_6044 z_6045 z_6046 z_6047 z_6048
              replace cl1_4026 := Lib.hid (Cl.drew (cl1_4026.out))
              replace cl2_4027 := Lib.hid (Cl.drew (cl2_4027.out))
              replace bx_4028 := kD bx_4028
              replace by_4029 := kD by_4029
              replace l0_4030 := iD l0_4030
              replace l1_4031 := iD l1_4031
              replace l2_4032 := iD l2_4032
              replace l3_4033 := iD l3_4033
              replace bel_4034 := bD bel_4034
              refine wp_region_held_drew (S := (fun W' => Blk W' (w.heap.size) 101 #[.int .i64 c, .slice A n k, .slice B m j, .int .i64 d, .slice C n2 k2, .slice D m2 j2, .int .i64 p1, .int .i64 p2, .int .i64 p3, .int .i64 p4] ∧ Blk W' (w.heap.size + 1) 54 #[.slice (some ⟨ab0, ao0, none⟩) x1 k1, .slice (some ⟨ab1, ao1, none⟩) x2 k2x, .slice (some ⟨ab2, ao2, none⟩) x3 k3, .slice (some ⟨ab3, ao3, none⟩) x4 k4] ∧ RdI W' (some ⟨ab0, ao0, none⟩) x1 k1 xa ∧ RdI W' (some ⟨ab1, ao1, none⟩) x2 k2x xb ∧ RdI W' (some ⟨ab2, ao2, none⟩) x3 k3 ya ∧ RdI W' (some ⟨ab3, ao3, none⟩) x4 k4 yb)) (by kernel_rfl) ⟨bx_4028.out, by_4029.out, l0_4030.out, l1_4031.out, l2_4032.out, l3_4033.out⟩ (fun _ => ?_)
              obtain ⟨w1218, hw1219⟩ : ∃ w', w' = (wr.drew) := ⟨_, rfl⟩
              rw [← hw1219] at cl1_4026 cl2_4027 bx_4028 by_4029 l0_4030 l1_4031 l2_4032 l3_4033 bel_4034
              rw [← hw1219]
              clear hw1219
              refine' twH 0 ⟨bx_4028.out, by_4029.out, l0_4030.out, l1_4031.out, l2_4032.out, l3_4033.out⟩ ?_
              refine' tkH 1 ⟨bx_4028.out, by_4029.out, l0_4030.out, l1_4031.out, l2_4032.out, l3_4033.out⟩ ?hyR1221 ?_
              case hyR1221 => (rintro W' ⟨hS0, hS1, hS2, hS3, hS4, hS5⟩; have hc0 := Blk.nth hS1 0; clear hS0 hS1 hS2 hS3 hS4 hS5; go_simp; try with_reducible rfl)
              refine' twH 2 ⟨bx_4028.out, by_4029.out, l0_4030.out, l1_4031.out, l2_4032.out, l3_4033.out⟩ ?_
              refine' twH 3 ⟨bx_4028.out, by_4029.out, l0_4030.out, l1_4031.out, l2_4032.out, l3_4033.out⟩ ?_
              try simp only [Act.put, qsA, qsZ, qsS]
              refine' twH 7 ⟨bx_4028.out, by_4029.out, l0_4030.out, l1_4031.out, l2_4032.out, l3_4033.out⟩ ?_
              refine' tkH 8 ⟨bx_4028.out, by_4029.out, l0_4030.out, l1_4031.out, l2_4032.out, l3_4033.out⟩ ?hyR1225 ?_
              case hyR1225 => (rintro W' ⟨hS0, hS1, hS2, hS3, hS4, hS5⟩; have hc0 := Blk.nth hS1 0; clear hS0 hS1 hS2 hS3 hS4 hS5; go_simp; try with_reducible rfl)
              refine' twH 9 ⟨bx_4028.out, by_4029.out, l0_4030.out, l1_4031.out, l2_4032.out, l3_4033.out⟩ ?_
              refine' twH 10 ⟨bx_4028.out, by_4029.out, l0_4030.out, l1_4031.out, l2_4032.out, l3_4033.out⟩ ?_
              try simp only [Act.put, qsA, qsZ, qsS]
              refine' twH 11 ⟨bx_4028.out, by_4029.out, l0_4030.out, l1_4031.out, l2_4032.out, l3_4033.out⟩ ?_
              refine' tkH 12 ⟨bx_4028.out, by_4029.out, l0_4030.out, l1_4031.out, l2_4032.out, l3_4033.out⟩ ?hyR1229 ?_
              case hyR1229 => (rintro W' ⟨hS0, hS1, hS2, hS3, hS4, hS5⟩; have hc0 := Blk.nth hS0 6; clear hS0 hS1 hS2 hS3 hS4 hS5; go_simp; try with_reducible rfl)
              refine' twH 13 ⟨bx_4028.out, by_4029.out, l0_4030.out, l1_4031.out, l2_4032.out, l3_4033.out⟩ ?_
              refine' tkH 14 ⟨bx_4028.out, by_4029.out, l0_4030.out, l1_4031.out, l2_4032.out, l3_4033.out⟩ ?hyR1231 ?_
              case hyR1231 => (rintro W' ⟨hS0, hS1, hS2, hS3, hS4, hS5⟩; have hc_ := (rdI_at hS2 gb_).1; clear hS0 hS1 hS2 hS3 hS4 hS5; go_simp; try with_reducible rfl)
              try simp only [Act.put, qsA, qsZ, qsS]
              refine' twH 16 ⟨bx_4028.out, by_4029.out, l0_4030.out, l1_4031.out, l2_4032.out, l3_4033.out⟩ ?_
              refine' tkH 17 ⟨bx_4028.out, by_4029.out, l0_4030.out, l1_4031.out, l2_4032.out, l3_4033.out⟩ ?hyR1233 ?_
              case hyR1233 => (rintro W' ⟨hS0, hS1, hS2, hS3, hS4, hS5⟩; have hc0 := Blk.nth hS1 1; clear hS0 hS1 hS2 hS3 hS4 hS5; go_simp; try with_reducible rfl)
              refine' twH 18 ⟨bx_4028.out, by_4029.out, l0_4030.out, l1_4031.out, l2_4032.out, l3_4033.out⟩ ?_
              refine' twH 19 ⟨bx_4028.out, by_4029.out, l0_4030.out, l1_4031.out, l2_4032.out, l3_4033.out⟩ ?_
              try simp only [Act.put, qsA, qsZ, qsS]
              refine' twH 20 ⟨bx_4028.out, by_4029.out, l0_4030.out, l1_4031.out, l2_4032.out, l3_4033.out⟩ ?_
              refine' tkH 21 ⟨bx_4028.out, by_4029.out, l0_4030.out, l1_4031.out, l2_4032.out, l3_4033.out⟩ ?hyR1237 ?_
              case hyR1237 => (rintro W' ⟨hS0, hS1, hS2, hS3, hS4, hS5⟩; have hc0 := Blk.nth hS0 9; clear hS0 hS1 hS2 hS3 hS4 hS5; go_simp; try with_reducible rfl)
              refine' twH 22 ⟨bx_4028.out, by_4029.out, l0_4030.out, l1_4031.out, l2_4032.out, l3_4033.out⟩ ?_
              refine' tkH 23 ⟨bx_4028.out, by_4029.out, l0_4030.out, l1_4031.out, l2_4032.out, l3_4033.out⟩ ?hyR1239 ?_
              case hyR1239 => (rintro W' ⟨hS0, hS1, hS2, hS3, hS4, hS5⟩; have hc_ := (rdI_at hS3 gc_).1; clear hS0 hS1 hS2 hS3 hS4 hS5; go_simp; try with_reducible rfl)
              try simp only [Act.put, qsA, qsZ, qsS]
              refine' twH 24 ⟨bx_4028.out, by_4029.out, l0_4030.out, l1_4031.out, l2_4032.out, l3_4033.out⟩ ?_
              refine' tkH 25 ⟨bx_4028.out, by_4029.out, l0_4030.out, l1_4031.out, l2_4032.out, l3_4033.out⟩ ?hyR1241 ?_
              case hyR1241 => (rintro W' ⟨hS0, hS1, hS2, hS3, hS4, hS5⟩; have hc0 := Blk.nth hS1 1; clear hS0 hS1 hS2 hS3 hS4 hS5; go_simp; try with_reducible rfl)
              refine' twH 26 ⟨bx_4028.out, by_4029.out, l0_4030.out, l1_4031.out, l2_4032.out, l3_4033.out⟩ ?_
              refine' twH 27 ⟨bx_4028.out, by_4029.out, l0_4030.out, l1_4031.out, l2_4032.out, l3_4033.out⟩ ?_
              try simp only [Act.put, qsA, qsZ, qsS]
              refine' tkH 28 ⟨bx_4028.out, by_4029.out, l0_4030.out, l1_4031.out, l2_4032.out, l3_4033.out⟩ ?hyR1244 ?_
              case hyR1244 => (rintro W' ⟨hS0, hS1, hS2, hS3, hS4, hS5⟩; have hc_ := (rdI_at hS3 gd_).1; clear hS0 hS1 hS2 hS3 hS4 hS5; go_simp; try with_reducible rfl)
              refine' twH 29 ⟨bx_4028.out, by_4029.out, l0_4030.out, l1_4031.out, l2_4032.out, l3_4033.out⟩ ?_
              try simp only [Act.put, qsA, qsZ, qsS]
              refine oneH 4 rfl fun K hK => ?_
              go_simp
              go_at_call 173
              refine (HV1.out _ (cl1_4026.out)).mono ?_
              rintro e w1246 ⟨rfl, rfl⟩
              dsimp only
              refine hK.out _ _ ⟨bx_4028.out, by_4029.out, l0_4030.out, l1_4031.out, l2_4032.out, l3_4033.out⟩ (fun _ => ?_); clear hK K
              try simp only [Act.put, qsA, qsZ, qsS]
              refine' twH 5 ⟨bx_4028.out, by_4029.out, l0_4030.out, l1_4031.out, l2_4032.out, l3_4033.out⟩ ?_
              refine' tkH 6 ⟨bx_4028.out, by_4029.out, l0_4030.out, l1_4031.out, l2_4032.out, l3_4033.out⟩ ?hyR1248 ?_
              case hyR1248 => (rintro W' ⟨hS0, hS1, hS2, hS3, hS4, hS5⟩; have hc_ := (rdI_at hS2 ga_).1; clear hS0 hS1 hS2 hS3 hS4 hS5; go_simp; try with_reducible rfl)
              refine' twH 15 ⟨bx_4028.out, by_4029.out, l0_4030.out, l1_4031.out, l2_4032.out, l3_4033.out⟩ ?_
              refine' twH 30 ⟨bx_4028.out, by_4029.out, l0_4030.out, l1_4031.out, l2_4032.out, l3_4033.out⟩ ?_
              try simp only [Act.put, qsA, qsZ, qsS]
              refine' twH 31 ⟨bx_4028.out, by_4029.out, l0_4030.out, l1_4031.out, l2_4032.out, l3_4033.out⟩ ?_
              refine' tkNH 32 ⟨bx_4028.out, by_4029.out, l0_4030.out, l1_4031.out, l2_4032.out, l3_4033.out⟩ ?_
              refine' tkNH 33 ⟨bx_4028.out, by_4029.out, l0_4030.out, l1_4031.out, l2_4032.out, l3_4033.out⟩ ?_
              refine' tkNH 34 ⟨bx_4028.out, by_4029.out, l0_4030.out, l1_4031.out, l2_4032.out, l3_4033.out⟩ ?_
              try simp only [Act.put, qsA, qsZ, qsS]
              refine' tkNH 35 ⟨bx_4028.out, by_4029.out, l0_4030.out, l1_4031.out, l2_4032.out, l3_4033.out⟩ ?_
              refine' tkNH 36 ⟨bx_4028.out, by_4029.out, l0_4030.out, l1_4031.out, l2_4032.out, l3_4033.out⟩ ?_
              refine' tkNH 37 ⟨bx_4028.out, by_4029.out, l0_4030.out, l1_4031.out, l2_4032.out, l3_4033.out⟩ ?_
              refine' tkNH 38 ⟨bx_4028.out, by_4029.out, l0_4030.out, l1_4031.out, l2_4032.out, l3_4033.out⟩ ?_
              try simp only [Act.put, qsA, qsZ, qsS]
              refine' tkNH 39 ⟨bx_4028.out, by_4029.out, l0_4030.out, l1_4031.out, l2_4032.out, l3_4033.out⟩ ?_
              refine' tkNH 40 ⟨bx_4028.out, by_4029.out, l0_4030.out, l1_4031.out, l2_4032.out, l3_4033.out⟩ ?_
              refine' tkNH 41 ⟨bx_4028.out, by_4029.out, l0_4030.out, l1_4031.out, l2_4032.out, l3_4033.out⟩ ?_
              refine' tkNH 42 ⟨bx_4028.out, by_4029.out, l0_4030.out, l1_4031.out, l2_4032.out, l3_4033.out⟩ ?_
              try simp only [Act.put, qsA, qsZ, qsS]
              refine' tkNH 43 ⟨bx_4028.out, by_4029.out, l0_4030.out, l1_4031.out, l2_4032.out, l3_4033.out⟩ ?_
              refine' tkNH 44 ⟨bx_4028.out, by_4029.out, l0_4030.out, l1_4031.out, l2_4032.out, l3_4033.out⟩ ?_
              refine' tkNH 45 ⟨bx_4028.out, by_4029.out, l0_4030.out, l1_4031.out, l2_4032.out, l3_4033.out⟩ ?_
              refine' tkNH 46 ⟨bx_4028.out, by_4029.out, l0_4030.out, l1_4031.out, l2_4032.out, l3_4033.out⟩ ?_
              try simp only [Act.put, qsA, qsZ, qsS]
              refine' tkNH 47 ⟨bx_4028.out, by_4029.out, l0_4030.out, l1_4031.out, l2_4032.out, l3_4033.out⟩ ?_
              refine' tkNH 48 ⟨bx_4028.out, by_4029.out, l0_4030.out, l1_4031.out, l2_4032.out, l3_4033.out⟩ ?_
              refine' tkNH 49 ⟨bx_4028.out, by_4029.out, l0_4030.out, l1_4031.out, l2_4032.out, l3_4033.out⟩ ?_
              refine' tkNH 50 ⟨bx_4028.out, by_4029.out, l0_4030.out, l1_4031.out, l2_4032.out, l3_4033.out⟩ ?_
              try simp only [Act.put, qsA, qsZ, qsS]
              refine' tkNH 51 ⟨bx_4028.out, by_4029.out, l0_4030.out, l1_4031.out, l2_4032.out, l3_4033.out⟩ ?_
              refine' tkNH 52 ⟨bx_4028.out, by_4029.out, l0_4030.out, l1_4031.out, l2_4032.out, l3_4033.out⟩ ?_
              refine' tkNH 53 ⟨bx_4028.out, by_4029.out, l0_4030.out, l1_4031.out, l2_4032.out, l3_4033.out⟩ ?_
              refine' tkNH 54 ⟨bx_4028.out, by_4029.out, l0_4030.out, l1_4031.out, l2_4032.out, l3_4033.out⟩ ?_
              try simp only [Act.put, qsA, qsZ, qsS]
              refine' tkNH 55 ⟨bx_4028.out, by_4029.out, l0_4030.out, l1_4031.out, l2_4032.out, l3_4033.out⟩ ?_
              refine' tkNH 56 ⟨bx_4028.out, by_4029.out, l0_4030.out, l1_4031.out, l2_4032.out, l3_4033.out⟩ ?_
              refine' tkNH 57 ⟨bx_4028.out, by_4029.out, l0_4030.out, l1_4031.out, l2_4032.out, l3_4033.out⟩ ?_
              refine' tkNH 58 ⟨bx_4028.out, by_4029.out, l0_4030.out, l1_4031.out, l2_4032.out, l3_4033.out⟩ ?_
              try simp only [Act.put, qsA, qsZ, qsS]
              refine' tkNH 59 ⟨bx_4028.out, by_4029.out, l0_4030.out, l1_4031.out, l2_4032.out, l3_4033.out⟩ ?_
              refine' tkNH 60 ⟨bx_4028.out, by_4029.out, l0_4030.out, l1_4031.out, l2_4032.out, l3_4033.out⟩ ?_
              refine' tkNH 61 ⟨bx_4028.out, by_4029.out, l0_4030.out, l1_4031.out, l2_4032.out, l3_4033.out⟩ ?_
              refine' tkNH 62 ⟨bx_4028.out, by_4029.out, l0_4030.out, l1_4031.out, l2_4032.out, l3_4033.out⟩ ?_
              try simp only [Act.put, qsA, qsZ, qsS]
              refine' tkNH 63 ⟨bx_4028.out, by_4029.out, l0_4030.out, l1_4031.out, l2_4032.out, l3_4033.out⟩ ?_
              refine' twH 64 ⟨bx_4028.out, by_4029.out, l0_4030.out, l1_4031.out, l2_4032.out, l3_4033.out⟩ ?_
              try simp only [Act.put, qsA, qsZ, qsS]
              refine wpAnyH_done (by kernel_rfl) ?_ _
              go_wp2
              go_ret
              have hrq := HRQ.out
              exact ⟨ret_bool (ties_no (j := q) (by show q < ((p4 : Int) - p3).toNat; omega) (by rw [HTW.out, hd1]; simp)).symm, bel_4034.out⟩
          · have hqe : p4 - p3 = q := by omega
            have hnl : ¬ (r : Int) < (p4 : Int) := by omega
            have HQE := Lib.hid hqe; clear hqe
            obtain ⟨z_5035, z_5036, z_5037, z_5038, z_5039, z_5040, z_5041, z_5042, z_5043, z_5044⟩ := at10 bx_4028
            obtain ⟨z_5045, z_5046, z_5047, z_5048⟩ := at4 by_4029
            go_wp2
            go_ret
            exact ⟨ret_bool (by have h := HTI.out; rw [← HQE.out] at h; first | exact h.symm | simpa using h.symm), bel_4034.out⟩
end Go.Proofs.YtaoanagmgheicaaGreat
