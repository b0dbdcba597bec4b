import Derived.Test.YtaoanagmgheicaaGreatSEShared
import Derived.Test.YtaoanagmgheicaaGreatSKeeps
import Derived.Test.YtaoanagmgheicaaGreatSEWays
set_option linter.unusedSimpArgs false
set_option linter.unusedVariables false
namespace Go.Proofs.YtaoanagmgheicaaGreat
open Go.RowKit
def near1 (v : Int) : Bool := decide (-100000000 ≤ v ∧ v ≤ 100000000)
def keptV (P : Int) (l : List Bnd) (x : List Int) : Bool := x.all near1 && (keepsV P l x).1
set_option maxRecDepth 100000 in
set_option maxHeartbeats 4000000 in
theorem areKept_any (P : Int) (A : Option Addr) (n k : Nat) (l : List Bnd) (w : World) (h1 : RdB w A n k l) (hn : n ≤ maxLen) (X : Option Addr) (xn xk : Nat) (x : List Int) (hx : RdI w X xn xk x) (hxm : xn ≤ maxLen) :
 Calls Tryz.prog 127 #[.agg #[.int .i64 P, .slice A n k], .slice X xn xk] w fun e w' => e = .returned (.bool (keptV P l x)) ∧ Below w.heap.size w w' := by
 have hxm' := hxm
 unfold maxLen at hxm'
 have X0 := Lib.hid hx
 go_enter Tryz.func127, Tryz.ntmps127
 have bel_1 := Lib.hid (show Below w.heap.size w w from Below.refl _ w)
 have r1_2 := Lib.hid (h1)
 clear h1
 have rx_3 := Lib.hid (hx)
 clear hx
 obtain ⟨o_, ho_⟩ : ∃ o, o = ((.cells #[.int .i64 P, .slice A n k] 46) : Obj) := ⟨_, rfl⟩
 replace bel_1 := bA bel_1 o_
 replace r1_2 := rA r1_2 o_
 replace rx_3 := iA rx_3 o_
 subst ho_
 have bs_4 := Lib.hid (Blk.new w 46 #[.int .i64 P, .slice A n k])
 obtain ⟨z_5, z_6⟩ := at2 bs_4
 go_wp2
 clear z_5 z_6
 go_loopw [11] (fun i wr => ∃ q : Nat, q ≤ xn ∧ i = .int .i64 q ∧ (x.take q).all near1 = true ∧ Blk wr w.heap.size 46 #[.int .i64 P, .slice A n k] ∧ RdB wr A n k l ∧ RdI wr X xn xk x ∧ Below w.heap.size w wr) (fun i _ => xn - (intOf i).toNat)
 case atStart => exact ⟨0, Nat.zero_le _, rfl, rfl, bs_4.out, r1_2.out, rx_3.out, bel_1.out⟩
 case round =>
  clear bel_1 r1_2 rx_3 bs_4
  obtain ⟨q, hq, rfl, hall, i1, i2, i3, i4⟩ := hrel
  have bs_1007 := Lib.hid (i1)
  have r1_1008 := Lib.hid (i2)
  have rx_1009 := Lib.hid (i3)
  have bel_1010 := Lib.hid (i4)
  clear i1 i2 i3 i4
  have HALL := Lib.hid hall; clear hall
  by_cases hlt : q < xn
  · have hlt' : (q : Int) < xn := by omega
    obtain ⟨xb, xo, v, hX, xlt, hxq, hxc⟩ := RdI.get (rx_1009.out) hlt
    subst hX
    have HXQ := Lib.hid hxq; clear hxq
    obtain ⟨z_2011, z_2012⟩ := at2 bs_1007
    by_cases hv1 : -100000000 ≤ v
    · by_cases hv2 : v ≤ 100000000
      · go_wp2
        go_roundw
        case rel => exact ⟨q + 1, by omega, by go_num, (by rw [List.take_add_one, HXQ.out, List.all_append, HALL.out]; simp [near1]; omega), bs_1007.out, r1_1008.out, rx_1009.out, bel_1010.out⟩
        case measure => simp [intOf]; omega
      · go_wp2
        go_ret
        exact ⟨ret_bool (by unfold keptV; rw [List.all_eq_false.2 ⟨v, List.mem_of_getElem? HXQ.out, by simp [near1]; omega⟩]; rfl), bel_1010.out⟩
    · go_wp2
      go_ret
      exact ⟨ret_bool (by unfold keptV; rw [List.all_eq_false.2 ⟨v, List.mem_of_getElem? HXQ.out, by simp [near1]; omega⟩]; rfl), bel_1010.out⟩
  · obtain rfl : xn = q := by omega
    obtain ⟨z_2011, z_2012⟩ := at2 bs_1007
    have hall := HALL.out; rw [List.take_of_length_le (by rw [X0.out.len]; omega)] at hall
    have HA2 := Lib.hid hall; clear hall
    obtain ⟨V, hV⟩ : ∃ V, keepsV P l x = V := ⟨_, rfl⟩
    have hc := Keeps_any P A X n k xn xk l x _ r1_1008.out hn rx_1009.out hxm
    rw [hV] at hc
    have HV := Lib.hid hV; clear hV
    obtain ⟨V1, V2⟩ := V
    dsimp only at hc
    have hc := hc
    have HC := Lib.hid hc; clear hc
    go_wp2_with fail
    refine HC.out.mono ?_
    rintro e w_2013 ⟨rfl, hb⟩
    clear HC
    clear z_2011 z_2012
    replace bs_1007 := kB bs_1007 hb
    replace r1_1008 := rB r1_1008 hb
    replace rx_1009 := iB rx_1009 hb
    replace bel_1010 := bB bel_1010 hb
    clear hb
    go_wp2
    go_ret
    exact ⟨ret_bool (by unfold keptV; rw [HA2.out, HV.out]; rfl), bel_1010.out⟩
theorem areKept_is (P : Int) (A : Option Addr) (n k : Nat) (l : List Bnd) (w : World) (h1 : RdB w A n k l) (hn : n ≤ maxLen) (X : Option Addr) (xn xk : Nat) (x : List Int) (hx : RdI w X xn xk x) (hxm : xn ≤ maxLen) (b : Bool) (hb : keptV P l x = b) :
 Calls Tryz.prog 127 #[.agg #[.int .i64 P, .slice A n k], .slice X xn xk] w fun e w' => e = .returned (.bool b) ∧ Below w.heap.size w w' := by
 subst hb
 exact areKept_any P A n k l w h1 hn X xn xk x hx hxm
def tieW (p : Prg) (xa xb : List Int) (q : Int) : Bool := decide (look xa (p.af + p.bt - q) - look xa p.af = look xb p.bt - look xb q)
def tieT (p : Prg) (ya yb : List Int) (q : Int) : Bool := decide (look ya (p.af + p.bt - 1 - q) - look ya p.af = look yb q - look yb (p.bt - 1))
def ties (p : Prg) (xa xb ya yb : List Int) (n : Nat) : Bool := (List.range n).all fun j => tieW p xa xb (p.bf + j) && tieT p ya yb (p.bf + j)
def plB (a b : Otl) (p : Prg) (xa xb ya yb : List Int) : Bool :=
 keptV (a.c + 1) a.ws xa && keptV (b.c + 1) b.ws xb && keptV a.c a.ts ya && keptV b.c b.ts yb && ties p xa xb ya yb (p.bt - p.bf).toNat
theorem ties_succ (p : Prg) (xa xb ya yb : List Int) (n : Nat) : ties p xa xb ya yb (n + 1) = (ties p xa xb ya yb n && (tieW p xa xb (p.bf + n) && tieT p ya yb (p.bf + n))) := by
 unfold ties
 rw [List.range_succ, List.all_append]
 simp
theorem ties_no {p : Prg} {xa xb ya yb : List Int} {n j : Nat} (hj : j < n) (h : (tieW p xa xb (p.bf + j) && tieT p ya yb (p.bf + j)) = false) : ties p xa xb ya yb n = false := by
 unfold ties
 rw [List.all_eq_false]
 exact ⟨j, List.mem_range.2 hj, by simpa using h⟩
theorem kept_facts {P : Int} {l : List Bnd} {x : List Int} (h : keptV P l x = true) : (x.length : Int) = P ∧ ∀ i, i < x.length → -100000000 ≤ at_ x i ∧ at_ x i ≤ 100000000 := by
 unfold keptV at h
 rw [Bool.and_eq_true] at h
 obtain ⟨h1, h2⟩ := h
 obtain ⟨-, hn, -⟩ := kept_spec (q := (keepsV P l x).2) (Prod.ext h2 rfl)
 refine ⟨(nums_at hn).1, fun i hi => ?_⟩
 have := List.all_eq_true.1 h1 (x[i]) (List.getElem_mem hi)
 simp only [near1, decide_eq_true_eq] at this
 simpa [at_, List.getD_eq_getElem?_getD, List.getElem?_eq_getElem hi] using this
theorem get_of {x : List Int} {i : Nat} (h : i < x.length) : x[i]? = some (at_ x i) := by
 simp [at_, List.getD_eq_getElem?_getD, List.getElem?_eq_getElem h]
set_option maxRecDepth 100000 in
set_option maxHeartbeats 4000000 in
theorem isPlacement_any (c : Int) (A B : Option Addr) (n k m j : Nat) (ws ts : List Bnd) (d : Int) (C D : Option Addr) (n2 k2 m2 j2 : Nat) (ws2 ts2 : List Bnd) (p1 p2 p3 p4 : Nat) (X1 : Option Addr) (x1 k1 : Nat) (xa : List Int) (X2 : Option Addr) (x2 k2x : Nat) (xb : List Int) (X3 : Option Addr) (x3 k3 : Nat) (ya : List Int) (X4 : Option Addr) (x4 k4 : Nat) (yb : List Int) (w : World) (h1 : RdB w A n k ws) (h2 : RdB w B m j ts) (hn : n ≤ maxLen) (hm : m ≤ maxLen) (h3 : RdB w C n2 k2 ws2) (h4 : RdB w D m2 j2 ts2) (hn2 : n2 ≤ maxLen) (hm2 : m2 ≤ maxLen) (hx0 : RdI w X1 x1 k1 xa) (hl0 : x1 ≤ maxLen) (hx1 : RdI w X2 x2 k2x xb) (hl1 : x2 ≤ maxLen) (hx2 : RdI w X3 x3 k3 ya) (hl2 : x3 ≤ maxLen) (hx3 : RdI w X4 x4 k4 yb) (hl3 : x4 ≤ maxLen) (hq : chkP ⟨c, ws, ts⟩ ⟨d, ws2, ts2⟩ ⟨p1, p2, p3, p4⟩ = 0) :
 Calls Tryz.prog 89 #[.agg #[.int .i64 c, .slice A n k, .slice B m j, .int .i64 d, .slice C n2 k2, .slice D m2 j2, .int .i64 p1, .int .i64 p2, .int .i64 p3, .int .i64 p4], .agg #[.slice X1 x1 k1, .slice X2 x2 k2x, .slice X3 x3 k3, .slice X4 x4 k4]] w fun e w' => e = .returned (.bool (plB ⟨c, ws, ts⟩ ⟨d, ws2, ts2⟩ ⟨p1, p2, p3, p4⟩ xa xb ya yb)) ∧ Below w.heap.size w w' := by
 obtain ⟨oa, ob, sa, sb, hk⟩ := chkP_ok hq
 obtain ⟨ga1, ga2, -, -⟩ := chkO_ok oa
 obtain ⟨gb1, gb2, -, -⟩ := chkO_ok ob
 dsimp only at sa sb hk ga1 ga2 gb1 gb2
 clear oa ob hq
 unfold plB
 dsimp only
 cases e0 : keptV (c + 1) ws xa
 · have EK0 := Lib.hid e0; clear e0
   simp only [Bool.false_and]
   go_enter Tryz.func89, Tryz.ntmps89
   have bel_1 := Lib.hid (show Below w.heap.size w w from Below.refl _ w)
   have ra_2 := Lib.hid (h1)
   clear h1
   have rb_3 := Lib.hid (h2)
   clear h2
   have rc_4 := Lib.hid (h3)
   clear h3
   have rd_5 := Lib.hid (h4)
   clear h4
   have l0_6 := Lib.hid (hx0)
   clear hx0
   have l1_7 := Lib.hid (hx1)
   clear hx1
   have l2_8 := Lib.hid (hx2)
   clear hx2
   have l3_9 := Lib.hid (hx3)
   clear hx3
   obtain ⟨o_, ho_⟩ : ∃ o, o = ((.cells #[.int .i64 c, .slice A n k, .slice B m j, .int .i64 d, .slice C n2 k2, .slice D m2 j2, .int .i64 p1, .int .i64 p2, .int .i64 p3, .int .i64 p4] 101) : Obj) := ⟨_, rfl⟩
   replace bel_1 := bA bel_1 o_
   replace ra_2 := rA ra_2 o_
   replace rb_3 := rA rb_3 o_
   replace rc_4 := rA rc_4 o_
   replace rd_5 := rA rd_5 o_
   replace l0_6 := iA l0_6 o_
   replace l1_7 := iA l1_7 o_
   replace l2_8 := iA l2_8 o_
   replace l3_9 := iA l3_9 o_
   subst ho_
   have bx_10 := Lib.hid (Blk.new w 101 #[.int .i64 c, .slice A n k, .slice B m j, .int .i64 d, .slice C n2 k2, .slice D m2 j2, .int .i64 p1, .int .i64 p2, .int .i64 p3, .int .i64 p4])
   obtain ⟨o_, ho_⟩ : ∃ o, o = ((.cells #[.slice X1 x1 k1, .slice X2 x2 k2x, .slice X3 x3 k3, .slice X4 x4 k4] 54) : Obj) := ⟨_, rfl⟩
   replace bel_1 := bA bel_1 o_
   replace ra_2 := rA ra_2 o_
   replace rb_3 := rA rb_3 o_
   replace rc_4 := rA rc_4 o_
   replace rd_5 := rA rd_5 o_
   replace l0_6 := iA l0_6 o_
   replace l1_7 := iA l1_7 o_
   replace l2_8 := iA l2_8 o_
   replace l3_9 := iA l3_9 o_
   replace bx_10 := kA bx_10 o_
   subst ho_
   have nb_ := Blk.new (w.alloc (.cells #[.int .i64 c, .slice A n k, .slice B m j, .int .i64 d, .slice C n2 k2, .slice D m2 j2, .int .i64 p1, .int .i64 p2, .int .i64 p3, .int .i64 p4] 101)) 54 #[.slice X1 x1 k1, .slice X2 x2 k2x, .slice X3 x3 k3, .slice X4 x4 k4]
   simp only [World.size_alloc] at nb_
   have by_11 := Lib.hid nb_; clear nb_
   go_wp2_with fail
   replace bel_1 := bD bel_1
   replace ra_2 := rD ra_2
   replace rb_3 := rD rb_3
   replace rc_4 := rD rc_4
   replace rd_5 := rD rd_5
   replace l0_6 := iD l0_6
   replace l1_7 := iD l1_7
   replace l2_8 := iD l2_8
   replace l3_9 := iD l3_9
   replace bx_10 := kD bx_10
   replace by_11 := kD by_11
   refine wp_region_held_drew (S := (fun W' => Blk W' (w.heap.size) 101 #[.int .i64 c, .slice A n k, .slice B m j, .int .i64 d, .slice C n2 k2, .slice D m2 j2, .int .i64 p1, .int .i64 p2, .int .i64 p3, .int .i64 p4] ∧ Blk W' (w.heap.size + 1) 54 #[.slice X1 x1 k1, .slice X2 x2 k2x, .slice X3 x3 k3, .slice X4 x4 k4])) (by kernel_rfl) ⟨bx_10.out, by_11.out⟩ (fun _ => ?_)
   obtain ⟨w842, hw843⟩ : ∃ w', w' = (((w.alloc (.cells #[.int .i64 c, .slice A n k, .slice B m j, .int .i64 d, .slice C n2 k2, .slice D m2 j2, .int .i64 p1, .int .i64 p2, .int .i64 p3, .int .i64 p4] 101)).alloc (.cells #[.slice X1 x1 k1, .slice X2 x2 k2x, .slice X3 x3 k3, .slice X4 x4 k4] 54)).drew) := ⟨_, rfl⟩
   rw [← hw843] at bel_1 ra_2 rb_3 rc_4 rd_5 l0_6 l1_7 l2_8 l3_9 bx_10 by_11
   rw [← hw843]
   clear hw843
   refine' tkH 0 ⟨bx_10.out, by_11.out⟩ ?hyR844 ?_
   case hyR844 => (rintro _ -; go_simp; try with_reducible rfl)
   refine' tkH 1 ⟨bx_10.out, by_11.out⟩ ?hyR845 ?_
   case hyR845 => (rintro _ -; go_simp; try with_reducible rfl)
   refine' tkH 2 ⟨bx_10.out, by_11.out⟩ ?hyR846 ?_
   case hyR846 => (rintro W' ⟨hS0, hS1⟩; have hc0 := Blk.nth hS0 0; have hc1 := Blk.nth hS0 1; have hc2 := Blk.nth hS0 2; clear hS0 hS1; go_simp; try with_reducible rfl)
   refine' tkH 4 ⟨bx_10.out, by_11.out⟩ ?hyR847 ?_
   case hyR847 => (rintro _ -; go_simp; try with_reducible rfl)
   try simp only [Act.put, List.setIfInBounds_toArray, List.set_cons_zero, List.set_cons_succ]
   refine' tkH 5 ⟨bx_10.out, by_11.out⟩ ?hyR848 ?_
   case hyR848 => (rintro W' ⟨hS0, hS1⟩; have hc0 := Blk.nth hS1 0; clear hS0 hS1; go_simp; try with_reducible rfl)
   try simp only [Act.put, List.setIfInBounds_toArray, List.set_cons_zero, List.set_cons_succ]
   refine wpAnyH_ready (rs := [3]) (by kernel_rfl) (by simp) ?_
   refine rdH rfl (fun K hK => ?_) ?_
   · -- 3: call
    go_simp
    go_at_call 63
    refine (ownWays_any c A B n k m j _ (by omega) (by omega)).mono ?_
    rintro e w849 ⟨rfl, hb850⟩
    dsimp only
    replace bel_1 := bB bel_1 hb850
    replace ra_2 := rB ra_2 hb850
    replace rb_3 := rB rb_3 hb850
    replace rc_4 := rB rc_4 hb850
    replace rd_5 := rB rd_5 hb850
    replace l0_6 := iB l0_6 hb850
    replace l1_7 := iB l1_7 hb850
    replace l2_8 := iB l2_8 hb850
    replace l3_9 := iB l3_9 hb850
    replace bx_10 := kB bx_10 hb850
    replace by_11 := kB by_11 hb850
    refine hK.out _ _ ⟨bx_10.out, by_11.out⟩ (fun _ => ?_); clear hK K
    try simp only [Act.put, List.setIfInBounds_toArray, List.set_cons_zero, List.set_cons_succ]
    refine wpAnyH_ready (rs := [6]) (by kernel_rfl) (by simp) ?_
    refine rdH rfl (fun K hK => ?_) ?_
    · -- 6: call
     go_simp
     go_at_call 127
     refine (areKept_is (c + 1) A n k ws _ ra_2.out hn X1 x1 k1 xa l0_6.out hl0 _ EK0.out).mono ?_
     rintro e w851 ⟨rfl, hb852⟩
     dsimp only
     replace bel_1 := bB bel_1 hb852
     replace ra_2 := rB ra_2 hb852
     replace rb_3 := rB rb_3 hb852
     replace rc_4 := rB rc_4 hb852
     replace rd_5 := rB rd_5 hb852
     replace l0_6 := iB l0_6 hb852
     replace l1_7 := iB l1_7 hb852
     replace l2_8 := iB l2_8 hb852
     replace l3_9 := iB l3_9 hb852
     replace bx_10 := kB bx_10 hb852
     replace by_11 := kB by_11 hb852
     refine hK.out _ _ ⟨bx_10.out, by_11.out⟩ (fun _ => ?_); clear hK K
     try simp only [Act.put, List.setIfInBounds_toArray, List.set_cons_zero, List.set_cons_succ]
     refine' tkH 7 ⟨bx_10.out, by_11.out⟩ ?hyR853 ?_
     case hyR853 => (rintro _ -; go_simp; try with_reducible rfl)
     refine' tkH 8 ⟨bx_10.out, by_11.out⟩ ?hyR854 ?_
     case hyR854 => (rintro _ -; go_simp; try with_reducible rfl)
     refine' tkNH 9 ⟨bx_10.out, by_11.out⟩ ?_
     refine' tkNH 10 ⟨bx_10.out, by_11.out⟩ ?_
     try simp only [Act.put, List.setIfInBounds_toArray, List.set_cons_zero, List.set_cons_succ]
     refine' tkNH 11 ⟨bx_10.out, by_11.out⟩ ?_
     refine' tkNH 12 ⟨bx_10.out, by_11.out⟩ ?_
     refine' tkNH 13 ⟨bx_10.out, by_11.out⟩ ?_
     refine' tkNH 14 ⟨bx_10.out, by_11.out⟩ ?_
     try simp only [Act.put, List.setIfInBounds_toArray, List.set_cons_zero, List.set_cons_succ]
     refine' tkNH 15 ⟨bx_10.out, by_11.out⟩ ?_
     refine' tkNH 16 ⟨bx_10.out, by_11.out⟩ ?_
     refine' tkH 17 ⟨bx_10.out, by_11.out⟩ ?hyR863 ?_
     case hyR863 => (rintro _ -; go_simp; try with_reducible rfl)
     try simp only [Act.put, List.setIfInBounds_toArray, List.set_cons_zero, List.set_cons_succ]
     refine wpAnyH_done (by kernel_rfl) ?_ _
     go_wp2
     go_ret
     exact ⟨rfl, bel_1.out⟩
    exact AllReadyH.nil
   exact AllReadyH.nil
 · have EK0 := Lib.hid e0; clear e0
   cases e1 : keptV (d + 1) ws2 xb
   · have EK1 := Lib.hid e1; clear e1
     simp only [Bool.false_and, Bool.and_false]
     go_enter Tryz.func89, Tryz.ntmps89
     have bel_1 := Lib.hid (show Below w.heap.size w w from Below.refl _ w)
     have ra_2 := Lib.hid (h1)
     clear h1
     have rb_3 := Lib.hid (h2)
     clear h2
     have rc_4 := Lib.hid (h3)
     clear h3
     have rd_5 := Lib.hid (h4)
     clear h4
     have l0_6 := Lib.hid (hx0)
     clear hx0
     have l1_7 := Lib.hid (hx1)
     clear hx1
     have l2_8 := Lib.hid (hx2)
     clear hx2
     have l3_9 := Lib.hid (hx3)
     clear hx3
     obtain ⟨o_, ho_⟩ : ∃ o, o = ((.cells #[.int .i64 c, .slice A n k, .slice B m j, .int .i64 d, .slice C n2 k2, .slice D m2 j2, .int .i64 p1, .int .i64 p2, .int .i64 p3, .int .i64 p4] 101) : Obj) := ⟨_, rfl⟩
     replace bel_1 := bA bel_1 o_
     replace ra_2 := rA ra_2 o_
     replace rb_3 := rA rb_3 o_
     replace rc_4 := rA rc_4 o_
     replace rd_5 := rA rd_5 o_
     replace l0_6 := iA l0_6 o_
     replace l1_7 := iA l1_7 o_
     replace l2_8 := iA l2_8 o_
     replace l3_9 := iA l3_9 o_
     subst ho_
     have bx_10 := Lib.hid (Blk.new w 101 #[.int .i64 c, .slice A n k, .slice B m j, .int .i64 d, .slice C n2 k2, .slice D m2 j2, .int .i64 p1, .int .i64 p2, .int .i64 p3, .int .i64 p4])
     obtain ⟨o_, ho_⟩ : ∃ o, o = ((.cells #[.slice X1 x1 k1, .slice X2 x2 k2x, .slice X3 x3 k3, .slice X4 x4 k4] 54) : Obj) := ⟨_, rfl⟩
     replace bel_1 := bA bel_1 o_
     replace ra_2 := rA ra_2 o_
     replace rb_3 := rA rb_3 o_
     replace rc_4 := rA rc_4 o_
     replace rd_5 := rA rd_5 o_
     replace l0_6 := iA l0_6 o_
     replace l1_7 := iA l1_7 o_
     replace l2_8 := iA l2_8 o_
     replace l3_9 := iA l3_9 o_
     replace bx_10 := kA bx_10 o_
     subst ho_
     have nb_ := Blk.new (w.alloc (.cells #[.int .i64 c, .slice A n k, .slice B m j, .int .i64 d, .slice C n2 k2, .slice D m2 j2, .int .i64 p1, .int .i64 p2, .int .i64 p3, .int .i64 p4] 101)) 54 #[.slice X1 x1 k1, .slice X2 x2 k2x, .slice X3 x3 k3, .slice X4 x4 k4]
     simp only [World.size_alloc] at nb_
     have by_11 := Lib.hid nb_; clear nb_
     go_wp2_with fail
     replace bel_1 := bD bel_1
     replace ra_2 := rD ra_2
     replace rb_3 := rD rb_3
     replace rc_4 := rD rc_4
     replace rd_5 := rD rd_5
     replace l0_6 := iD l0_6
     replace l1_7 := iD l1_7
     replace l2_8 := iD l2_8
     replace l3_9 := iD l3_9
     replace bx_10 := kD bx_10
     replace by_11 := kD by_11
     refine wp_region_held_drew (S := (fun W' => Blk W' (w.heap.size) 101 #[.int .i64 c, .slice A n k, .slice B m j, .int .i64 d, .slice C n2 k2, .slice D m2 j2, .int .i64 p1, .int .i64 p2, .int .i64 p3, .int .i64 p4] ∧ Blk W' (w.heap.size + 1) 54 #[.slice X1 x1 k1, .slice X2 x2 k2x, .slice X3 x3 k3, .slice X4 x4 k4])) (by kernel_rfl) ⟨bx_10.out, by_11.out⟩ (fun _ => ?_)
     obtain ⟨w864, hw865⟩ : ∃ w', w' = (((w.alloc (.cells #[.int .i64 c, .slice A n k, .slice B m j, .int .i64 d, .slice C n2 k2, .slice D m2 j2, .int .i64 p1, .int .i64 p2, .int .i64 p3, .int .i64 p4] 101)).alloc (.cells #[.slice X1 x1 k1, .slice X2 x2 k2x, .slice X3 x3 k3, .slice X4 x4 k4] 54)).drew) := ⟨_, rfl⟩
     rw [← hw865] at bel_1 ra_2 rb_3 rc_4 rd_5 l0_6 l1_7 l2_8 l3_9 bx_10 by_11
     rw [← hw865]
     clear hw865
     refine' tkH 0 ⟨bx_10.out, by_11.out⟩ ?hyR866 ?_
     case hyR866 => (rintro _ -; go_simp; try with_reducible rfl)
     refine' tkH 1 ⟨bx_10.out, by_11.out⟩ ?hyR867 ?_
     case hyR867 => (rintro _ -; go_simp; try with_reducible rfl)
     refine' tkH 2 ⟨bx_10.out, by_11.out⟩ ?hyR868 ?_
     case hyR868 => (rintro W' ⟨hS0, hS1⟩; have hc0 := Blk.nth hS0 0; have hc1 := Blk.nth hS0 1; have hc2 := Blk.nth hS0 2; clear hS0 hS1; go_simp; try with_reducible rfl)
     refine' tkH 4 ⟨bx_10.out, by_11.out⟩ ?hyR869 ?_
     case hyR869 => (rintro _ -; go_simp; try with_reducible rfl)
     try simp only [Act.put, List.setIfInBounds_toArray, List.set_cons_zero, List.set_cons_succ]
     refine' tkH 5 ⟨bx_10.out, by_11.out⟩ ?hyR870 ?_
     case hyR870 => (rintro W' ⟨hS0, hS1⟩; have hc0 := Blk.nth hS1 0; clear hS0 hS1; go_simp; try with_reducible rfl)
     try simp only [Act.put, List.setIfInBounds_toArray, List.set_cons_zero, List.set_cons_succ]
     refine wpAnyH_ready (rs := [3]) (by kernel_rfl) (by simp) ?_
     refine rdH rfl (fun K hK => ?_) ?_
     · -- 3: call
      go_simp
      go_at_call 63
      refine (ownWays_any c A B n k m j _ (by omega) (by omega)).mono ?_
      rintro e w871 ⟨rfl, hb872⟩
      dsimp only
      replace bel_1 := bB bel_1 hb872
      replace ra_2 := rB ra_2 hb872
      replace rb_3 := rB rb_3 hb872
      replace rc_4 := rB rc_4 hb872
      replace rd_5 := rB rd_5 hb872
      replace l0_6 := iB l0_6 hb872
      replace l1_7 := iB l1_7 hb872
      replace l2_8 := iB l2_8 hb872
      replace l3_9 := iB l3_9 hb872
      replace bx_10 := kB bx_10 hb872
      replace by_11 := kB by_11 hb872
      refine hK.out _ _ ⟨bx_10.out, by_11.out⟩ (fun _ => ?_); clear hK K
      try simp only [Act.put, List.setIfInBounds_toArray, List.set_cons_zero, List.set_cons_succ]
      refine wpAnyH_ready (rs := [6]) (by kernel_rfl) (by simp) ?_
      refine rdH rfl (fun K hK => ?_) ?_
      · -- 6: call
       go_simp
       go_at_call 127
       refine (areKept_is (c + 1) A n k ws _ ra_2.out hn X1 x1 k1 xa l0_6.out hl0 _ EK0.out).mono ?_
       rintro e w873 ⟨rfl, hb874⟩
       dsimp only
       replace bel_1 := bB bel_1 hb874
       replace ra_2 := rB ra_2 hb874
       replace rb_3 := rB rb_3 hb874
       replace rc_4 := rB rc_4 hb874
       replace rd_5 := rB rd_5 hb874
       replace l0_6 := iB l0_6 hb874
       replace l1_7 := iB l1_7 hb874
       replace l2_8 := iB l2_8 hb874
       replace l3_9 := iB l3_9 hb874
       replace bx_10 := kB bx_10 hb874
       replace by_11 := kB by_11 hb874
       refine hK.out _ _ ⟨bx_10.out, by_11.out⟩ (fun _ => ?_); clear hK K
       try simp only [Act.put, List.setIfInBounds_toArray, List.set_cons_zero, List.set_cons_succ]
       refine' tkH 7 ⟨bx_10.out, by_11.out⟩ ?hyR875 ?_
       case hyR875 => (rintro _ -; go_simp; try with_reducible rfl)
       refine' tkH 8 ⟨bx_10.out, by_11.out⟩ ?hyR876 ?_
       case hyR876 => (rintro _ -; go_simp; try with_reducible rfl)
       refine' tkH 9 ⟨bx_10.out, by_11.out⟩ ?hyR877 ?_
       case hyR877 => (rintro _ -; go_simp; try with_reducible rfl)
       refine' tkH 10 ⟨bx_10.out, by_11.out⟩ ?hyR878 ?_
       case hyR878 => (rintro _ -; go_simp; try with_reducible rfl)
       try simp only [Act.put, List.setIfInBounds_toArray, List.set_cons_zero, List.set_cons_succ]
       refine' tkH 11 ⟨bx_10.out, by_11.out⟩ ?hyR879 ?_
       case hyR879 => (rintro W' ⟨hS0, hS1⟩; have hc0 := Blk.nth hS0 3; have hc1 := Blk.nth hS0 4; have hc2 := Blk.nth hS0 5; clear hS0 hS1; go_simp; try with_reducible rfl)
       refine' tkH 13 ⟨bx_10.out, by_11.out⟩ ?hyR880 ?_
       case hyR880 => (rintro _ -; go_simp; try with_reducible rfl)
       refine' tkH 14 ⟨bx_10.out, by_11.out⟩ ?hyR881 ?_
       case hyR881 => (rintro W' ⟨hS0, hS1⟩; have hc0 := Blk.nth hS1 1; clear hS0 hS1; go_simp; try with_reducible rfl)
       try simp only [Act.put, List.setIfInBounds_toArray, List.set_cons_zero, List.set_cons_succ]
       refine wpAnyH_ready (rs := [12]) (by kernel_rfl) (by simp) ?_
       refine rdH rfl (fun K hK => ?_) ?_
       · -- 12: call
        go_simp
        go_at_call 63
        refine (ownWays_any d C D n2 k2 m2 j2 _ (by omega) (by omega)).mono ?_
        rintro e w882 ⟨rfl, hb883⟩
        dsimp only
        replace bel_1 := bB bel_1 hb883
        replace ra_2 := rB ra_2 hb883
        replace rb_3 := rB rb_3 hb883
        replace rc_4 := rB rc_4 hb883
        replace rd_5 := rB rd_5 hb883
        replace l0_6 := iB l0_6 hb883
        replace l1_7 := iB l1_7 hb883
        replace l2_8 := iB l2_8 hb883
        replace l3_9 := iB l3_9 hb883
        replace bx_10 := kB bx_10 hb883
        replace by_11 := kB by_11 hb883
        refine hK.out _ _ ⟨bx_10.out, by_11.out⟩ (fun _ => ?_); clear hK K
        try simp only [Act.put, List.setIfInBounds_toArray, List.set_cons_zero, List.set_cons_succ]
        refine wpAnyH_ready (rs := [15]) (by kernel_rfl) (by simp) ?_
        refine rdH rfl (fun K hK => ?_) ?_
        · -- 15: call
         go_simp
         go_at_call 127
         refine (areKept_is (d + 1) C n2 k2 ws2 _ rc_4.out hn2 X2 x2 k2x xb l1_7.out hl1 _ EK1.out).mono ?_
         rintro e w884 ⟨rfl, hb885⟩
         dsimp only
         replace bel_1 := bB bel_1 hb885
         replace ra_2 := rB ra_2 hb885
         replace rb_3 := rB rb_3 hb885
         replace rc_4 := rB rc_4 hb885
         replace rd_5 := rB rd_5 hb885
         replace l0_6 := iB l0_6 hb885
         replace l1_7 := iB l1_7 hb885
         replace l2_8 := iB l2_8 hb885
         replace l3_9 := iB l3_9 hb885
         replace bx_10 := kB bx_10 hb885
         replace by_11 := kB by_11 hb885
         refine hK.out _ _ ⟨bx_10.out, by_11.out⟩ (fun _ => ?_); clear hK K
         try simp only [Act.put, List.setIfInBounds_toArray, List.set_cons_zero, List.set_cons_succ]
         refine' tkH 16 ⟨bx_10.out, by_11.out⟩ ?hyR886 ?_
         case hyR886 => (rintro _ -; go_simp; try with_reducible rfl)
         refine' tkH 17 ⟨bx_10.out, by_11.out⟩ ?hyR887 ?_
         case hyR887 => (rintro _ -; go_simp; try with_reducible rfl)
         try simp only [Act.put, List.setIfInBounds_toArray, List.set_cons_zero, List.set_cons_succ]
         refine wpAnyH_done (by kernel_rfl) ?_ _
         go_wp2
         go_ret
         exact ⟨rfl, bel_1.out⟩
        exact AllReadyH.nil
       exact AllReadyH.nil
      exact AllReadyH.nil
     exact AllReadyH.nil
   · have EK1 := Lib.hid e1; clear e1
     cases e2 : keptV c ts ya
     · have EK2 := Lib.hid e2; clear e2
       simp only [Bool.false_and, Bool.and_false]
       go_enter Tryz.func89, Tryz.ntmps89
       have bel_1 := Lib.hid (show Below w.heap.size w w from Below.refl _ w)
       have ra_2 := Lib.hid (h1)
       clear h1
       have rb_3 := Lib.hid (h2)
       clear h2
       have rc_4 := Lib.hid (h3)
       clear h3
       have rd_5 := Lib.hid (h4)
       clear h4
       have l0_6 := Lib.hid (hx0)
       clear hx0
       have l1_7 := Lib.hid (hx1)
       clear hx1
       have l2_8 := Lib.hid (hx2)
       clear hx2
       have l3_9 := Lib.hid (hx3)
       clear hx3
       obtain ⟨o_, ho_⟩ : ∃ o, o = ((.cells #[.int .i64 c, .slice A n k, .slice B m j, .int .i64 d, .slice C n2 k2, .slice D m2 j2, .int .i64 p1, .int .i64 p2, .int .i64 p3, .int .i64 p4] 101) : Obj) := ⟨_, rfl⟩
       replace bel_1 := bA bel_1 o_
       replace ra_2 := rA ra_2 o_
       replace rb_3 := rA rb_3 o_
       replace rc_4 := rA rc_4 o_
       replace rd_5 := rA rd_5 o_
       replace l0_6 := iA l0_6 o_
       replace l1_7 := iA l1_7 o_
       replace l2_8 := iA l2_8 o_
       replace l3_9 := iA l3_9 o_
       subst ho_
       have bx_10 := Lib.hid (Blk.new w 101 #[.int .i64 c, .slice A n k, .slice B m j, .int .i64 d, .slice C n2 k2, .slice D m2 j2, .int .i64 p1, .int .i64 p2, .int .i64 p3, .int .i64 p4])
       obtain ⟨o_, ho_⟩ : ∃ o, o = ((.cells #[.slice X1 x1 k1, .slice X2 x2 k2x, .slice X3 x3 k3, .slice X4 x4 k4] 54) : Obj) := ⟨_, rfl⟩
       replace bel_1 := bA bel_1 o_
       replace ra_2 := rA ra_2 o_
       replace rb_3 := rA rb_3 o_
       replace rc_4 := rA rc_4 o_
       replace rd_5 := rA rd_5 o_
       replace l0_6 := iA l0_6 o_
       replace l1_7 := iA l1_7 o_
       replace l2_8 := iA l2_8 o_
       replace l3_9 := iA l3_9 o_
       replace bx_10 := kA bx_10 o_
       subst ho_
       have nb_ := Blk.new (w.alloc (.cells #[.int .i64 c, .slice A n k, .slice B m j, .int .i64 d, .slice C n2 k2, .slice D m2 j2, .int .i64 p1, .int .i64 p2, .int .i64 p3, .int .i64 p4] 101)) 54 #[.slice X1 x1 k1, .slice X2 x2 k2x, .slice X3 x3 k3, .slice X4 x4 k4]
       simp only [World.size_alloc] at nb_
       have by_11 := Lib.hid nb_; clear nb_
       go_wp2_with fail
       replace bel_1 := bD bel_1
       replace ra_2 := rD ra_2
       replace rb_3 := rD rb_3
       replace rc_4 := rD rc_4
       replace rd_5 := rD rd_5
       replace l0_6 := iD l0_6
       replace l1_7 := iD l1_7
       replace l2_8 := iD l2_8
       replace l3_9 := iD l3_9
       replace bx_10 := kD bx_10
       replace by_11 := kD by_11
       refine wp_region_held_drew (S := (fun W' => Blk W' (w.heap.size) 101 #[.int .i64 c, .slice A n k, .slice B m j, .int .i64 d, .slice C n2 k2, .slice D m2 j2, .int .i64 p1, .int .i64 p2, .int .i64 p3, .int .i64 p4] ∧ Blk W' (w.heap.size + 1) 54 #[.slice X1 x1 k1, .slice X2 x2 k2x, .slice X3 x3 k3, .slice X4 x4 k4])) (by kernel_rfl) ⟨bx_10.out, by_11.out⟩ (fun _ => ?_)
       obtain ⟨w888, hw889⟩ : ∃ w', w' = (((w.alloc (.cells #[.int .i64 c, .slice A n k, .slice B m j, .int .i64 d, .slice C n2 k2, .slice D m2 j2, .int .i64 p1, .int .i64 p2, .int .i64 p3, .int .i64 p4] 101)).alloc (.cells #[.slice X1 x1 k1, .slice X2 x2 k2x, .slice X3 x3 k3, .slice X4 x4 k4] 54)).drew) := ⟨_, rfl⟩
       rw [← hw889] at bel_1 ra_2 rb_3 rc_4 rd_5 l0_6 l1_7 l2_8 l3_9 bx_10 by_11
       rw [← hw889]
       clear hw889
       refine' tkH 0 ⟨bx_10.out, by_11.out⟩ ?hyR890 ?_
       case hyR890 => (rintro _ -; go_simp; try with_reducible rfl)
       refine' tkH 1 ⟨bx_10.out, by_11.out⟩ ?hyR891 ?_
       case hyR891 => (rintro _ -; go_simp; try with_reducible rfl)
       refine' tkH 2 ⟨bx_10.out, by_11.out⟩ ?hyR892 ?_
       case hyR892 => (rintro W' ⟨hS0, hS1⟩; have hc0 := Blk.nth hS0 0; have hc1 := Blk.nth hS0 1; have hc2 := Blk.nth hS0 2; clear hS0 hS1; go_simp; try with_reducible rfl)
       refine' tkH 4 ⟨bx_10.out, by_11.out⟩ ?hyR893 ?_
       case hyR893 => (rintro _ -; go_simp; try with_reducible rfl)
       try simp only [Act.put, List.setIfInBounds_toArray, List.set_cons_zero, List.set_cons_succ]
       refine' tkH 5 ⟨bx_10.out, by_11.out⟩ ?hyR894 ?_
       case hyR894 => (rintro W' ⟨hS0, hS1⟩; have hc0 := Blk.nth hS1 0; clear hS0 hS1; go_simp; try with_reducible rfl)
       try simp only [Act.put, List.setIfInBounds_toArray, List.set_cons_zero, List.set_cons_succ]
       refine wpAnyH_ready (rs := [3]) (by kernel_rfl) (by simp) ?_
       refine rdH rfl (fun K hK => ?_) ?_
       · -- 3: call
        go_simp
        go_at_call 63
        refine (ownWays_any c A B n k m j _ (by omega) (by omega)).mono ?_
        rintro e w895 ⟨rfl, hb896⟩
        dsimp only
        replace bel_1 := bB bel_1 hb896
        replace ra_2 := rB ra_2 hb896
        replace rb_3 := rB rb_3 hb896
        replace rc_4 := rB rc_4 hb896
        replace rd_5 := rB rd_5 hb896
        replace l0_6 := iB l0_6 hb896
        replace l1_7 := iB l1_7 hb896
        replace l2_8 := iB l2_8 hb896
        replace l3_9 := iB l3_9 hb896
        replace bx_10 := kB bx_10 hb896
        replace by_11 := kB by_11 hb896
        refine hK.out _ _ ⟨bx_10.out, by_11.out⟩ (fun _ => ?_); clear hK K
        try simp only [Act.put, List.setIfInBounds_toArray, List.set_cons_zero, List.set_cons_succ]
        refine wpAnyH_ready (rs := [6]) (by kernel_rfl) (by simp) ?_
        refine rdH rfl (fun K hK => ?_) ?_
        · -- 6: call
         go_simp
         go_at_call 127
         refine (areKept_is (c + 1) A n k ws _ ra_2.out hn X1 x1 k1 xa l0_6.out hl0 _ EK0.out).mono ?_
         rintro e w897 ⟨rfl, hb898⟩
         dsimp only
         replace bel_1 := bB bel_1 hb898
         replace ra_2 := rB ra_2 hb898
         replace rb_3 := rB rb_3 hb898
         replace rc_4 := rB rc_4 hb898
         replace rd_5 := rB rd_5 hb898
         replace l0_6 := iB l0_6 hb898
         replace l1_7 := iB l1_7 hb898
         replace l2_8 := iB l2_8 hb898
         replace l3_9 := iB l3_9 hb898
         replace bx_10 := kB bx_10 hb898
         replace by_11 := kB by_11 hb898
         refine hK.out _ _ ⟨bx_10.out, by_11.out⟩ (fun _ => ?_); clear hK K
         try simp only [Act.put, List.setIfInBounds_toArray, List.set_cons_zero, List.set_cons_succ]
         refine' tkH 7 ⟨bx_10.out, by_11.out⟩ ?hyR899 ?_
         case hyR899 => (rintro _ -; go_simp; try with_reducible rfl)
         refine' tkH 8 ⟨bx_10.out, by_11.out⟩ ?hyR900 ?_
         case hyR900 => (rintro _ -; go_simp; try with_reducible rfl)
         refine' tkH 9 ⟨bx_10.out, by_11.out⟩ ?hyR901 ?_
         case hyR901 => (rintro _ -; go_simp; try with_reducible rfl)
         refine' tkH 10 ⟨bx_10.out, by_11.out⟩ ?hyR902 ?_
         case hyR902 => (rintro _ -; go_simp; try with_reducible rfl)
         try simp only [Act.put, List.setIfInBounds_toArray, List.set_cons_zero, List.set_cons_succ]
         refine' tkH 11 ⟨bx_10.out, by_11.out⟩ ?hyR903 ?_
         case hyR903 => (rintro W' ⟨hS0, hS1⟩; have hc0 := Blk.nth hS0 3; have hc1 := Blk.nth hS0 4; have hc2 := Blk.nth hS0 5; clear hS0 hS1; go_simp; try with_reducible rfl)
         refine' tkH 13 ⟨bx_10.out, by_11.out⟩ ?hyR904 ?_
         case hyR904 => (rintro _ -; go_simp; try with_reducible rfl)
         refine' tkH 14 ⟨bx_10.out, by_11.out⟩ ?hyR905 ?_
         case hyR905 => (rintro W' ⟨hS0, hS1⟩; have hc0 := Blk.nth hS1 1; clear hS0 hS1; go_simp; try with_reducible rfl)
         try simp only [Act.put, List.setIfInBounds_toArray, List.set_cons_zero, List.set_cons_succ]
         refine wpAnyH_ready (rs := [12]) (by kernel_rfl) (by simp) ?_
         refine rdH rfl (fun K hK => ?_) ?_
         · -- 12: call
          go_simp
          go_at_call 63
          refine (ownWays_any d C D n2 k2 m2 j2 _ (by omega) (by omega)).mono ?_
          rintro e w906 ⟨rfl, hb907⟩
          dsimp only
          replace bel_1 := bB bel_1 hb907
          replace ra_2 := rB ra_2 hb907
          replace rb_3 := rB rb_3 hb907
          replace rc_4 := rB rc_4 hb907
          replace rd_5 := rB rd_5 hb907
          replace l0_6 := iB l0_6 hb907
          replace l1_7 := iB l1_7 hb907
          replace l2_8 := iB l2_8 hb907
          replace l3_9 := iB l3_9 hb907
          replace bx_10 := kB bx_10 hb907
          replace by_11 := kB by_11 hb907
          refine hK.out _ _ ⟨bx_10.out, by_11.out⟩ (fun _ => ?_); clear hK K
          try simp only [Act.put, List.setIfInBounds_toArray, List.set_cons_zero, List.set_cons_succ]
          refine wpAnyH_ready (rs := [15]) (by kernel_rfl) (by simp) ?_
          refine rdH rfl (fun K hK => ?_) ?_
          · -- 15: call
           go_simp
           go_at_call 127
           refine (areKept_is (d + 1) C n2 k2 ws2 _ rc_4.out hn2 X2 x2 k2x xb l1_7.out hl1 _ EK1.out).mono ?_
           rintro e w908 ⟨rfl, hb909⟩
           dsimp only
           replace bel_1 := bB bel_1 hb909
           replace ra_2 := rB ra_2 hb909
           replace rb_3 := rB rb_3 hb909
           replace rc_4 := rB rc_4 hb909
           replace rd_5 := rB rd_5 hb909
           replace l0_6 := iB l0_6 hb909
           replace l1_7 := iB l1_7 hb909
           replace l2_8 := iB l2_8 hb909
           replace l3_9 := iB l3_9 hb909
           replace bx_10 := kB bx_10 hb909
           replace by_11 := kB by_11 hb909
           refine hK.out _ _ ⟨bx_10.out, by_11.out⟩ (fun _ => ?_); clear hK K
           try simp only [Act.put, List.setIfInBounds_toArray, List.set_cons_zero, List.set_cons_succ]
           refine' tkH 16 ⟨bx_10.out, by_11.out⟩ ?hyR910 ?_
           case hyR910 => (rintro _ -; go_simp; try with_reducible rfl)
           refine' tkH 17 ⟨bx_10.out, by_11.out⟩ ?hyR911 ?_
           case hyR911 => (rintro _ -; go_simp; try with_reducible rfl)
           try simp only [Act.put, List.setIfInBounds_toArray, List.set_cons_zero, List.set_cons_succ]
           refine wpAnyH_done (by kernel_rfl) ?_ _
           go_wp2_with fail
           replace bel_1 := bD bel_1
           replace ra_2 := rD ra_2
           replace rb_3 := rD rb_3
           replace rc_4 := rD rc_4
           replace rd_5 := rD rd_5
           replace l0_6 := iD l0_6
           replace l1_7 := iD l1_7
           replace l2_8 := iD l2_8
           replace l3_9 := iD l3_9
           replace bx_10 := kD bx_10
           replace by_11 := kD by_11
           refine wp_region_held_drew (S := (fun W' => Blk W' (w.heap.size) 101 #[.int .i64 c, .slice A n k, .slice B m j, .int .i64 d, .slice C n2 k2, .slice D m2 j2, .int .i64 p1, .int .i64 p2, .int .i64 p3, .int .i64 p4] ∧ Blk W' (w.heap.size + 1) 54 #[.slice X1 x1 k1, .slice X2 x2 k2x, .slice X3 x3 k3, .slice X4 x4 k4])) (by kernel_rfl) ⟨bx_10.out, by_11.out⟩ (fun _ => ?_)
           obtain ⟨w912, hw913⟩ : ∃ w', w' = (w908.drew) := ⟨_, rfl⟩
           rw [← hw913] at bel_1 ra_2 rb_3 rc_4 rd_5 l0_6 l1_7 l2_8 l3_9 bx_10 by_11
           rw [← hw913]
           clear hw913
           refine' tkH 0 ⟨bx_10.out, by_11.out⟩ ?hyR914 ?_
           case hyR914 => (rintro _ -; go_simp; try with_reducible rfl)
           refine' tkH 1 ⟨bx_10.out, by_11.out⟩ ?hyR915 ?_
           case hyR915 => (rintro _ -; go_simp; try with_reducible rfl)
           refine' tkH 2 ⟨bx_10.out, by_11.out⟩ ?hyR916 ?_
           case hyR916 => (rintro W' ⟨hS0, hS1⟩; have hc0 := Blk.nth hS0 0; have hc1 := Blk.nth hS0 1; have hc2 := Blk.nth hS0 2; clear hS0 hS1; go_simp; try with_reducible rfl)
           refine' tkH 4 ⟨bx_10.out, by_11.out⟩ ?hyR917 ?_
           case hyR917 => (rintro _ -; go_simp; try with_reducible rfl)
           try simp only [Act.put, List.setIfInBounds_toArray, List.set_cons_zero, List.set_cons_succ]
           refine' tkH 5 ⟨bx_10.out, by_11.out⟩ ?hyR918 ?_
           case hyR918 => (rintro W' ⟨hS0, hS1⟩; have hc0 := Blk.nth hS1 2; clear hS0 hS1; go_simp; try with_reducible rfl)
           try simp only [Act.put, List.setIfInBounds_toArray, List.set_cons_zero, List.set_cons_succ]
           refine wpAnyH_ready (rs := [3]) (by kernel_rfl) (by simp) ?_
           refine rdH rfl (fun K hK => ?_) ?_
           · -- 3: call
            go_simp
            go_at_call 63
            refine (ownTurns_any c A B n k m j _).mono ?_
            rintro e w919 ⟨rfl, hb920⟩
            dsimp only
            replace bel_1 := bB bel_1 hb920
            replace ra_2 := rB ra_2 hb920
            replace rb_3 := rB rb_3 hb920
            replace rc_4 := rB rc_4 hb920
            replace rd_5 := rB rd_5 hb920
            replace l0_6 := iB l0_6 hb920
            replace l1_7 := iB l1_7 hb920
            replace l2_8 := iB l2_8 hb920
            replace l3_9 := iB l3_9 hb920
            replace bx_10 := kB bx_10 hb920
            replace by_11 := kB by_11 hb920
            refine hK.out _ _ ⟨bx_10.out, by_11.out⟩ (fun _ => ?_); clear hK K
            try simp only [Act.put, List.setIfInBounds_toArray, List.set_cons_zero, List.set_cons_succ]
            refine wpAnyH_ready (rs := [6]) (by kernel_rfl) (by simp) ?_
            refine rdH rfl (fun K hK => ?_) ?_
            · -- 6: call
             go_simp
             go_at_call 127
             refine (areKept_is c B m j ts _ rb_3.out hm X3 x3 k3 ya l2_8.out hl2 _ EK2.out).mono ?_
             rintro e w921 ⟨rfl, hb922⟩
             dsimp only
             replace bel_1 := bB bel_1 hb922
             replace ra_2 := rB ra_2 hb922
             replace rb_3 := rB rb_3 hb922
             replace rc_4 := rB rc_4 hb922
             replace rd_5 := rB rd_5 hb922
             replace l0_6 := iB l0_6 hb922
             replace l1_7 := iB l1_7 hb922
             replace l2_8 := iB l2_8 hb922
             replace l3_9 := iB l3_9 hb922
             replace bx_10 := kB bx_10 hb922
             replace by_11 := kB by_11 hb922
             refine hK.out _ _ ⟨bx_10.out, by_11.out⟩ (fun _ => ?_); clear hK K
             try simp only [Act.put, List.setIfInBounds_toArray, List.set_cons_zero, List.set_cons_succ]
             refine' tkH 7 ⟨bx_10.out, by_11.out⟩ ?hyR923 ?_
             case hyR923 => (rintro _ -; go_simp; try with_reducible rfl)
             refine' tkH 8 ⟨bx_10.out, by_11.out⟩ ?hyR924 ?_
             case hyR924 => (rintro _ -; go_simp; try with_reducible rfl)
             refine' tkNH 9 ⟨bx_10.out, by_11.out⟩ ?_
             refine' tkNH 10 ⟨bx_10.out, by_11.out⟩ ?_
             try simp only [Act.put, List.setIfInBounds_toArray, List.set_cons_zero, List.set_cons_succ]
             refine' tkNH 11 ⟨bx_10.out, by_11.out⟩ ?_
             refine' tkNH 12 ⟨bx_10.out, by_11.out⟩ ?_
             refine' tkNH 13 ⟨bx_10.out, by_11.out⟩ ?_
             refine' tkNH 14 ⟨bx_10.out, by_11.out⟩ ?_
             try simp only [Act.put, List.setIfInBounds_toArray, List.set_cons_zero, List.set_cons_succ]
             refine' tkNH 15 ⟨bx_10.out, by_11.out⟩ ?_
             refine' tkNH 16 ⟨bx_10.out, by_11.out⟩ ?_
             refine' tkH 17 ⟨bx_10.out, by_11.out⟩ ?hyR933 ?_
             case hyR933 => (rintro _ -; go_simp; try with_reducible rfl)
             try simp only [Act.put, List.setIfInBounds_toArray, List.set_cons_zero, List.set_cons_succ]
             refine wpAnyH_done (by kernel_rfl) ?_ _
             go_wp2
             go_ret
             exact ⟨rfl, bel_1.out⟩
            exact AllReadyH.nil
           exact AllReadyH.nil
          exact AllReadyH.nil
         exact AllReadyH.nil
        exact AllReadyH.nil
       exact AllReadyH.nil
     · have EK2 := Lib.hid e2; clear e2
       cases e3 : keptV d ts2 yb
       · have EK3 := Lib.hid e3; clear e3
         simp only [Bool.false_and, Bool.and_false]
         go_enter Tryz.func89, Tryz.ntmps89
         have bel_1 := Lib.hid (show Below w.heap.size w w from Below.refl _ w)
         have ra_2 := Lib.hid (h1)
         clear h1
         have rb_3 := Lib.hid (h2)
         clear h2
         have rc_4 := Lib.hid (h3)
         clear h3
         have rd_5 := Lib.hid (h4)
         clear h4
         have l0_6 := Lib.hid (hx0)
         clear hx0
         have l1_7 := Lib.hid (hx1)
         clear hx1
         have l2_8 := Lib.hid (hx2)
         clear hx2
         have l3_9 := Lib.hid (hx3)
         clear hx3
         obtain ⟨o_, ho_⟩ : ∃ o, o = ((.cells #[.int .i64 c, .slice A n k, .slice B m j, .int .i64 d, .slice C n2 k2, .slice D m2 j2, .int .i64 p1, .int .i64 p2, .int .i64 p3, .int .i64 p4] 101) : Obj) := ⟨_, rfl⟩
         replace bel_1 := bA bel_1 o_
         replace ra_2 := rA ra_2 o_
         replace rb_3 := rA rb_3 o_
         replace rc_4 := rA rc_4 o_
         replace rd_5 := rA rd_5 o_
         replace l0_6 := iA l0_6 o_
         replace l1_7 := iA l1_7 o_
         replace l2_8 := iA l2_8 o_
         replace l3_9 := iA l3_9 o_
         subst ho_
         have bx_10 := Lib.hid (Blk.new w 101 #[.int .i64 c, .slice A n k, .slice B m j, .int .i64 d, .slice C n2 k2, .slice D m2 j2, .int .i64 p1, .int .i64 p2, .int .i64 p3, .int .i64 p4])
         obtain ⟨o_, ho_⟩ : ∃ o, o = ((.cells #[.slice X1 x1 k1, .slice X2 x2 k2x, .slice X3 x3 k3, .slice X4 x4 k4] 54) : Obj) := ⟨_, rfl⟩
         replace bel_1 := bA bel_1 o_
         replace ra_2 := rA ra_2 o_
         replace rb_3 := rA rb_3 o_
         replace rc_4 := rA rc_4 o_
         replace rd_5 := rA rd_5 o_
         replace l0_6 := iA l0_6 o_
         replace l1_7 := iA l1_7 o_
         replace l2_8 := iA l2_8 o_
         replace l3_9 := iA l3_9 o_
         replace bx_10 := kA bx_10 o_
         subst ho_
         have nb_ := Blk.new (w.alloc (.cells #[.int .i64 c, .slice A n k, .slice B m j, .int .i64 d, .slice C n2 k2, .slice D m2 j2, .int .i64 p1, .int .i64 p2, .int .i64 p3, .int .i64 p4] 101)) 54 #[.slice X1 x1 k1, .slice X2 x2 k2x, .slice X3 x3 k3, .slice X4 x4 k4]
         simp only [World.size_alloc] at nb_
         have by_11 := Lib.hid nb_; clear nb_
         go_wp2_with fail
         replace bel_1 := bD bel_1
         replace ra_2 := rD ra_2
         replace rb_3 := rD rb_3
         replace rc_4 := rD rc_4
         replace rd_5 := rD rd_5
         replace l0_6 := iD l0_6
         replace l1_7 := iD l1_7
         replace l2_8 := iD l2_8
         replace l3_9 := iD l3_9
         replace bx_10 := kD bx_10
         replace by_11 := kD by_11
         refine wp_region_held_drew (S := (fun W' => Blk W' (w.heap.size) 101 #[.int .i64 c, .slice A n k, .slice B m j, .int .i64 d, .slice C n2 k2, .slice D m2 j2, .int .i64 p1, .int .i64 p2, .int .i64 p3, .int .i64 p4] ∧ Blk W' (w.heap.size + 1) 54 #[.slice X1 x1 k1, .slice X2 x2 k2x, .slice X3 x3 k3, .slice X4 x4 k4])) (by kernel_rfl) ⟨bx_10.out, by_11.out⟩ (fun _ => ?_)
         obtain ⟨w934, hw935⟩ : ∃ w', w' = (((w.alloc (.cells #[.int .i64 c, .slice A n k, .slice B m j, .int .i64 d, .slice C n2 k2, .slice D m2 j2, .int .i64 p1, .int .i64 p2, .int .i64 p3, .int .i64 p4] 101)).alloc (.cells #[.slice X1 x1 k1, .slice X2 x2 k2x, .slice X3 x3 k3, .slice X4 x4 k4] 54)).drew) := ⟨_, rfl⟩
         rw [← hw935] at bel_1 ra_2 rb_3 rc_4 rd_5 l0_6 l1_7 l2_8 l3_9 bx_10 by_11
         rw [← hw935]
         clear hw935
         refine' tkH 0 ⟨bx_10.out, by_11.out⟩ ?hyR936 ?_
         case hyR936 => (rintro _ -; go_simp; try with_reducible rfl)
         refine' tkH 1 ⟨bx_10.out, by_11.out⟩ ?hyR937 ?_
         case hyR937 => (rintro _ -; go_simp; try with_reducible rfl)
         refine' tkH 2 ⟨bx_10.out, by_11.out⟩ ?hyR938 ?_
         case hyR938 => (rintro W' ⟨hS0, hS1⟩; have hc0 := Blk.nth hS0 0; have hc1 := Blk.nth hS0 1; have hc2 := Blk.nth hS0 2; clear hS0 hS1; go_simp; try with_reducible rfl)
         refine' tkH 4 ⟨bx_10.out, by_11.out⟩ ?hyR939 ?_
         case hyR939 => (rintro _ -; go_simp; try with_reducible rfl)
         try simp only [Act.put, List.setIfInBounds_toArray, List.set_cons_zero, List.set_cons_succ]
         refine' tkH 5 ⟨bx_10.out, by_11.out⟩ ?hyR940 ?_
         case hyR940 => (rintro W' ⟨hS0, hS1⟩; have hc0 := Blk.nth hS1 0; clear hS0 hS1; go_simp; try with_reducible rfl)
         try simp only [Act.put, List.setIfInBounds_toArray, List.set_cons_zero, List.set_cons_succ]
         refine wpAnyH_ready (rs := [3]) (by kernel_rfl) (by simp) ?_
         refine rdH rfl (fun K hK => ?_) ?_
         · -- 3: call
          go_simp
          go_at_call 63
          refine (ownWays_any c A B n k m j _ (by omega) (by omega)).mono ?_
          rintro e w941 ⟨rfl, hb942⟩
          dsimp only
          replace bel_1 := bB bel_1 hb942
          replace ra_2 := rB ra_2 hb942
          replace rb_3 := rB rb_3 hb942
          replace rc_4 := rB rc_4 hb942
          replace rd_5 := rB rd_5 hb942
          replace l0_6 := iB l0_6 hb942
          replace l1_7 := iB l1_7 hb942
          replace l2_8 := iB l2_8 hb942
          replace l3_9 := iB l3_9 hb942
          replace bx_10 := kB bx_10 hb942
          replace by_11 := kB by_11 hb942
          refine hK.out _ _ ⟨bx_10.out, by_11.out⟩ (fun _ => ?_); clear hK K
          try simp only [Act.put, List.setIfInBounds_toArray, List.set_cons_zero, List.set_cons_succ]
          refine wpAnyH_ready (rs := [6]) (by kernel_rfl) (by simp) ?_
          refine rdH rfl (fun K hK => ?_) ?_
          · -- 6: call
           go_simp
           go_at_call 127
           refine (areKept_is (c + 1) A n k ws _ ra_2.out hn X1 x1 k1 xa l0_6.out hl0 _ EK0.out).mono ?_
           rintro e w943 ⟨rfl, hb944⟩
           dsimp only
           replace bel_1 := bB bel_1 hb944
           replace ra_2 := rB ra_2 hb944
           replace rb_3 := rB rb_3 hb944
           replace rc_4 := rB rc_4 hb944
           replace rd_5 := rB rd_5 hb944
           replace l0_6 := iB l0_6 hb944
           replace l1_7 := iB l1_7 hb944
           replace l2_8 := iB l2_8 hb944
           replace l3_9 := iB l3_9 hb944
           replace bx_10 := kB bx_10 hb944
           replace by_11 := kB by_11 hb944
           refine hK.out _ _ ⟨bx_10.out, by_11.out⟩ (fun _ => ?_); clear hK K
           try simp only [Act.put, List.setIfInBounds_toArray, List.set_cons_zero, List.set_cons_succ]
           refine' tkH 7 ⟨bx_10.out, by_11.out⟩ ?hyR945 ?_
           case hyR945 => (rintro _ -; go_simp; try with_reducible rfl)
           refine' tkH 8 ⟨bx_10.out, by_11.out⟩ ?hyR946 ?_
           case hyR946 => (rintro _ -; go_simp; try with_reducible rfl)
           refine' tkH 9 ⟨bx_10.out, by_11.out⟩ ?hyR947 ?_
           case hyR947 => (rintro _ -; go_simp; try with_reducible rfl)
           refine' tkH 10 ⟨bx_10.out, by_11.out⟩ ?hyR948 ?_
           case hyR948 => (rintro _ -; go_simp; try with_reducible rfl)
           try simp only [Act.put, List.setIfInBounds_toArray, List.set_cons_zero, List.set_cons_succ]
           refine' tkH 11 ⟨bx_10.out, by_11.out⟩ ?hyR949 ?_
           case hyR949 => (rintro W' ⟨hS0, hS1⟩; have hc0 := Blk.nth hS0 3; have hc1 := Blk.nth hS0 4; have hc2 := Blk.nth hS0 5; clear hS0 hS1; go_simp; try with_reducible rfl)
           refine' tkH 13 ⟨bx_10.out, by_11.out⟩ ?hyR950 ?_
           case hyR950 => (rintro _ -; go_simp; try with_reducible rfl)
           refine' tkH 14 ⟨bx_10.out, by_11.out⟩ ?hyR951 ?_
           case hyR951 => (rintro W' ⟨hS0, hS1⟩; have hc0 := Blk.nth hS1 1; clear hS0 hS1; go_simp; try with_reducible rfl)
           try simp only [Act.put, List.setIfInBounds_toArray, List.set_cons_zero, List.set_cons_succ]
           refine wpAnyH_ready (rs := [12]) (by kernel_rfl) (by simp) ?_
           refine rdH rfl (fun K hK => ?_) ?_
           · -- 12: call
            go_simp
            go_at_call 63
            refine (ownWays_any d C D n2 k2 m2 j2 _ (by omega) (by omega)).mono ?_
            rintro e w952 ⟨rfl, hb953⟩
            dsimp only
            replace bel_1 := bB bel_1 hb953
            replace ra_2 := rB ra_2 hb953
            replace rb_3 := rB rb_3 hb953
            replace rc_4 := rB rc_4 hb953
            replace rd_5 := rB rd_5 hb953
            replace l0_6 := iB l0_6 hb953
            replace l1_7 := iB l1_7 hb953
            replace l2_8 := iB l2_8 hb953
            replace l3_9 := iB l3_9 hb953
            replace bx_10 := kB bx_10 hb953
            replace by_11 := kB by_11 hb953
            refine hK.out _ _ ⟨bx_10.out, by_11.out⟩ (fun _ => ?_); clear hK K
            try simp only [Act.put, List.setIfInBounds_toArray, List.set_cons_zero, List.set_cons_succ]
            refine wpAnyH_ready (rs := [15]) (by kernel_rfl) (by simp) ?_
            refine rdH rfl (fun K hK => ?_) ?_
            · -- 15: call
             go_simp
             go_at_call 127
             refine (areKept_is (d + 1) C n2 k2 ws2 _ rc_4.out hn2 X2 x2 k2x xb l1_7.out hl1 _ EK1.out).mono ?_
             rintro e w954 ⟨rfl, hb955⟩
             dsimp only
             replace bel_1 := bB bel_1 hb955
             replace ra_2 := rB ra_2 hb955
             replace rb_3 := rB rb_3 hb955
             replace rc_4 := rB rc_4 hb955
             replace rd_5 := rB rd_5 hb955
             replace l0_6 := iB l0_6 hb955
             replace l1_7 := iB l1_7 hb955
             replace l2_8 := iB l2_8 hb955
             replace l3_9 := iB l3_9 hb955
             replace bx_10 := kB bx_10 hb955
             replace by_11 := kB by_11 hb955
             refine hK.out _ _ ⟨bx_10.out, by_11.out⟩ (fun _ => ?_); clear hK K
             try simp only [Act.put, List.setIfInBounds_toArray, List.set_cons_zero, List.set_cons_succ]
             refine' tkH 16 ⟨bx_10.out, by_11.out⟩ ?hyR956 ?_
             case hyR956 => (rintro _ -; go_simp; try with_reducible rfl)
             refine' tkH 17 ⟨bx_10.out, by_11.out⟩ ?hyR957 ?_
             case hyR957 => (rintro _ -; go_simp; try with_reducible rfl)
             try simp only [Act.put, List.setIfInBounds_toArray, List.set_cons_zero, List.set_cons_succ]
             refine wpAnyH_done (by kernel_rfl) ?_ _
             go_wp2_with fail
             replace bel_1 := bD bel_1
             replace ra_2 := rD ra_2
             replace rb_3 := rD rb_3
             replace rc_4 := rD rc_4
             replace rd_5 := rD rd_5
             replace l0_6 := iD l0_6
             replace l1_7 := iD l1_7
             replace l2_8 := iD l2_8
             replace l3_9 := iD l3_9
             replace bx_10 := kD bx_10
             replace by_11 := kD by_11
             refine wp_region_held_drew (S := (fun W' => Blk W' (w.heap.size) 101 #[.int .i64 c, .slice A n k, .slice B m j, .int .i64 d, .slice C n2 k2, .slice D m2 j2, .int .i64 p1, .int .i64 p2, .int .i64 p3, .int .i64 p4] ∧ Blk W' (w.heap.size + 1) 54 #[.slice X1 x1 k1, .slice X2 x2 k2x, .slice X3 x3 k3, .slice X4 x4 k4])) (by kernel_rfl) ⟨bx_10.out, by_11.out⟩ (fun _ => ?_)
             obtain ⟨w958, hw959⟩ : ∃ w', w' = (w954.drew) := ⟨_, rfl⟩
             rw [← hw959] at bel_1 ra_2 rb_3 rc_4 rd_5 l0_6 l1_7 l2_8 l3_9 bx_10 by_11
             rw [← hw959]
             clear hw959
             refine' tkH 0 ⟨bx_10.out, by_11.out⟩ ?hyR960 ?_
             case hyR960 => (rintro _ -; go_simp; try with_reducible rfl)
             refine' tkH 1 ⟨bx_10.out, by_11.out⟩ ?hyR961 ?_
             case hyR961 => (rintro _ -; go_simp; try with_reducible rfl)
             refine' tkH 2 ⟨bx_10.out, by_11.out⟩ ?hyR962 ?_
             case hyR962 => (rintro W' ⟨hS0, hS1⟩; have hc0 := Blk.nth hS0 0; have hc1 := Blk.nth hS0 1; have hc2 := Blk.nth hS0 2; clear hS0 hS1; go_simp; try with_reducible rfl)
             refine' tkH 4 ⟨bx_10.out, by_11.out⟩ ?hyR963 ?_
             case hyR963 => (rintro _ -; go_simp; try with_reducible rfl)
             try simp only [Act.put, List.setIfInBounds_toArray, List.set_cons_zero, List.set_cons_succ]
             refine' tkH 5 ⟨bx_10.out, by_11.out⟩ ?hyR964 ?_
             case hyR964 => (rintro W' ⟨hS0, hS1⟩; have hc0 := Blk.nth hS1 2; clear hS0 hS1; go_simp; try with_reducible rfl)
             try simp only [Act.put, List.setIfInBounds_toArray, List.set_cons_zero, List.set_cons_succ]
             refine wpAnyH_ready (rs := [3]) (by kernel_rfl) (by simp) ?_
             refine rdH rfl (fun K hK => ?_) ?_
             · -- 3: call
              go_simp
              go_at_call 63
              refine (ownTurns_any c A B n k m j _).mono ?_
              rintro e w965 ⟨rfl, hb966⟩
              dsimp only
              replace bel_1 := bB bel_1 hb966
              replace ra_2 := rB ra_2 hb966
              replace rb_3 := rB rb_3 hb966
              replace rc_4 := rB rc_4 hb966
              replace rd_5 := rB rd_5 hb966
              replace l0_6 := iB l0_6 hb966
              replace l1_7 := iB l1_7 hb966
              replace l2_8 := iB l2_8 hb966
              replace l3_9 := iB l3_9 hb966
              replace bx_10 := kB bx_10 hb966
              replace by_11 := kB by_11 hb966
              refine hK.out _ _ ⟨bx_10.out, by_11.out⟩ (fun _ => ?_); clear hK K
              try simp only [Act.put, List.setIfInBounds_toArray, List.set_cons_zero, List.set_cons_succ]
              refine wpAnyH_ready (rs := [6]) (by kernel_rfl) (by simp) ?_
              refine rdH rfl (fun K hK => ?_) ?_
              · -- 6: call
               go_simp
               go_at_call 127
               refine (areKept_is c B m j ts _ rb_3.out hm X3 x3 k3 ya l2_8.out hl2 _ EK2.out).mono ?_
               rintro e w967 ⟨rfl, hb968⟩
               dsimp only
               replace bel_1 := bB bel_1 hb968
               replace ra_2 := rB ra_2 hb968
               replace rb_3 := rB rb_3 hb968
               replace rc_4 := rB rc_4 hb968
               replace rd_5 := rB rd_5 hb968
               replace l0_6 := iB l0_6 hb968
               replace l1_7 := iB l1_7 hb968
               replace l2_8 := iB l2_8 hb968
               replace l3_9 := iB l3_9 hb968
               replace bx_10 := kB bx_10 hb968
               replace by_11 := kB by_11 hb968
               refine hK.out _ _ ⟨bx_10.out, by_11.out⟩ (fun _ => ?_); clear hK K
               try simp only [Act.put, List.setIfInBounds_toArray, List.set_cons_zero, List.set_cons_succ]
               refine' tkH 7 ⟨bx_10.out, by_11.out⟩ ?hyR969 ?_
               case hyR969 => (rintro _ -; go_simp; try with_reducible rfl)
               refine' tkH 8 ⟨bx_10.out, by_11.out⟩ ?hyR970 ?_
               case hyR970 => (rintro _ -; go_simp; try with_reducible rfl)
               refine' tkH 9 ⟨bx_10.out, by_11.out⟩ ?hyR971 ?_
               case hyR971 => (rintro _ -; go_simp; try with_reducible rfl)
               refine' tkH 10 ⟨bx_10.out, by_11.out⟩ ?hyR972 ?_
               case hyR972 => (rintro _ -; go_simp; try with_reducible rfl)
               try simp only [Act.put, List.setIfInBounds_toArray, List.set_cons_zero, List.set_cons_succ]
               refine' tkH 11 ⟨bx_10.out, by_11.out⟩ ?hyR973 ?_
               case hyR973 => (rintro W' ⟨hS0, hS1⟩; have hc0 := Blk.nth hS0 3; have hc1 := Blk.nth hS0 4; have hc2 := Blk.nth hS0 5; clear hS0 hS1; go_simp; try with_reducible rfl)
               refine' tkH 13 ⟨bx_10.out, by_11.out⟩ ?hyR974 ?_
               case hyR974 => (rintro _ -; go_simp; try with_reducible rfl)
               refine' tkH 14 ⟨bx_10.out, by_11.out⟩ ?hyR975 ?_
               case hyR975 => (rintro W' ⟨hS0, hS1⟩; have hc0 := Blk.nth hS1 3; clear hS0 hS1; go_simp; try with_reducible rfl)
               try simp only [Act.put, List.setIfInBounds_toArray, List.set_cons_zero, List.set_cons_succ]
               refine wpAnyH_ready (rs := [12]) (by kernel_rfl) (by simp) ?_
               refine rdH rfl (fun K hK => ?_) ?_
               · -- 12: call
                go_simp
                go_at_call 63
                refine (ownTurns_any d C D n2 k2 m2 j2 _).mono ?_
                rintro e w976 ⟨rfl, hb977⟩
                dsimp only
                replace bel_1 := bB bel_1 hb977
                replace ra_2 := rB ra_2 hb977
                replace rb_3 := rB rb_3 hb977
                replace rc_4 := rB rc_4 hb977
                replace rd_5 := rB rd_5 hb977
                replace l0_6 := iB l0_6 hb977
                replace l1_7 := iB l1_7 hb977
                replace l2_8 := iB l2_8 hb977
                replace l3_9 := iB l3_9 hb977
                replace bx_10 := kB bx_10 hb977
                replace by_11 := kB by_11 hb977
                refine hK.out _ _ ⟨bx_10.out, by_11.out⟩ (fun _ => ?_); clear hK K
                try simp only [Act.put, List.setIfInBounds_toArray, List.set_cons_zero, List.set_cons_succ]
                refine wpAnyH_ready (rs := [15]) (by kernel_rfl) (by simp) ?_
                refine rdH rfl (fun K hK => ?_) ?_
                · -- 15: call
                 go_simp
                 go_at_call 127
                 refine (areKept_is d D m2 j2 ts2 _ rd_5.out hm2 X4 x4 k4 yb l3_9.out hl3 _ EK3.out).mono ?_
                 rintro e w978 ⟨rfl, hb979⟩
                 dsimp only
                 replace bel_1 := bB bel_1 hb979
                 replace ra_2 := rB ra_2 hb979
                 replace rb_3 := rB rb_3 hb979
                 replace rc_4 := rB rc_4 hb979
                 replace rd_5 := rB rd_5 hb979
                 replace l0_6 := iB l0_6 hb979
                 replace l1_7 := iB l1_7 hb979
                 replace l2_8 := iB l2_8 hb979
                 replace l3_9 := iB l3_9 hb979
                 replace bx_10 := kB bx_10 hb979
                 replace by_11 := kB by_11 hb979
                 refine hK.out _ _ ⟨bx_10.out, by_11.out⟩ (fun _ => ?_); clear hK K
                 try simp only [Act.put, List.setIfInBounds_toArray, List.set_cons_zero, List.set_cons_succ]
                 refine' tkH 16 ⟨bx_10.out, by_11.out⟩ ?hyR980 ?_
                 case hyR980 => (rintro _ -; go_simp; try with_reducible rfl)
                 refine' tkH 17 ⟨bx_10.out, by_11.out⟩ ?hyR981 ?_
                 case hyR981 => (rintro _ -; go_simp; try with_reducible rfl)
                 try simp only [Act.put, List.setIfInBounds_toArray, List.set_cons_zero, List.set_cons_succ]
                 refine wpAnyH_done (by kernel_rfl) ?_ _
                 go_wp2
                 go_ret
                 exact ⟨rfl, bel_1.out⟩
                exact AllReadyH.nil
               exact AllReadyH.nil
              exact AllReadyH.nil
             exact AllReadyH.nil
            exact AllReadyH.nil
           exact AllReadyH.nil
          exact AllReadyH.nil
         exact AllReadyH.nil
       · have EK3 := Lib.hid e3; clear e3
         simp only [Bool.and_self, Bool.true_and]
         go_enter Tryz.func89, Tryz.ntmps89
         have bel_1 := Lib.hid (show Below w.heap.size w w from Below.refl _ w)
         have ra_2 := Lib.hid (h1)
         clear h1
         have rb_3 := Lib.hid (h2)
         clear h2
         have rc_4 := Lib.hid (h3)
         clear h3
         have rd_5 := Lib.hid (h4)
         clear h4
         have l0_6 := Lib.hid (hx0)
         clear hx0
         have l1_7 := Lib.hid (hx1)
         clear hx1
         have l2_8 := Lib.hid (hx2)
         clear hx2
         have l3_9 := Lib.hid (hx3)
         clear hx3
         obtain ⟨o_, ho_⟩ : ∃ o, o = ((.cells #[.int .i64 c, .slice A n k, .slice B m j, .int .i64 d, .slice C n2 k2, .slice D m2 j2, .int .i64 p1, .int .i64 p2, .int .i64 p3, .int .i64 p4] 101) : Obj) := ⟨_, rfl⟩
         replace bel_1 := bA bel_1 o_
         replace ra_2 := rA ra_2 o_
         replace rb_3 := rA rb_3 o_
         replace rc_4 := rA rc_4 o_
         replace rd_5 := rA rd_5 o_
         replace l0_6 := iA l0_6 o_
         replace l1_7 := iA l1_7 o_
         replace l2_8 := iA l2_8 o_
         replace l3_9 := iA l3_9 o_
         subst ho_
         have bx_10 := Lib.hid (Blk.new w 101 #[.int .i64 c, .slice A n k, .slice B m j, .int .i64 d, .slice C n2 k2, .slice D m2 j2, .int .i64 p1, .int .i64 p2, .int .i64 p3, .int .i64 p4])
         obtain ⟨o_, ho_⟩ : ∃ o, o = ((.cells #[.slice X1 x1 k1, .slice X2 x2 k2x, .slice X3 x3 k3, .slice X4 x4 k4] 54) : Obj) := ⟨_, rfl⟩
         replace bel_1 := bA bel_1 o_
         replace ra_2 := rA ra_2 o_
         replace rb_3 := rA rb_3 o_
         replace rc_4 := rA rc_4 o_
         replace rd_5 := rA rd_5 o_
         replace l0_6 := iA l0_6 o_
         replace l1_7 := iA l1_7 o_
         replace l2_8 := iA l2_8 o_
         replace l3_9 := iA l3_9 o_
         replace bx_10 := kA bx_10 o_
         subst ho_
         have nb_ := Blk.new (w.alloc (.cells #[.int .i64 c, .slice A n k, .slice B m j, .int .i64 d, .slice C n2 k2, .slice D m2 j2, .int .i64 p1, .int .i64 p2, .int .i64 p3, .int .i64 p4] 101)) 54 #[.slice X1 x1 k1, .slice X2 x2 k2x, .slice X3 x3 k3, .slice X4 x4 k4]
         simp only [World.size_alloc] at nb_
         have by_11 := Lib.hid nb_; clear nb_
         go_wp2_with fail
         replace bel_1 := bD bel_1
         replace ra_2 := rD ra_2
         replace rb_3 := rD rb_3
         replace rc_4 := rD rc_4
         replace rd_5 := rD rd_5
         replace l0_6 := iD l0_6
         replace l1_7 := iD l1_7
         replace l2_8 := iD l2_8
         replace l3_9 := iD l3_9
         replace bx_10 := kD bx_10
         replace by_11 := kD by_11
         refine wp_region_held_drew (S := (fun W' => Blk W' (w.heap.size) 101 #[.int .i64 c, .slice A n k, .slice B m j, .int .i64 d, .slice C n2 k2, .slice D m2 j2, .int .i64 p1, .int .i64 p2, .int .i64 p3, .int .i64 p4] ∧ Blk W' (w.heap.size + 1) 54 #[.slice X1 x1 k1, .slice X2 x2 k2x, .slice X3 x3 k3, .slice X4 x4 k4])) (by kernel_rfl) ⟨bx_10.out, by_11.out⟩ (fun _ => ?_)
         obtain ⟨w982, hw983⟩ : ∃ w', w' = (((w.alloc (.cells #[.int .i64 c, .slice A n k, .slice B m j, .int .i64 d, .slice C n2 k2, .slice D m2 j2, .int .i64 p1, .int .i64 p2, .int .i64 p3, .int .i64 p4] 101)).alloc (.cells #[.slice X1 x1 k1, .slice X2 x2 k2x, .slice X3 x3 k3, .slice X4 x4 k4] 54)).drew) := ⟨_, rfl⟩
         rw [← hw983] at bel_1 ra_2 rb_3 rc_4 rd_5 l0_6 l1_7 l2_8 l3_9 bx_10 by_11
         rw [← hw983]
         clear hw983
         refine' tkH 0 ⟨bx_10.out, by_11.out⟩ ?hyR984 ?_
         case hyR984 => (rintro _ -; go_simp; try with_reducible rfl)
         refine' tkH 1 ⟨bx_10.out, by_11.out⟩ ?hyR985 ?_
         case hyR985 => (rintro _ -; go_simp; try with_reducible rfl)
         refine' tkH 2 ⟨bx_10.out, by_11.out⟩ ?hyR986 ?_
         case hyR986 => (rintro W' ⟨hS0, hS1⟩; have hc0 := Blk.nth hS0 0; have hc1 := Blk.nth hS0 1; have hc2 := Blk.nth hS0 2; clear hS0 hS1; go_simp; try with_reducible rfl)
         refine' tkH 4 ⟨bx_10.out, by_11.out⟩ ?hyR987 ?_
         case hyR987 => (rintro _ -; go_simp; try with_reducible rfl)
         try simp only [Act.put, List.setIfInBounds_toArray, List.set_cons_zero, List.set_cons_succ]
         refine' tkH 5 ⟨bx_10.out, by_11.out⟩ ?hyR988 ?_
         case hyR988 => (rintro W' ⟨hS0, hS1⟩; have hc0 := Blk.nth hS1 0; clear hS0 hS1; go_simp; try with_reducible rfl)
         try simp only [Act.put, List.setIfInBounds_toArray, List.set_cons_zero, List.set_cons_succ]
         refine wpAnyH_ready (rs := [3]) (by kernel_rfl) (by simp) ?_
         refine rdH rfl (fun K hK => ?_) ?_
         · -- 3: call
          go_simp
          go_at_call 63
          refine (ownWays_any c A B n k m j _ (by omega) (by omega)).mono ?_
          rintro e w989 ⟨rfl, hb990⟩
          dsimp only
          replace bel_1 := bB bel_1 hb990
          replace ra_2 := rB ra_2 hb990
          replace rb_3 := rB rb_3 hb990
          replace rc_4 := rB rc_4 hb990
          replace rd_5 := rB rd_5 hb990
          replace l0_6 := iB l0_6 hb990
          replace l1_7 := iB l1_7 hb990
          replace l2_8 := iB l2_8 hb990
          replace l3_9 := iB l3_9 hb990
          replace bx_10 := kB bx_10 hb990
          replace by_11 := kB by_11 hb990
          refine hK.out _ _ ⟨bx_10.out, by_11.out⟩ (fun _ => ?_); clear hK K
          try simp only [Act.put, List.setIfInBounds_toArray, List.set_cons_zero, List.set_cons_succ]
          refine wpAnyH_ready (rs := [6]) (by kernel_rfl) (by simp) ?_
          refine rdH rfl (fun K hK => ?_) ?_
          · -- 6: call
           go_simp
           go_at_call 127
           refine (areKept_is (c + 1) A n k ws _ ra_2.out hn X1 x1 k1 xa l0_6.out hl0 _ EK0.out).mono ?_
           rintro e w991 ⟨rfl, hb992⟩
           dsimp only
           replace bel_1 := bB bel_1 hb992
           replace ra_2 := rB ra_2 hb992
           replace rb_3 := rB rb_3 hb992
           replace rc_4 := rB rc_4 hb992
           replace rd_5 := rB rd_5 hb992
           replace l0_6 := iB l0_6 hb992
           replace l1_7 := iB l1_7 hb992
           replace l2_8 := iB l2_8 hb992
           replace l3_9 := iB l3_9 hb992
           replace bx_10 := kB bx_10 hb992
           replace by_11 := kB by_11 hb992
           refine hK.out _ _ ⟨bx_10.out, by_11.out⟩ (fun _ => ?_); clear hK K
           try simp only [Act.put, List.setIfInBounds_toArray, List.set_cons_zero, List.set_cons_succ]
           refine' tkH 7 ⟨bx_10.out, by_11.out⟩ ?hyR993 ?_
           case hyR993 => (rintro _ -; go_simp; try with_reducible rfl)
           refine' tkH 8 ⟨bx_10.out, by_11.out⟩ ?hyR994 ?_
           case hyR994 => (rintro _ -; go_simp; try with_reducible rfl)
           refine' tkH 9 ⟨bx_10.out, by_11.out⟩ ?hyR995 ?_
           case hyR995 => (rintro _ -; go_simp; try with_reducible rfl)
           refine' tkH 10 ⟨bx_10.out, by_11.out⟩ ?hyR996 ?_
           case hyR996 => (rintro _ -; go_simp; try with_reducible rfl)
           try simp only [Act.put, List.setIfInBounds_toArray, List.set_cons_zero, List.set_cons_succ]
           refine' tkH 11 ⟨bx_10.out, by_11.out⟩ ?hyR997 ?_
           case hyR997 => (rintro W' ⟨hS0, hS1⟩; have hc0 := Blk.nth hS0 3; have hc1 := Blk.nth hS0 4; have hc2 := Blk.nth hS0 5; clear hS0 hS1; go_simp; try with_reducible rfl)
           refine' tkH 13 ⟨bx_10.out, by_11.out⟩ ?hyR998 ?_
           case hyR998 => (rintro _ -; go_simp; try with_reducible rfl)
           refine' tkH 14 ⟨bx_10.out, by_11.out⟩ ?hyR999 ?_
           case hyR999 => (rintro W' ⟨hS0, hS1⟩; have hc0 := Blk.nth hS1 1; clear hS0 hS1; go_simp; try with_reducible rfl)
           try simp only [Act.put, List.setIfInBounds_toArray, List.set_cons_zero, List.set_cons_succ]
           refine wpAnyH_ready (rs := [12]) (by kernel_rfl) (by simp) ?_
           refine rdH rfl (fun K hK => ?_) ?_
           · -- 12: call
            go_simp
            go_at_call 63
            refine (ownWays_any d C D n2 k2 m2 j2 _ (by omega) (by omega)).mono ?_
            rintro e w1000 ⟨rfl, hb1001⟩
            dsimp only
            replace bel_1 := bB bel_1 hb1001
            replace ra_2 := rB ra_2 hb1001
            replace rb_3 := rB rb_3 hb1001
            replace rc_4 := rB rc_4 hb1001
            replace rd_5 := rB rd_5 hb1001
            replace l0_6 := iB l0_6 hb1001
            replace l1_7 := iB l1_7 hb1001
            replace l2_8 := iB l2_8 hb1001
            replace l3_9 := iB l3_9 hb1001
            replace bx_10 := kB bx_10 hb1001
            replace by_11 := kB by_11 hb1001
            refine hK.out _ _ ⟨bx_10.out, by_11.out⟩ (fun _ => ?_); clear hK K
            try simp only [Act.put, List.setIfInBounds_toArray, List.set_cons_zero, List.set_cons_succ]
            refine wpAnyH_ready (rs := [15]) (by kernel_rfl) (by simp) ?_
            refine rdH rfl (fun K hK => ?_) ?_
            · -- 15: call
             go_simp
             go_at_call 127
             refine (areKept_is (d + 1) C n2 k2 ws2 _ rc_4.out hn2 X2 x2 k2x xb l1_7.out hl1 _ EK1.out).mono ?_
             rintro e w1002 ⟨rfl, hb1003⟩
             dsimp only
             replace bel_1 := bB bel_1 hb1003
             replace ra_2 := rB ra_2 hb1003
             replace rb_3 := rB rb_3 hb1003
             replace rc_4 := rB rc_4 hb1003
             replace rd_5 := rB rd_5 hb1003
             replace l0_6 := iB l0_6 hb1003
             replace l1_7 := iB l1_7 hb1003
             replace l2_8 := iB l2_8 hb1003
             replace l3_9 := iB l3_9 hb1003
             replace bx_10 := kB bx_10 hb1003
             replace by_11 := kB by_11 hb1003
             refine hK.out _ _ ⟨bx_10.out, by_11.out⟩ (fun _ => ?_); clear hK K
             try simp only [Act.put, List.setIfInBounds_toArray, List.set_cons_zero, List.set_cons_succ]
             refine' tkH 16 ⟨bx_10.out, by_11.out⟩ ?hyR1004 ?_
             case hyR1004 => (rintro _ -; go_simp; try with_reducible rfl)
             refine' tkH 17 ⟨bx_10.out, by_11.out⟩ ?hyR1005 ?_
             case hyR1005 => (rintro _ -; go_simp; try with_reducible rfl)
             try simp only [Act.put, List.setIfInBounds_toArray, List.set_cons_zero, List.set_cons_succ]
             refine wpAnyH_done (by kernel_rfl) ?_ _
             go_wp2_with fail
             replace bel_1 := bD bel_1
             replace ra_2 := rD ra_2
             replace rb_3 := rD rb_3
             replace rc_4 := rD rc_4
             replace rd_5 := rD rd_5
             replace l0_6 := iD l0_6
             replace l1_7 := iD l1_7
             replace l2_8 := iD l2_8
             replace l3_9 := iD l3_9
             replace bx_10 := kD bx_10
             replace by_11 := kD by_11
             refine wp_region_held_drew (S := (fun W' => Blk W' (w.heap.size) 101 #[.int .i64 c, .slice A n k, .slice B m j, .int .i64 d, .slice C n2 k2, .slice D m2 j2, .int .i64 p1, .int .i64 p2, .int .i64 p3, .int .i64 p4] ∧ Blk W' (w.heap.size + 1) 54 #[.slice X1 x1 k1, .slice X2 x2 k2x, .slice X3 x3 k3, .slice X4 x4 k4])) (by kernel_rfl) ⟨bx_10.out, by_11.out⟩ (fun _ => ?_)
             obtain ⟨w1006, hw1007⟩ : ∃ w', w' = (w1002.drew) := ⟨_, rfl⟩
             rw [← hw1007] at bel_1 ra_2 rb_3 rc_4 rd_5 l0_6 l1_7 l2_8 l3_9 bx_10 by_11
             rw [← hw1007]
             clear hw1007
             refine' tkH 0 ⟨bx_10.out, by_11.out⟩ ?hyR1008 ?_
             case hyR1008 => (rintro _ -; go_simp; try with_reducible rfl)
             refine' tkH 1 ⟨bx_10.out, by_11.out⟩ ?hyR1009 ?_
             case hyR1009 => (rintro _ -; go_simp; try with_reducible rfl)
             refine' tkH 2 ⟨bx_10.out, by_11.out⟩ ?hyR1010 ?_
             case hyR1010 => (rintro W' ⟨hS0, hS1⟩; have hc0 := Blk.nth hS0 0; have hc1 := Blk.nth hS0 1; have hc2 := Blk.nth hS0 2; clear hS0 hS1; go_simp; try with_reducible rfl)
             refine' tkH 4 ⟨bx_10.out, by_11.out⟩ ?hyR1011 ?_
             case hyR1011 => (rintro _ -; go_simp; try with_reducible rfl)
             try simp only [Act.put, List.setIfInBounds_toArray, List.set_cons_zero, List.set_cons_succ]
             refine' tkH 5 ⟨bx_10.out, by_11.out⟩ ?hyR1012 ?_
             case hyR1012 => (rintro W' ⟨hS0, hS1⟩; have hc0 := Blk.nth hS1 2; clear hS0 hS1; go_simp; try with_reducible rfl)
             try simp only [Act.put, List.setIfInBounds_toArray, List.set_cons_zero, List.set_cons_succ]
             refine wpAnyH_ready (rs := [3]) (by kernel_rfl) (by simp) ?_
             refine rdH rfl (fun K hK => ?_) ?_
             · -- 3: call
              go_simp
              go_at_call 63
              refine (ownTurns_any c A B n k m j _).mono ?_
              rintro e w1013 ⟨rfl, hb1014⟩
              dsimp only
              replace bel_1 := bB bel_1 hb1014
              replace ra_2 := rB ra_2 hb1014
              replace rb_3 := rB rb_3 hb1014
              replace rc_4 := rB rc_4 hb1014
              replace rd_5 := rB rd_5 hb1014
              replace l0_6 := iB l0_6 hb1014
              replace l1_7 := iB l1_7 hb1014
              replace l2_8 := iB l2_8 hb1014
              replace l3_9 := iB l3_9 hb1014
              replace bx_10 := kB bx_10 hb1014
              replace by_11 := kB by_11 hb1014
              refine hK.out _ _ ⟨bx_10.out, by_11.out⟩ (fun _ => ?_); clear hK K
              try simp only [Act.put, List.setIfInBounds_toArray, List.set_cons_zero, List.set_cons_succ]
              refine wpAnyH_ready (rs := [6]) (by kernel_rfl) (by simp) ?_
              refine rdH rfl (fun K hK => ?_) ?_
              · -- 6: call
               go_simp
               go_at_call 127
               refine (areKept_is c B m j ts _ rb_3.out hm X3 x3 k3 ya l2_8.out hl2 _ EK2.out).mono ?_
               rintro e w1015 ⟨rfl, hb1016⟩
               dsimp only
               replace bel_1 := bB bel_1 hb1016
               replace ra_2 := rB ra_2 hb1016
               replace rb_3 := rB rb_3 hb1016
               replace rc_4 := rB rc_4 hb1016
               replace rd_5 := rB rd_5 hb1016
               replace l0_6 := iB l0_6 hb1016
               replace l1_7 := iB l1_7 hb1016
               replace l2_8 := iB l2_8 hb1016
               replace l3_9 := iB l3_9 hb1016
               replace bx_10 := kB bx_10 hb1016
               replace by_11 := kB by_11 hb1016
               refine hK.out _ _ ⟨bx_10.out, by_11.out⟩ (fun _ => ?_); clear hK K
               try simp only [Act.put, List.setIfInBounds_toArray, List.set_cons_zero, List.set_cons_succ]
               refine' tkH 7 ⟨bx_10.out, by_11.out⟩ ?hyR1017 ?_
               case hyR1017 => (rintro _ -; go_simp; try with_reducible rfl)
               refine' tkH 8 ⟨bx_10.out, by_11.out⟩ ?hyR1018 ?_
               case hyR1018 => (rintro _ -; go_simp; try with_reducible rfl)
               refine' tkH 9 ⟨bx_10.out, by_11.out⟩ ?hyR1019 ?_
               case hyR1019 => (rintro _ -; go_simp; try with_reducible rfl)
               refine' tkH 10 ⟨bx_10.out, by_11.out⟩ ?hyR1020 ?_
               case hyR1020 => (rintro _ -; go_simp; try with_reducible rfl)
               try simp only [Act.put, List.setIfInBounds_toArray, List.set_cons_zero, List.set_cons_succ]
               refine' tkH 11 ⟨bx_10.out, by_11.out⟩ ?hyR1021 ?_
               case hyR1021 => (rintro W' ⟨hS0, hS1⟩; have hc0 := Blk.nth hS0 3; have hc1 := Blk.nth hS0 4; have hc2 := Blk.nth hS0 5; clear hS0 hS1; go_simp; try with_reducible rfl)
               refine' tkH 13 ⟨bx_10.out, by_11.out⟩ ?hyR1022 ?_
               case hyR1022 => (rintro _ -; go_simp; try with_reducible rfl)
               refine' tkH 14 ⟨bx_10.out, by_11.out⟩ ?hyR1023 ?_
               case hyR1023 => (rintro W' ⟨hS0, hS1⟩; have hc0 := Blk.nth hS1 3; clear hS0 hS1; go_simp; try with_reducible rfl)
               try simp only [Act.put, List.setIfInBounds_toArray, List.set_cons_zero, List.set_cons_succ]
               refine wpAnyH_ready (rs := [12]) (by kernel_rfl) (by simp) ?_
               refine rdH rfl (fun K hK => ?_) ?_
               · -- 12: call
                go_simp
                go_at_call 63
                refine (ownTurns_any d C D n2 k2 m2 j2 _).mono ?_
                rintro e w1024 ⟨rfl, hb1025⟩
                dsimp only
                replace bel_1 := bB bel_1 hb1025
                replace ra_2 := rB ra_2 hb1025
                replace rb_3 := rB rb_3 hb1025
                replace rc_4 := rB rc_4 hb1025
                replace rd_5 := rB rd_5 hb1025
                replace l0_6 := iB l0_6 hb1025
                replace l1_7 := iB l1_7 hb1025
                replace l2_8 := iB l2_8 hb1025
                replace l3_9 := iB l3_9 hb1025
                replace bx_10 := kB bx_10 hb1025
                replace by_11 := kB by_11 hb1025
                refine hK.out _ _ ⟨bx_10.out, by_11.out⟩ (fun _ => ?_); clear hK K
                try simp only [Act.put, List.setIfInBounds_toArray, List.set_cons_zero, List.set_cons_succ]
                refine wpAnyH_ready (rs := [15]) (by kernel_rfl) (by simp) ?_
                refine rdH rfl (fun K hK => ?_) ?_
                · -- 15: call
                 go_simp
                 go_at_call 127
                 refine (areKept_is d D m2 j2 ts2 _ rd_5.out hm2 X4 x4 k4 yb l3_9.out hl3 _ EK3.out).mono ?_
                 rintro e w1026 ⟨rfl, hb1027⟩
                 dsimp only
                 replace bel_1 := bB bel_1 hb1027
                 replace ra_2 := rB ra_2 hb1027
                 replace rb_3 := rB rb_3 hb1027
                 replace rc_4 := rB rc_4 hb1027
                 replace rd_5 := rB rd_5 hb1027
                 replace l0_6 := iB l0_6 hb1027
                 replace l1_7 := iB l1_7 hb1027
                 replace l2_8 := iB l2_8 hb1027
                 replace l3_9 := iB l3_9 hb1027
                 replace bx_10 := kB bx_10 hb1027
                 replace by_11 := kB by_11 hb1027
                 refine hK.out _ _ ⟨bx_10.out, by_11.out⟩ (fun _ => ?_); clear hK K
                 try simp only [Act.put, List.setIfInBounds_toArray, List.set_cons_zero, List.set_cons_succ]
                 refine' tkH 16 ⟨bx_10.out, by_11.out⟩ ?hyR1028 ?_
                 case hyR1028 => (rintro _ -; go_simp; try with_reducible rfl)
                 refine' tkH 17 ⟨bx_10.out, by_11.out⟩ ?hyR1029 ?_
                 case hyR1029 => (rintro _ -; go_simp; try with_reducible rfl)
                 try simp only [Act.put, List.setIfInBounds_toArray, List.set_cons_zero, List.set_cons_succ]
                 refine wpAnyH_done (by kernel_rfl) ?_ _
                 go_wp2_with fail
                 replace bel_1 := bD bel_1
                 replace ra_2 := rD ra_2
                 replace rb_3 := rD rb_3
                 replace rc_4 := rD rc_4
                 replace rd_5 := rD rd_5
                 replace l0_6 := iD l0_6
                 replace l1_7 := iD l1_7
                 replace l2_8 := iD l2_8
                 replace l3_9 := iD l3_9
                 replace bx_10 := kD bx_10
                 replace by_11 := kD by_11
                 refine wp_region_held_drew (S := (fun W' => Blk W' (w.heap.size) 101 #[.int .i64 c, .slice A n k, .slice B m j, .int .i64 d, .slice C n2 k2, .slice D m2 j2, .int .i64 p1, .int .i64 p2, .int .i64 p3, .int .i64 p4])) (by kernel_rfl) bx_10.out (fun _ => ?_)
                 obtain ⟨w1030, hw1031⟩ : ∃ w', w' = (w1026.drew) := ⟨_, rfl⟩
                 rw [← hw1031] at bel_1 ra_2 rb_3 rc_4 rd_5 l0_6 l1_7 l2_8 l3_9 bx_10 by_11
                 rw [← hw1031]
                 clear hw1031
                 refine' tkH 0 bx_10.out ?hyR1032 ?_
                 case hyR1032 => (rintro W' hS0; have hc0 := Blk.nth hS0 0; have hc1 := Blk.nth hS0 1; have hc2 := Blk.nth hS0 2; have hc3 := Blk.nth hS0 3; have hc4 := Blk.nth hS0 4; have hc5 := Blk.nth hS0 5; have hc6 := Blk.nth hS0 6; have hc7 := Blk.nth hS0 7; have hc8 := Blk.nth hS0 8; have hc9 := Blk.nth hS0 9; clear hS0; go_simp; try with_reducible rfl)
                 refine' tkH 2 bx_10.out ?hyR1033 ?_
                 case hyR1033 => (rintro W' hS0; have hc0 := Blk.nth hS0 0; have hc1 := Blk.nth hS0 1; have hc2 := Blk.nth hS0 2; have hc3 := Blk.nth hS0 3; have hc4 := Blk.nth hS0 4; have hc5 := Blk.nth hS0 5; have hc6 := Blk.nth hS0 6; have hc7 := Blk.nth hS0 7; have hc8 := Blk.nth hS0 8; have hc9 := Blk.nth hS0 9; clear hS0; go_simp; try with_reducible rfl)
                 try simp only [Act.put, List.setIfInBounds_toArray, List.set_cons_zero, List.set_cons_succ]
                 refine wpAnyH_ready (rs := [1]) (by kernel_rfl) (by simp) ?_
                 refine rdH rfl (fun K hK => ?_) ?_
                 · -- 1: call
                  go_simp
                  go_at_call 117
                  refine (corner_any c A B n k m j d C D n2 k2 m2 j2 p1 p2 p3 p4 _ ⟨ga1, ga2⟩).mono ?_
                  rintro e w1034 ⟨g1, rfl, hcl1, hge1, hb1035⟩
                  dsimp only
                  unfold fnV
                  replace bel_1 := bB bel_1 hb1035
                  replace ra_2 := rB ra_2 hb1035
                  replace rb_3 := rB rb_3 hb1035
                  replace rc_4 := rB rc_4 hb1035
                  replace rd_5 := rB rd_5 hb1035
                  replace l0_6 := iB l0_6 hb1035
                  replace l1_7 := iB l1_7 hb1035
                  replace l2_8 := iB l2_8 hb1035
                  replace l3_9 := iB l3_9 hb1035
                  replace bx_10 := kB bx_10 hb1035
                  replace by_11 := kB by_11 hb1035
                  have cl1_1036 := Lib.hid (hcl1)
                  refine hK.out _ _ bx_10.out (fun _ => ?_); clear hK K
                  try simp only [Act.put, List.setIfInBounds_toArray, List.set_cons_zero, List.set_cons_succ]
                  refine wpAnyH_ready (rs := [3]) (by kernel_rfl) (by simp) ?_
                  refine rdH rfl (fun K hK => ?_) ?_
                  · -- 3: call
                   go_simp
                   go_at_call 118
                   refine (side_any c A B n k m j d C D n2 k2 m2 j2 p1 p2 p3 p4 _ ⟨by omega, by omega⟩).mono ?_
                   rintro e w1037 ⟨g2, rfl, hcl2, hge2, hb1038⟩
                   dsimp only
                   unfold fnV
                   replace bel_1 := bB bel_1 hb1038
                   replace ra_2 := rB ra_2 hb1038
                   replace rb_3 := rB rb_3 hb1038
                   replace rc_4 := rB rc_4 hb1038
                   replace rd_5 := rB rd_5 hb1038
                   replace l0_6 := iB l0_6 hb1038
                   replace l1_7 := iB l1_7 hb1038
                   replace l2_8 := iB l2_8 hb1038
                   replace l3_9 := iB l3_9 hb1038
                   replace bx_10 := kB bx_10 hb1038
                   replace by_11 := kB by_11 hb1038
                   replace cl1_1036 := Lib.hid (Cl.keep (cl1_1036.out) hb1038)
                   have cl2_1039 := Lib.hid (hcl2)
                   refine hK.out _ _ bx_10.out (fun _ => ?_); clear hK K
                   try simp only [Act.put, List.setIfInBounds_toArray, List.set_cons_zero, List.set_cons_succ]
                   refine' tkH 4 bx_10.out ?hyR1040 ?_
                   case hyR1040 => (rintro _ -; go_simp; try with_reducible rfl)
                   refine' tkH 5 bx_10.out ?hyR1041 ?_
                   case hyR1041 => (rintro _ -; go_simp; try with_reducible rfl)
                   try simp only [Act.put, List.setIfInBounds_toArray, List.set_cons_zero, List.set_cons_succ]
                   refine wpAnyH_done (by kernel_rfl) ?_ _
                   clear ra_2
                   clear rb_3
                   clear rc_4
                   clear rd_5
                   obtain ⟨z_3012, z_3013, z_3014, z_3015, z_3016, z_3017, z_3018, z_3019, z_3020, z_3021⟩ := at10 bx_10
                   obtain ⟨z_3022, z_3023, z_3024, z_3025⟩ := at4 by_11
                   go_wp2
                   clear z_3012 z_3013 z_3014 z_3015 z_3016 z_3017 z_3018 z_3019 z_3020 z_3021 z_3022 z_3023 z_3024 z_3025
                   clear hge1 hge2
                   go_loopw [7] (fun i wr => ∃ q r : Nat, q ≤ p4 - p3 ∧ r = p3 + q ∧ i = .int .i64 (r : Int) ∧ ties ⟨p1, p2, p3, p4⟩ xa xb ya yb q = true ∧ Cl wr g1 (c + 1) p1 p3 p4 ∧ Cl wr g2 c p1 p3 ((p4 : Int) - 1) ∧ Blk wr (w.heap.size) 101 #[.int .i64 c, .slice A n k, .slice B m j, .int .i64 d, .slice C n2 k2, .slice D m2 j2, .int .i64 p1, .int .i64 p2, .int .i64 p3, .int .i64 p4] ∧ Blk wr (w.heap.size + 1) 54 #[.slice X1 x1 k1, .slice X2 x2 k2x, .slice X3 x3 k3, .slice X4 x4 k4] ∧ RdI wr X1 x1 k1 xa ∧ RdI wr X2 x2 k2x xb ∧ RdI wr X3 x3 k3 ya ∧ RdI wr X4 x4 k4 yb ∧ Below w.heap.size w wr) (fun i _ => p4 - (intOf i).toNat)
                   case atStart => exact ⟨0, p3, Nat.zero_le _, rfl, rfl, rfl, cl1_1036.out, cl2_1039.out, bx_10.out, by_11.out, l0_6.out, l1_7.out, l2_8.out, l3_9.out, bel_1.out⟩
                   case round =>
                    clear bel_1 l0_6 l1_7 l2_8 l3_9 bx_10 by_11 cl1_1036 cl2_1039
                    obtain ⟨q, r, hq, hrq, rfl, hti, i0, i1, i2, i3, i4, i5, i6, i7, i8⟩ := hrel
                    have cl1_4026 := Lib.hid (i0)
                    have cl2_4027 := Lib.hid (i1)
                    have bx_4028 := Lib.hid (i2)
                    have by_4029 := Lib.hid (i3)
                    have l0_4030 := Lib.hid (i4)
                    have l1_4031 := Lib.hid (i5)
                    have l2_4032 := Lib.hid (i6)
                    have l3_4033 := Lib.hid (i7)
                    have bel_4034 := Lib.hid (i8)
                    clear i0 i1 i2 i3 i4 i5 i6 i7 i8
                    have HTI := Lib.hid hti; clear hti
                    by_cases hlt : r < p4
                    · have hlt' : (r : Int) < (p4 : Int) := by omega
                      obtain ⟨v1, hv1⟩ : ∃ v, v = p1 + p4 - r := ⟨_, rfl⟩
                      obtain ⟨v2, hv2⟩ : ∃ v, v = p1 + p4 - 1 - r := ⟨_, rfl⟩
                      obtain ⟨p5, hp5⟩ : ∃ v, v = p4 - 1 := ⟨_, rfl⟩
                      have hr1 : ren (c + 1) p1 p3 p4 (r : Int) = (v1 : Int) := by unfold ren; rw [if_neg (by omega), if_neg (by omega)]; omega
                      have hr2 : ren c p1 p3 ((p4 : Int) - 1) (r : Int) = (v2 : Int) := by unfold ren; rw [if_neg (by omega), if_neg (by omega)]; omega
                      have HV1 := Lib.hid (fun w h => Calls.mono (renum_any (c + 1) p1 p3 p4 (r : Int) g1 w h (by omega) (by omega) (by omega) (by omega) (by omega)) (fun e w' h => (show e = .returned (.int .i64 (v1 : Int)) ∧ w = w' from ⟨by rw [h.1, hr1], h.2⟩)))
                      have HV2 := Lib.hid (fun w h => Calls.mono (renum_any c p1 p3 ((p4 : Int) - 1) (r : Int) g2 w h (by omega) (by omega) (by omega) (by omega) (by omega)) (fun e w' h => (show e = .returned (.int .i64 (v2 : Int)) ∧ w = w' from ⟨by rw [h.1, hr2], h.2⟩)))
                      clear hr1 hr2
                      obtain ⟨kl0, kb0⟩ := kept_facts EK0.out; have hn0_ := (l0_4030.out).len
                      obtain ⟨kl1, kb1⟩ := kept_facts EK1.out; have hn1_ := (l1_4031.out).len
                      obtain ⟨kl2, kb2⟩ := kept_facts EK2.out; have hn2_ := (l2_4032.out).len
                      obtain ⟨kl3, kb3⟩ := kept_facts EK3.out; have hn3_ := (l3_4033.out).len
                      have hin_ : v1 < xa.length := by omega
                      have ga_ := get_of hin_; have ba_ := kb0 _ hin_; clear hin_
                      obtain ⟨za, hza⟩ : ∃ z, at_ xa v1 = z := ⟨_, rfl⟩
                      rw [hza] at ga_ ba_
                      have hin_ : p1 < xa.length := by omega
                      have gb_ := get_of hin_; have bb_ := kb0 _ hin_; clear hin_
                      obtain ⟨zb, hzb⟩ : ∃ z, at_ xa p1 = z := ⟨_, rfl⟩
                      rw [hzb] at gb_ bb_
                      have hin_ : p4 < xb.length := by omega
                      have gc_ := get_of hin_; have bc_ := kb1 _ hin_; clear hin_
                      obtain ⟨zc, hzc⟩ : ∃ z, at_ xb p4 = z := ⟨_, rfl⟩
                      rw [hzc] at gc_ bc_
                      have hin_ : r < xb.length := by omega
                      have gd_ := get_of hin_; have bd_ := kb1 _ hin_; clear hin_
                      obtain ⟨zd, hzd⟩ : ∃ z, at_ xb r = z := ⟨_, rfl⟩
                      rw [hzd] at gd_ bd_
                      have hin_ : v2 < ya.length := by omega
                      have ge_ := get_of hin_; have be_ := kb2 _ hin_; clear hin_
                      obtain ⟨ze, hze⟩ : ∃ z, at_ ya v2 = z := ⟨_, rfl⟩
                      rw [hze] at ge_ be_
                      have hin_ : p1 < ya.length := by omega
                      have gf_ := get_of hin_; have bf_ := kb2 _ hin_; clear hin_
                      obtain ⟨zf, hzf⟩ : ∃ z, at_ ya p1 = z := ⟨_, rfl⟩
                      rw [hzf] at gf_ bf_
                      have hin_ : r < yb.length := by omega
                      have gg_ := get_of hin_; have bg_ := kb3 _ hin_; clear hin_
                      obtain ⟨zg, hzg⟩ : ∃ z, at_ yb r = z := ⟨_, rfl⟩
                      rw [hzg] at gg_ bg_
                      have hin_ : p5 < yb.length := by omega
                      have gh_ := get_of hin_; have bh_ := kb3 _ hin_; clear hin_
                      obtain ⟨zh, hzh⟩ : ∃ z, at_ yb p5 = z := ⟨_, rfl⟩
                      rw [hzh] at gh_ bh_
                      obtain ⟨ab0, ao0, hA0⟩ := rdI_some (l0_4030.out) ga_
                      obtain ⟨ab1, ao1, hA1⟩ := rdI_some (l1_4031.out) gc_
                      obtain ⟨ab2, ao2, hA2⟩ := rdI_some (l2_4032.out) ge_
                      obtain ⟨ab3, ao3, hA3⟩ := rdI_some (l3_4033.out) gg_
                      subst hA0
                      subst hA1
                      subst hA2
                      subst hA3
                      have htw : tieW ⟨p1, p2, p3, p4⟩ xa xb ((p3 : Int) + (q : Int)) = decide (za - zb = zc - zd) := by unfold tieW; dsimp only; rw [show ((p1 : Int) + p4 - ((p3 : Int) + q)) = ((v1 : Nat) : Int) by omega, show ((p3 : Int) + q) = ((r : Nat) : Int) by omega, look_at, look_at, look_at, look_at, hza, hzb, hzc, hzd]
                      have htt : tieT ⟨p1, p2, p3, p4⟩ ya yb ((p3 : Int) + (q : Int)) = decide (ze - zf = zg - zh) := by unfold tieT; dsimp only; rw [show ((p1 : Int) + p4 - 1 - ((p3 : Int) + q)) = ((v2 : Nat) : Int) by omega, show ((p3 : Int) + q) = (r : Int) by omega, show ((p4 : Int) - 1) = ((p5 : Nat) : Int) by omega, look_at, look_at, look_at, look_at, hze, hzf, hzg, hzh]
                      have HTW := Lib.hid htw; have HTT := Lib.hid htt; clear htw htt hza hzb hzc hzd hze hzf hzg hzh
                      have hw15 : IntKind.i64.wrap (za - zb) = za - zb := IntWalk.i64_in _ (by omega)
                      have hw29 : IntKind.i64.wrap (zc - zd) = zc - zd := IntWalk.i64_in _ (by omega)
                      have hw47 : IntKind.i64.wrap (ze - zf) = ze - zf := IntWalk.i64_in _ (by omega)
                      have hw62 : IntKind.i64.wrap (zg - zh) = zg - zh := IntWalk.i64_in _ (by omega)
                      have hw59 : IntKind.i64.wrap ((p4 : Int) - 1) = (p5 : Int) := by rw [IntWalk.i64_in _ (by omega)]; omega
                      have hlv1 : (v1 : Int) < x1 := by omega
                      have hlp1 : (p1 : Int) < x1 := by omega
                      have hlp4 : (p4 : Int) < x2 := by omega
                      have hlq2 : (r : Int) < x2 := by omega
                      have hlv2 : (v2 : Int) < x3 := by omega
                      have hlp13 : (p1 : Int) < x3 := by omega
                      have hlq4 : (r : Int) < x4 := by omega
                      have hlp5 : (p5 : Int) < x4 := by omega
                      clear kl0 kb0 hn0_ kl1 kb1 hn1_ kl2 kb2 hn2_ kl3 kb3 hn3_
                      have HRQ := Lib.hid hrq; clear hv1 hv2 hp5 hrq
                      by_cases h1 : za - zb = zc - zd
                      · have hb1 : (za - zb != zc - zd) = false := by simpa using h1
                        have hd1 : decide (za - zb = zc - zd) = true := decide_eq_true h1
                        clear h1
                        by_cases h2 : ze - zf = zg - zh
                        · have hb2 : (ze - zf != zg - zh) = false := by simpa using h2
                          have hd2 : decide (ze - zf = zg - zh) = true := decide_eq_true h2
                          clear h2
                          obtain ⟨z_6035, z_6036, z_6037, z_6038, z_6039, z_6040, z_6041, z_6042, z_6043, z_6044⟩ := at10 bx_4028
                          obtain ⟨z_6045, z_6046, z_6047, z_6048⟩ := at4 by_4029
                          go_wp2_with fail
                          clear z_6035 z_6036 z_6037 z_6038 z_6039 z_6040 z_6041 z_6042 z_6043 z_6044 z_6045 z_6046 z_6047 z_6048
                          replace cl1_4026 := Lib.hid (Cl.drew (cl1_4026.out))
                          replace cl2_4027 := Lib.hid (Cl.drew (cl2_4027.out))
                          replace bx_4028 := kD bx_4028
                          replace by_4029 := kD by_4029
                          replace l0_4030 := iD l0_4030
                          replace l1_4031 := iD l1_4031
                          replace l2_4032 := iD l2_4032
                          replace l3_4033 := iD l3_4033
                          replace bel_4034 := bD bel_4034
                          refine wp_region_held_drew (S := (fun W' => Blk W' (w.heap.size) 101 #[.int .i64 c, .slice A n k, .slice B m j, .int .i64 d, .slice C n2 k2, .slice D m2 j2, .int .i64 p1, .int .i64 p2, .int .i64 p3, .int .i64 p4] ∧ Blk W' (w.heap.size + 1) 54 #[.slice (some ⟨ab0, ao0, none⟩) x1 k1, .slice (some ⟨ab1, ao1, none⟩) x2 k2x, .slice (some ⟨ab2, ao2, none⟩) x3 k3, .slice (some ⟨ab3, ao3, none⟩) x4 k4] ∧ RdI W' (some ⟨ab0, ao0, none⟩) x1 k1 xa ∧ RdI W' (some ⟨ab1, ao1, none⟩) x2 k2x xb ∧ RdI W' (some ⟨ab2, ao2, none⟩) x3 k3 ya ∧ RdI W' (some ⟨ab3, ao3, none⟩) x4 k4 yb)) (by kernel_rfl) ⟨bx_4028.out, by_4029.out, l0_4030.out, l1_4031.out, l2_4032.out, l3_4033.out⟩ (fun _ => ?_)
                          obtain ⟨w1042, hw1043⟩ : ∃ w', w' = (wr.drew) := ⟨_, rfl⟩
                          rw [← hw1043] at cl1_4026 cl2_4027 bx_4028 by_4029 l0_4030 l1_4031 l2_4032 l3_4033 bel_4034
                          rw [← hw1043]
                          clear hw1043
                          refine' tkH 0 ⟨bx_4028.out, by_4029.out, l0_4030.out, l1_4031.out, l2_4032.out, l3_4033.out⟩ ?hyR1044 ?_
                          case hyR1044 => (rintro _ -; go_simp; try with_reducible rfl)
                          refine' tkH 1 ⟨bx_4028.out, by_4029.out, l0_4030.out, l1_4031.out, l2_4032.out, l3_4033.out⟩ ?hyR1045 ?_
                          case hyR1045 => (rintro W' ⟨hS0, hS1, hS2, hS3, hS4, hS5⟩; have hc0 := Blk.nth hS1 0; clear hS0 hS1 hS2 hS3 hS4 hS5; go_simp; try with_reducible rfl)
                          refine' tkH 2 ⟨bx_4028.out, by_4029.out, l0_4030.out, l1_4031.out, l2_4032.out, l3_4033.out⟩ ?hyR1046 ?_
                          case hyR1046 => (rintro _ -; go_simp; try with_reducible rfl)
                          refine' tkH 3 ⟨bx_4028.out, by_4029.out, l0_4030.out, l1_4031.out, l2_4032.out, l3_4033.out⟩ ?hyR1047 ?_
                          case hyR1047 => (rintro _ -; go_simp; try with_reducible rfl)
                          try simp only [Act.put, List.setIfInBounds_toArray, List.set_cons_zero, List.set_cons_succ]
                          refine' tkH 7 ⟨bx_4028.out, by_4029.out, l0_4030.out, l1_4031.out, l2_4032.out, l3_4033.out⟩ ?hyR1048 ?_
                          case hyR1048 => (rintro _ -; go_simp; try with_reducible rfl)
                          refine' tkH 8 ⟨bx_4028.out, by_4029.out, l0_4030.out, l1_4031.out, l2_4032.out, l3_4033.out⟩ ?hyR1049 ?_
                          case hyR1049 => (rintro W' ⟨hS0, hS1, hS2, hS3, hS4, hS5⟩; have hc0 := Blk.nth hS1 0; clear hS0 hS1 hS2 hS3 hS4 hS5; go_simp; try with_reducible rfl)
                          refine' tkH 9 ⟨bx_4028.out, by_4029.out, l0_4030.out, l1_4031.out, l2_4032.out, l3_4033.out⟩ ?hyR1050 ?_
                          case hyR1050 => (rintro _ -; go_simp; try with_reducible rfl)
                          refine' tkH 10 ⟨bx_4028.out, by_4029.out, l0_4030.out, l1_4031.out, l2_4032.out, l3_4033.out⟩ ?hyR1051 ?_
                          case hyR1051 => (rintro _ -; go_simp; try with_reducible rfl)
                          try simp only [Act.put, List.setIfInBounds_toArray, List.set_cons_zero, List.set_cons_succ]
                          refine' tkH 11 ⟨bx_4028.out, by_4029.out, l0_4030.out, l1_4031.out, l2_4032.out, l3_4033.out⟩ ?hyR1052 ?_
                          case hyR1052 => (rintro _ -; go_simp; try with_reducible rfl)
                          refine' tkH 12 ⟨bx_4028.out, by_4029.out, l0_4030.out, l1_4031.out, l2_4032.out, l3_4033.out⟩ ?hyR1053 ?_
                          case hyR1053 => (rintro W' ⟨hS0, hS1, hS2, hS3, hS4, hS5⟩; have hc0 := Blk.nth hS0 6; clear hS0 hS1 hS2 hS3 hS4 hS5; go_simp; try with_reducible rfl)
                          refine' tkH 13 ⟨bx_4028.out, by_4029.out, l0_4030.out, l1_4031.out, l2_4032.out, l3_4033.out⟩ ?hyR1054 ?_
                          case hyR1054 => (rintro _ -; go_simp; try with_reducible rfl)
                          refine' tkH 14 ⟨bx_4028.out, by_4029.out, l0_4030.out, l1_4031.out, l2_4032.out, l3_4033.out⟩ ?hyR1055 ?_
                          case hyR1055 => (rintro W' ⟨hS0, hS1, hS2, hS3, hS4, hS5⟩; have hc_ := (rdI_at hS2 gb_).1; clear hS0 hS1 hS2 hS3 hS4 hS5; go_simp; try with_reducible rfl)
                          try simp only [Act.put, List.setIfInBounds_toArray, List.set_cons_zero, List.set_cons_succ]
                          refine' tkH 16 ⟨bx_4028.out, by_4029.out, l0_4030.out, l1_4031.out, l2_4032.out, l3_4033.out⟩ ?hyR1056 ?_
                          case hyR1056 => (rintro _ -; go_simp; try with_reducible rfl)
                          refine' tkH 17 ⟨bx_4028.out, by_4029.out, l0_4030.out, l1_4031.out, l2_4032.out, l3_4033.out⟩ ?hyR1057 ?_
                          case hyR1057 => (rintro W' ⟨hS0, hS1, hS2, hS3, hS4, hS5⟩; have hc0 := Blk.nth hS1 1; clear hS0 hS1 hS2 hS3 hS4 hS5; go_simp; try with_reducible rfl)
                          refine' tkH 18 ⟨bx_4028.out, by_4029.out, l0_4030.out, l1_4031.out, l2_4032.out, l3_4033.out⟩ ?hyR1058 ?_
                          case hyR1058 => (rintro _ -; go_simp; try with_reducible rfl)
                          refine' tkH 19 ⟨bx_4028.out, by_4029.out, l0_4030.out, l1_4031.out, l2_4032.out, l3_4033.out⟩ ?hyR1059 ?_
                          case hyR1059 => (rintro _ -; go_simp; try with_reducible rfl)
                          try simp only [Act.put, List.setIfInBounds_toArray, List.set_cons_zero, List.set_cons_succ]
                          refine' tkH 20 ⟨bx_4028.out, by_4029.out, l0_4030.out, l1_4031.out, l2_4032.out, l3_4033.out⟩ ?hyR1060 ?_
                          case hyR1060 => (rintro _ -; go_simp; try with_reducible rfl)
                          refine' tkH 21 ⟨bx_4028.out, by_4029.out, l0_4030.out, l1_4031.out, l2_4032.out, l3_4033.out⟩ ?hyR1061 ?_
                          case hyR1061 => (rintro W' ⟨hS0, hS1, hS2, hS3, hS4, hS5⟩; have hc0 := Blk.nth hS0 9; clear hS0 hS1 hS2 hS3 hS4 hS5; go_simp; try with_reducible rfl)
                          refine' tkH 22 ⟨bx_4028.out, by_4029.out, l0_4030.out, l1_4031.out, l2_4032.out, l3_4033.out⟩ ?hyR1062 ?_
                          case hyR1062 => (rintro _ -; go_simp; try with_reducible rfl)
                          refine' tkH 23 ⟨bx_4028.out, by_4029.out, l0_4030.out, l1_4031.out, l2_4032.out, l3_4033.out⟩ ?hyR1063 ?_
                          case hyR1063 => (rintro W' ⟨hS0, hS1, hS2, hS3, hS4, hS5⟩; have hc_ := (rdI_at hS3 gc_).1; clear hS0 hS1 hS2 hS3 hS4 hS5; go_simp; try with_reducible rfl)
                          try simp only [Act.put, List.setIfInBounds_toArray, List.set_cons_zero, List.set_cons_succ]
                          refine' tkH 24 ⟨bx_4028.out, by_4029.out, l0_4030.out, l1_4031.out, l2_4032.out, l3_4033.out⟩ ?hyR1064 ?_
                          case hyR1064 => (rintro _ -; go_simp; try with_reducible rfl)
                          refine' tkH 25 ⟨bx_4028.out, by_4029.out, l0_4030.out, l1_4031.out, l2_4032.out, l3_4033.out⟩ ?hyR1065 ?_
                          case hyR1065 => (rintro W' ⟨hS0, hS1, hS2, hS3, hS4, hS5⟩; have hc0 := Blk.nth hS1 1; clear hS0 hS1 hS2 hS3 hS4 hS5; go_simp; try with_reducible rfl)
                          refine' tkH 26 ⟨bx_4028.out, by_4029.out, l0_4030.out, l1_4031.out, l2_4032.out, l3_4033.out⟩ ?hyR1066 ?_
                          case hyR1066 => (rintro _ -; go_simp; try with_reducible rfl)
                          refine' tkH 27 ⟨bx_4028.out, by_4029.out, l0_4030.out, l1_4031.out, l2_4032.out, l3_4033.out⟩ ?hyR1067 ?_
                          case hyR1067 => (rintro _ -; go_simp; try with_reducible rfl)
                          try simp only [Act.put, List.setIfInBounds_toArray, List.set_cons_zero, List.set_cons_succ]
                          refine' tkH 28 ⟨bx_4028.out, by_4029.out, l0_4030.out, l1_4031.out, l2_4032.out, l3_4033.out⟩ ?hyR1068 ?_
                          case hyR1068 => (rintro W' ⟨hS0, hS1, hS2, hS3, hS4, hS5⟩; have hc_ := (rdI_at hS3 gd_).1; clear hS0 hS1 hS2 hS3 hS4 hS5; go_simp; try with_reducible rfl)
                          refine' tkH 29 ⟨bx_4028.out, by_4029.out, l0_4030.out, l1_4031.out, l2_4032.out, l3_4033.out⟩ ?hyR1069 ?_
                          case hyR1069 => (rintro _ -; go_simp; try with_reducible rfl)
                          try simp only [Act.put, List.setIfInBounds_toArray, List.set_cons_zero, List.set_cons_succ]
                          refine wpAnyH_ready (rs := [4]) (by kernel_rfl) (by simp) ?_
                          refine rdH rfl (fun K hK => ?_) ?_
                          · -- 4: call
                           go_simp
                           go_at_call 173
                           refine (HV1.out _ (cl1_4026.out)).mono ?_
                           rintro e w1070 ⟨rfl, rfl⟩
                           dsimp only
                           refine hK.out _ _ ⟨bx_4028.out, by_4029.out, l0_4030.out, l1_4031.out, l2_4032.out, l3_4033.out⟩ (fun _ => ?_); clear hK K
                           try simp only [Act.put, List.setIfInBounds_toArray, List.set_cons_zero, List.set_cons_succ]
                           refine' tkH 5 ⟨bx_4028.out, by_4029.out, l0_4030.out, l1_4031.out, l2_4032.out, l3_4033.out⟩ ?hyR1071 ?_
                           case hyR1071 => (rintro _ -; go_simp; try with_reducible rfl)
                           refine' tkH 6 ⟨bx_4028.out, by_4029.out, l0_4030.out, l1_4031.out, l2_4032.out, l3_4033.out⟩ ?hyR1072 ?_
                           case hyR1072 => (rintro W' ⟨hS0, hS1, hS2, hS3, hS4, hS5⟩; have hc_ := (rdI_at hS2 ga_).1; clear hS0 hS1 hS2 hS3 hS4 hS5; go_simp; try with_reducible rfl)
                           refine' tkH 15 ⟨bx_4028.out, by_4029.out, l0_4030.out, l1_4031.out, l2_4032.out, l3_4033.out⟩ ?hyR1073 ?_
                           case hyR1073 => (rintro _ -; go_simp; try with_reducible rfl)
                           refine' tkH 30 ⟨bx_4028.out, by_4029.out, l0_4030.out, l1_4031.out, l2_4032.out, l3_4033.out⟩ ?hyR1074 ?_
                           case hyR1074 => (rintro _ -; go_simp; try with_reducible rfl)
                           try simp only [Act.put, List.setIfInBounds_toArray, List.set_cons_zero, List.set_cons_succ]
                           refine' tkH 31 ⟨bx_4028.out, by_4029.out, l0_4030.out, l1_4031.out, l2_4032.out, l3_4033.out⟩ ?hyR1075 ?_
                           case hyR1075 => (rintro _ -; go_simp; try with_reducible rfl)
                           refine' tkH 32 ⟨bx_4028.out, by_4029.out, l0_4030.out, l1_4031.out, l2_4032.out, l3_4033.out⟩ ?hyR1076 ?_
                           case hyR1076 => (rintro _ -; go_simp; try with_reducible rfl)
                           refine' tkH 33 ⟨bx_4028.out, by_4029.out, l0_4030.out, l1_4031.out, l2_4032.out, l3_4033.out⟩ ?hyR1077 ?_
                           case hyR1077 => (rintro W' ⟨hS0, hS1, hS2, hS3, hS4, hS5⟩; have hc0 := Blk.nth hS1 2; clear hS0 hS1 hS2 hS3 hS4 hS5; go_simp; try with_reducible rfl)
                           refine' tkH 34 ⟨bx_4028.out, by_4029.out, l0_4030.out, l1_4031.out, l2_4032.out, l3_4033.out⟩ ?hyR1078 ?_
                           case hyR1078 => (rintro _ -; go_simp; try with_reducible rfl)
                           try simp only [Act.put, List.setIfInBounds_toArray, List.set_cons_zero, List.set_cons_succ]
                           refine' tkH 35 ⟨bx_4028.out, by_4029.out, l0_4030.out, l1_4031.out, l2_4032.out, l3_4033.out⟩ ?hyR1079 ?_
                           case hyR1079 => (rintro _ -; go_simp; try with_reducible rfl)
                           refine' tkH 39 ⟨bx_4028.out, by_4029.out, l0_4030.out, l1_4031.out, l2_4032.out, l3_4033.out⟩ ?hyR1080 ?_
                           case hyR1080 => (rintro _ -; go_simp; try with_reducible rfl)
                           refine' tkH 40 ⟨bx_4028.out, by_4029.out, l0_4030.out, l1_4031.out, l2_4032.out, l3_4033.out⟩ ?hyR1081 ?_
                           case hyR1081 => (rintro W' ⟨hS0, hS1, hS2, hS3, hS4, hS5⟩; have hc0 := Blk.nth hS1 2; clear hS0 hS1 hS2 hS3 hS4 hS5; go_simp; try with_reducible rfl)
                           refine' tkH 41 ⟨bx_4028.out, by_4029.out, l0_4030.out, l1_4031.out, l2_4032.out, l3_4033.out⟩ ?hyR1082 ?_
                           case hyR1082 => (rintro _ -; go_simp; try with_reducible rfl)
                           try simp only [Act.put, List.setIfInBounds_toArray, List.set_cons_zero, List.set_cons_succ]
                           refine' tkH 42 ⟨bx_4028.out, by_4029.out, l0_4030.out, l1_4031.out, l2_4032.out, l3_4033.out⟩ ?hyR1083 ?_
                           case hyR1083 => (rintro _ -; go_simp; try with_reducible rfl)
                           refine' tkH 43 ⟨bx_4028.out, by_4029.out, l0_4030.out, l1_4031.out, l2_4032.out, l3_4033.out⟩ ?hyR1084 ?_
                           case hyR1084 => (rintro _ -; go_simp; try with_reducible rfl)
                           refine' tkH 44 ⟨bx_4028.out, by_4029.out, l0_4030.out, l1_4031.out, l2_4032.out, l3_4033.out⟩ ?hyR1085 ?_
                           case hyR1085 => (rintro W' ⟨hS0, hS1, hS2, hS3, hS4, hS5⟩; have hc0 := Blk.nth hS0 6; clear hS0 hS1 hS2 hS3 hS4 hS5; go_simp; try with_reducible rfl)
                           refine' tkH 45 ⟨bx_4028.out, by_4029.out, l0_4030.out, l1_4031.out, l2_4032.out, l3_4033.out⟩ ?hyR1086 ?_
                           case hyR1086 => (rintro _ -; go_simp; try with_reducible rfl)
                           try simp only [Act.put, List.setIfInBounds_toArray, List.set_cons_zero, List.set_cons_succ]
                           refine' tkH 46 ⟨bx_4028.out, by_4029.out, l0_4030.out, l1_4031.out, l2_4032.out, l3_4033.out⟩ ?hyR1087 ?_
                           case hyR1087 => (rintro W' ⟨hS0, hS1, hS2, hS3, hS4, hS5⟩; have hc_ := (rdI_at hS4 gf_).1; clear hS0 hS1 hS2 hS3 hS4 hS5; go_simp; try with_reducible rfl)
                           refine' tkH 48 ⟨bx_4028.out, by_4029.out, l0_4030.out, l1_4031.out, l2_4032.out, l3_4033.out⟩ ?hyR1088 ?_
                           case hyR1088 => (rintro _ -; go_simp; try with_reducible rfl)
                           refine' tkH 49 ⟨bx_4028.out, by_4029.out, l0_4030.out, l1_4031.out, l2_4032.out, l3_4033.out⟩ ?hyR1089 ?_
                           case hyR1089 => (rintro W' ⟨hS0, hS1, hS2, hS3, hS4, hS5⟩; have hc0 := Blk.nth hS1 3; clear hS0 hS1 hS2 hS3 hS4 hS5; go_simp; try with_reducible rfl)
                           refine' tkH 50 ⟨bx_4028.out, by_4029.out, l0_4030.out, l1_4031.out, l2_4032.out, l3_4033.out⟩ ?hyR1090 ?_
                           case hyR1090 => (rintro _ -; go_simp; try with_reducible rfl)
                           try simp only [Act.put, List.setIfInBounds_toArray, List.set_cons_zero, List.set_cons_succ]
                           refine' tkH 51 ⟨bx_4028.out, by_4029.out, l0_4030.out, l1_4031.out, l2_4032.out, l3_4033.out⟩ ?hyR1091 ?_
                           case hyR1091 => (rintro _ -; go_simp; try with_reducible rfl)
                           refine' tkH 52 ⟨bx_4028.out, by_4029.out, l0_4030.out, l1_4031.out, l2_4032.out, l3_4033.out⟩ ?hyR1092 ?_
                           case hyR1092 => (rintro W' ⟨hS0, hS1, hS2, hS3, hS4, hS5⟩; have hc_ := (rdI_at hS5 gg_).1; clear hS0 hS1 hS2 hS3 hS4 hS5; go_simp; try with_reducible rfl)
                           refine' tkH 53 ⟨bx_4028.out, by_4029.out, l0_4030.out, l1_4031.out, l2_4032.out, l3_4033.out⟩ ?hyR1093 ?_
                           case hyR1093 => (rintro _ -; go_simp; try with_reducible rfl)
                           refine' tkH 54 ⟨bx_4028.out, by_4029.out, l0_4030.out, l1_4031.out, l2_4032.out, l3_4033.out⟩ ?hyR1094 ?_
                           case hyR1094 => (rintro W' ⟨hS0, hS1, hS2, hS3, hS4, hS5⟩; have hc0 := Blk.nth hS1 3; clear hS0 hS1 hS2 hS3 hS4 hS5; go_simp; try with_reducible rfl)
                           try simp only [Act.put, List.setIfInBounds_toArray, List.set_cons_zero, List.set_cons_succ]
                           refine' tkH 55 ⟨bx_4028.out, by_4029.out, l0_4030.out, l1_4031.out, l2_4032.out, l3_4033.out⟩ ?hyR1095 ?_
                           case hyR1095 => (rintro _ -; go_simp; try with_reducible rfl)
                           refine' tkH 56 ⟨bx_4028.out, by_4029.out, l0_4030.out, l1_4031.out, l2_4032.out, l3_4033.out⟩ ?hyR1096 ?_
                           case hyR1096 => (rintro _ -; go_simp; try with_reducible rfl)
                           refine' tkH 57 ⟨bx_4028.out, by_4029.out, l0_4030.out, l1_4031.out, l2_4032.out, l3_4033.out⟩ ?hyR1097 ?_
                           case hyR1097 => (rintro _ -; go_simp; try with_reducible rfl)
                           refine' tkH 58 ⟨bx_4028.out, by_4029.out, l0_4030.out, l1_4031.out, l2_4032.out, l3_4033.out⟩ ?hyR1098 ?_
                           case hyR1098 => (rintro W' ⟨hS0, hS1, hS2, hS3, hS4, hS5⟩; have hc0 := Blk.nth hS0 9; clear hS0 hS1 hS2 hS3 hS4 hS5; go_simp; try with_reducible rfl)
                           try simp only [Act.put, List.setIfInBounds_toArray, List.set_cons_zero, List.set_cons_succ]
                           refine' tkH 59 ⟨bx_4028.out, by_4029.out, l0_4030.out, l1_4031.out, l2_4032.out, l3_4033.out⟩ ?hyR1099 ?_
                           case hyR1099 => (rintro _ -; go_simp; try with_reducible rfl)
                           refine' tkH 60 ⟨bx_4028.out, by_4029.out, l0_4030.out, l1_4031.out, l2_4032.out, l3_4033.out⟩ ?hyR1100 ?_
                           case hyR1100 => (rintro _ -; go_simp; try with_reducible rfl)
                           refine' tkH 61 ⟨bx_4028.out, by_4029.out, l0_4030.out, l1_4031.out, l2_4032.out, l3_4033.out⟩ ?hyR1101 ?_
                           case hyR1101 => (rintro W' ⟨hS0, hS1, hS2, hS3, hS4, hS5⟩; have hc_ := (rdI_at hS5 gh_).1; clear hS0 hS1 hS2 hS3 hS4 hS5; go_simp; try with_reducible rfl)
                           refine' tkH 62 ⟨bx_4028.out, by_4029.out, l0_4030.out, l1_4031.out, l2_4032.out, l3_4033.out⟩ ?hyR1102 ?_
                           case hyR1102 => (rintro _ -; go_simp; try with_reducible rfl)
                           try simp only [Act.put, List.setIfInBounds_toArray, List.set_cons_zero, List.set_cons_succ]
                           refine wpAnyH_ready (rs := [36]) (by kernel_rfl) (by simp) ?_
                           refine rdH rfl (fun K hK => ?_) ?_
                           · -- 36: call
                            go_simp
                            go_at_call 173
                            refine (HV2.out _ (cl2_4027.out)).mono ?_
                            rintro e w1103 ⟨rfl, rfl⟩
                            dsimp only
                            refine hK.out _ _ ⟨bx_4028.out, by_4029.out, l0_4030.out, l1_4031.out, l2_4032.out, l3_4033.out⟩ (fun _ => ?_); clear hK K
                            try simp only [Act.put, List.setIfInBounds_toArray, List.set_cons_zero, List.set_cons_succ]
                            refine' tkH 37 ⟨bx_4028.out, by_4029.out, l0_4030.out, l1_4031.out, l2_4032.out, l3_4033.out⟩ ?hyR1104 ?_
                            case hyR1104 => (rintro _ -; go_simp; try with_reducible rfl)
                            refine' tkH 38 ⟨bx_4028.out, by_4029.out, l0_4030.out, l1_4031.out, l2_4032.out, l3_4033.out⟩ ?hyR1105 ?_
                            case hyR1105 => (rintro W' ⟨hS0, hS1, hS2, hS3, hS4, hS5⟩; have hc_ := (rdI_at hS4 ge_).1; clear hS0 hS1 hS2 hS3 hS4 hS5; go_simp; try with_reducible rfl)
                            refine' tkH 47 ⟨bx_4028.out, by_4029.out, l0_4030.out, l1_4031.out, l2_4032.out, l3_4033.out⟩ ?hyR1106 ?_
                            case hyR1106 => (rintro _ -; go_simp; try with_reducible rfl)
                            refine' tkH 63 ⟨bx_4028.out, by_4029.out, l0_4030.out, l1_4031.out, l2_4032.out, l3_4033.out⟩ ?hyR1107 ?_
                            case hyR1107 => (rintro _ -; go_simp; try with_reducible rfl)
                            try simp only [Act.put, List.setIfInBounds_toArray, List.set_cons_zero, List.set_cons_succ]
                            refine' tkH 64 ⟨bx_4028.out, by_4029.out, l0_4030.out, l1_4031.out, l2_4032.out, l3_4033.out⟩ ?hyR1108 ?_
                            case hyR1108 => (rintro _ -; go_simp; try with_reducible rfl)
                            try simp only [Act.put, List.setIfInBounds_toArray, List.set_cons_zero, List.set_cons_succ]
                            refine wpAnyH_done (by kernel_rfl) ?_ _
                            go_wp2
                            go_roundw
                            all_goals have hrq := HRQ.out
                            case rel => exact ⟨q + 1, r + 1, by omega, by omega, by go_num, by rw [ties_succ, HTI.out, HTW.out, HTT.out, hd1, hd2]; rfl, cl1_4026.out, cl2_4027.out, bx_4028.out, by_4029.out, l0_4030.out, l1_4031.out, l2_4032.out, l3_4033.out, bel_4034.out⟩
                            case measure => simp [intOf]; omega
                           exact AllReadyH.nil
                          exact AllReadyH.nil
                        · have hb2 : (ze - zf != zg - zh) = true := by simpa using h2
                          have hd2 : decide (ze - zf = zg - zh) = false := decide_eq_false h2
                          clear h2
                          obtain ⟨z_6035, z_6036, z_6037, z_6038, z_6039, z_6040, z_6041, z_6042, z_6043, z_6044⟩ := at10 bx_4028
                          obtain ⟨z_6045, z_6046, z_6047, z_6048⟩ := at4 by_4029
                          go_wp2_with fail
                          clear z_6035 z_6036 z_6037 z_6038 z_6039 z_6040 z_6041 z_6042 z_6043 z_6044 z_6045 z_6046 z_6047 z_6048
                          replace cl1_4026 := Lib.hid (Cl.drew (cl1_4026.out))
                          replace cl2_4027 := Lib.hid (Cl.drew (cl2_4027.out))
                          replace bx_4028 := kD bx_4028
                          replace by_4029 := kD by_4029
                          replace l0_4030 := iD l0_4030
                          replace l1_4031 := iD l1_4031
                          replace l2_4032 := iD l2_4032
                          replace l3_4033 := iD l3_4033
                          replace bel_4034 := bD bel_4034
                          refine wp_region_held_drew (S := (fun W' => Blk W' (w.heap.size) 101 #[.int .i64 c, .slice A n k, .slice B m j, .int .i64 d, .slice C n2 k2, .slice D m2 j2, .int .i64 p1, .int .i64 p2, .int .i64 p3, .int .i64 p4] ∧ Blk W' (w.heap.size + 1) 54 #[.slice (some ⟨ab0, ao0, none⟩) x1 k1, .slice (some ⟨ab1, ao1, none⟩) x2 k2x, .slice (some ⟨ab2, ao2, none⟩) x3 k3, .slice (some ⟨ab3, ao3, none⟩) x4 k4] ∧ RdI W' (some ⟨ab0, ao0, none⟩) x1 k1 xa ∧ RdI W' (some ⟨ab1, ao1, none⟩) x2 k2x xb ∧ RdI W' (some ⟨ab2, ao2, none⟩) x3 k3 ya ∧ RdI W' (some ⟨ab3, ao3, none⟩) x4 k4 yb)) (by kernel_rfl) ⟨bx_4028.out, by_4029.out, l0_4030.out, l1_4031.out, l2_4032.out, l3_4033.out⟩ (fun _ => ?_)
                          obtain ⟨w1109, hw1110⟩ : ∃ w', w' = (wr.drew) := ⟨_, rfl⟩
                          rw [← hw1110] at cl1_4026 cl2_4027 bx_4028 by_4029 l0_4030 l1_4031 l2_4032 l3_4033 bel_4034
                          rw [← hw1110]
                          clear hw1110
                          refine' tkH 0 ⟨bx_4028.out, by_4029.out, l0_4030.out, l1_4031.out, l2_4032.out, l3_4033.out⟩ ?hyR1111 ?_
                          case hyR1111 => (rintro _ -; go_simp; try with_reducible rfl)
                          refine' tkH 1 ⟨bx_4028.out, by_4029.out, l0_4030.out, l1_4031.out, l2_4032.out, l3_4033.out⟩ ?hyR1112 ?_
                          case hyR1112 => (rintro W' ⟨hS0, hS1, hS2, hS3, hS4, hS5⟩; have hc0 := Blk.nth hS1 0; clear hS0 hS1 hS2 hS3 hS4 hS5; go_simp; try with_reducible rfl)
                          refine' tkH 2 ⟨bx_4028.out, by_4029.out, l0_4030.out, l1_4031.out, l2_4032.out, l3_4033.out⟩ ?hyR1113 ?_
                          case hyR1113 => (rintro _ -; go_simp; try with_reducible rfl)
                          refine' tkH 3 ⟨bx_4028.out, by_4029.out, l0_4030.out, l1_4031.out, l2_4032.out, l3_4033.out⟩ ?hyR1114 ?_
                          case hyR1114 => (rintro _ -; go_simp; try with_reducible rfl)
                          try simp only [Act.put, List.setIfInBounds_toArray, List.set_cons_zero, List.set_cons_succ]
                          refine' tkH 7 ⟨bx_4028.out, by_4029.out, l0_4030.out, l1_4031.out, l2_4032.out, l3_4033.out⟩ ?hyR1115 ?_
                          case hyR1115 => (rintro _ -; go_simp; try with_reducible rfl)
                          refine' tkH 8 ⟨bx_4028.out, by_4029.out, l0_4030.out, l1_4031.out, l2_4032.out, l3_4033.out⟩ ?hyR1116 ?_
                          case hyR1116 => (rintro W' ⟨hS0, hS1, hS2, hS3, hS4, hS5⟩; have hc0 := Blk.nth hS1 0; clear hS0 hS1 hS2 hS3 hS4 hS5; go_simp; try with_reducible rfl)
                          refine' tkH 9 ⟨bx_4028.out, by_4029.out, l0_4030.out, l1_4031.out, l2_4032.out, l3_4033.out⟩ ?hyR1117 ?_
                          case hyR1117 => (rintro _ -; go_simp; try with_reducible rfl)
                          refine' tkH 10 ⟨bx_4028.out, by_4029.out, l0_4030.out, l1_4031.out, l2_4032.out, l3_4033.out⟩ ?hyR1118 ?_
                          case hyR1118 => (rintro _ -; go_simp; try with_reducible rfl)
                          try simp only [Act.put, List.setIfInBounds_toArray, List.set_cons_zero, List.set_cons_succ]
                          refine' tkH 11 ⟨bx_4028.out, by_4029.out, l0_4030.out, l1_4031.out, l2_4032.out, l3_4033.out⟩ ?hyR1119 ?_
                          case hyR1119 => (rintro _ -; go_simp; try with_reducible rfl)
                          refine' tkH 12 ⟨bx_4028.out, by_4029.out, l0_4030.out, l1_4031.out, l2_4032.out, l3_4033.out⟩ ?hyR1120 ?_
                          case hyR1120 => (rintro W' ⟨hS0, hS1, hS2, hS3, hS4, hS5⟩; have hc0 := Blk.nth hS0 6; clear hS0 hS1 hS2 hS3 hS4 hS5; go_simp; try with_reducible rfl)
                          refine' tkH 13 ⟨bx_4028.out, by_4029.out, l0_4030.out, l1_4031.out, l2_4032.out, l3_4033.out⟩ ?hyR1121 ?_
                          case hyR1121 => (rintro _ -; go_simp; try with_reducible rfl)
                          refine' tkH 14 ⟨bx_4028.out, by_4029.out, l0_4030.out, l1_4031.out, l2_4032.out, l3_4033.out⟩ ?hyR1122 ?_
                          case hyR1122 => (rintro W' ⟨hS0, hS1, hS2, hS3, hS4, hS5⟩; have hc_ := (rdI_at hS2 gb_).1; clear hS0 hS1 hS2 hS3 hS4 hS5; go_simp; try with_reducible rfl)
                          try simp only [Act.put, List.setIfInBounds_toArray, List.set_cons_zero, List.set_cons_succ]
                          refine' tkH 16 ⟨bx_4028.out, by_4029.out, l0_4030.out, l1_4031.out, l2_4032.out, l3_4033.out⟩ ?hyR1123 ?_
                          case hyR1123 => (rintro _ -; go_simp; try with_reducible rfl)
                          refine' tkH 17 ⟨bx_4028.out, by_4029.out, l0_4030.out, l1_4031.out, l2_4032.out, l3_4033.out⟩ ?hyR1124 ?_
                          case hyR1124 => (rintro W' ⟨hS0, hS1, hS2, hS3, hS4, hS5⟩; have hc0 := Blk.nth hS1 1; clear hS0 hS1 hS2 hS3 hS4 hS5; go_simp; try with_reducible rfl)
                          refine' tkH 18 ⟨bx_4028.out, by_4029.out, l0_4030.out, l1_4031.out, l2_4032.out, l3_4033.out⟩ ?hyR1125 ?_
                          case hyR1125 => (rintro _ -; go_simp; try with_reducible rfl)
                          refine' tkH 19 ⟨bx_4028.out, by_4029.out, l0_4030.out, l1_4031.out, l2_4032.out, l3_4033.out⟩ ?hyR1126 ?_
                          case hyR1126 => (rintro _ -; go_simp; try with_reducible rfl)
                          try simp only [Act.put, List.setIfInBounds_toArray, List.set_cons_zero, List.set_cons_succ]
                          refine' tkH 20 ⟨bx_4028.out, by_4029.out, l0_4030.out, l1_4031.out, l2_4032.out, l3_4033.out⟩ ?hyR1127 ?_
                          case hyR1127 => (rintro _ -; go_simp; try with_reducible rfl)
                          refine' tkH 21 ⟨bx_4028.out, by_4029.out, l0_4030.out, l1_4031.out, l2_4032.out, l3_4033.out⟩ ?hyR1128 ?_
                          case hyR1128 => (rintro W' ⟨hS0, hS1, hS2, hS3, hS4, hS5⟩; have hc0 := Blk.nth hS0 9; clear hS0 hS1 hS2 hS3 hS4 hS5; go_simp; try with_reducible rfl)
                          refine' tkH 22 ⟨bx_4028.out, by_4029.out, l0_4030.out, l1_4031.out, l2_4032.out, l3_4033.out⟩ ?hyR1129 ?_
                          case hyR1129 => (rintro _ -; go_simp; try with_reducible rfl)
                          refine' tkH 23 ⟨bx_4028.out, by_4029.out, l0_4030.out, l1_4031.out, l2_4032.out, l3_4033.out⟩ ?hyR1130 ?_
                          case hyR1130 => (rintro W' ⟨hS0, hS1, hS2, hS3, hS4, hS5⟩; have hc_ := (rdI_at hS3 gc_).1; clear hS0 hS1 hS2 hS3 hS4 hS5; go_simp; try with_reducible rfl)
                          try simp only [Act.put, List.setIfInBounds_toArray, List.set_cons_zero, List.set_cons_succ]
                          refine' tkH 24 ⟨bx_4028.out, by_4029.out, l0_4030.out, l1_4031.out, l2_4032.out, l3_4033.out⟩ ?hyR1131 ?_
                          case hyR1131 => (rintro _ -; go_simp; try with_reducible rfl)
                          refine' tkH 25 ⟨bx_4028.out, by_4029.out, l0_4030.out, l1_4031.out, l2_4032.out, l3_4033.out⟩ ?hyR1132 ?_
                          case hyR1132 => (rintro W' ⟨hS0, hS1, hS2, hS3, hS4, hS5⟩; have hc0 := Blk.nth hS1 1; clear hS0 hS1 hS2 hS3 hS4 hS5; go_simp; try with_reducible rfl)
                          refine' tkH 26 ⟨bx_4028.out, by_4029.out, l0_4030.out, l1_4031.out, l2_4032.out, l3_4033.out⟩ ?hyR1133 ?_
                          case hyR1133 => (rintro _ -; go_simp; try with_reducible rfl)
                          refine' tkH 27 ⟨bx_4028.out, by_4029.out, l0_4030.out, l1_4031.out, l2_4032.out, l3_4033.out⟩ ?hyR1134 ?_
                          case hyR1134 => (rintro _ -; go_simp; try with_reducible rfl)
                          try simp only [Act.put, List.setIfInBounds_toArray, List.set_cons_zero, List.set_cons_succ]
                          refine' tkH 28 ⟨bx_4028.out, by_4029.out, l0_4030.out, l1_4031.out, l2_4032.out, l3_4033.out⟩ ?hyR1135 ?_
                          case hyR1135 => (rintro W' ⟨hS0, hS1, hS2, hS3, hS4, hS5⟩; have hc_ := (rdI_at hS3 gd_).1; clear hS0 hS1 hS2 hS3 hS4 hS5; go_simp; try with_reducible rfl)
                          refine' tkH 29 ⟨bx_4028.out, by_4029.out, l0_4030.out, l1_4031.out, l2_4032.out, l3_4033.out⟩ ?hyR1136 ?_
                          case hyR1136 => (rintro _ -; go_simp; try with_reducible rfl)
                          try simp only [Act.put, List.setIfInBounds_toArray, List.set_cons_zero, List.set_cons_succ]
                          refine wpAnyH_ready (rs := [4]) (by kernel_rfl) (by simp) ?_
                          refine rdH rfl (fun K hK => ?_) ?_
                          · -- 4: call
                           go_simp
                           go_at_call 173
                           refine (HV1.out _ (cl1_4026.out)).mono ?_
                           rintro e w1137 ⟨rfl, rfl⟩
                           dsimp only
                           refine hK.out _ _ ⟨bx_4028.out, by_4029.out, l0_4030.out, l1_4031.out, l2_4032.out, l3_4033.out⟩ (fun _ => ?_); clear hK K
                           try simp only [Act.put, List.setIfInBounds_toArray, List.set_cons_zero, List.set_cons_succ]
                           refine' tkH 5 ⟨bx_4028.out, by_4029.out, l0_4030.out, l1_4031.out, l2_4032.out, l3_4033.out⟩ ?hyR1138 ?_
                           case hyR1138 => (rintro _ -; go_simp; try with_reducible rfl)
                           refine' tkH 6 ⟨bx_4028.out, by_4029.out, l0_4030.out, l1_4031.out, l2_4032.out, l3_4033.out⟩ ?hyR1139 ?_
                           case hyR1139 => (rintro W' ⟨hS0, hS1, hS2, hS3, hS4, hS5⟩; have hc_ := (rdI_at hS2 ga_).1; clear hS0 hS1 hS2 hS3 hS4 hS5; go_simp; try with_reducible rfl)
                           refine' tkH 15 ⟨bx_4028.out, by_4029.out, l0_4030.out, l1_4031.out, l2_4032.out, l3_4033.out⟩ ?hyR1140 ?_
                           case hyR1140 => (rintro _ -; go_simp; try with_reducible rfl)
                           refine' tkH 30 ⟨bx_4028.out, by_4029.out, l0_4030.out, l1_4031.out, l2_4032.out, l3_4033.out⟩ ?hyR1141 ?_
                           case hyR1141 => (rintro _ -; go_simp; try with_reducible rfl)
                           try simp only [Act.put, List.setIfInBounds_toArray, List.set_cons_zero, List.set_cons_succ]
                           refine' tkH 31 ⟨bx_4028.out, by_4029.out, l0_4030.out, l1_4031.out, l2_4032.out, l3_4033.out⟩ ?hyR1142 ?_
                           case hyR1142 => (rintro _ -; go_simp; try with_reducible rfl)
                           refine' tkH 32 ⟨bx_4028.out, by_4029.out, l0_4030.out, l1_4031.out, l2_4032.out, l3_4033.out⟩ ?hyR1143 ?_
                           case hyR1143 => (rintro _ -; go_simp; try with_reducible rfl)
                           refine' tkH 33 ⟨bx_4028.out, by_4029.out, l0_4030.out, l1_4031.out, l2_4032.out, l3_4033.out⟩ ?hyR1144 ?_
                           case hyR1144 => (rintro W' ⟨hS0, hS1, hS2, hS3, hS4, hS5⟩; have hc0 := Blk.nth hS1 2; clear hS0 hS1 hS2 hS3 hS4 hS5; go_simp; try with_reducible rfl)
                           refine' tkH 34 ⟨bx_4028.out, by_4029.out, l0_4030.out, l1_4031.out, l2_4032.out, l3_4033.out⟩ ?hyR1145 ?_
                           case hyR1145 => (rintro _ -; go_simp; try with_reducible rfl)
                           try simp only [Act.put, List.setIfInBounds_toArray, List.set_cons_zero, List.set_cons_succ]
                           refine' tkH 35 ⟨bx_4028.out, by_4029.out, l0_4030.out, l1_4031.out, l2_4032.out, l3_4033.out⟩ ?hyR1146 ?_
                           case hyR1146 => (rintro _ -; go_simp; try with_reducible rfl)
                           refine' tkH 39 ⟨bx_4028.out, by_4029.out, l0_4030.out, l1_4031.out, l2_4032.out, l3_4033.out⟩ ?hyR1147 ?_
                           case hyR1147 => (rintro _ -; go_simp; try with_reducible rfl)
                           refine' tkH 40 ⟨bx_4028.out, by_4029.out, l0_4030.out, l1_4031.out, l2_4032.out, l3_4033.out⟩ ?hyR1148 ?_
                           case hyR1148 => (rintro W' ⟨hS0, hS1, hS2, hS3, hS4, hS5⟩; have hc0 := Blk.nth hS1 2; clear hS0 hS1 hS2 hS3 hS4 hS5; go_simp; try with_reducible rfl)
                           refine' tkH 41 ⟨bx_4028.out, by_4029.out, l0_4030.out, l1_4031.out, l2_4032.out, l3_4033.out⟩ ?hyR1149 ?_
                           case hyR1149 => (rintro _ -; go_simp; try with_reducible rfl)
                           try simp only [Act.put, List.setIfInBounds_toArray, List.set_cons_zero, List.set_cons_succ]
                           refine' tkH 42 ⟨bx_4028.out, by_4029.out, l0_4030.out, l1_4031.out, l2_4032.out, l3_4033.out⟩ ?hyR1150 ?_
                           case hyR1150 => (rintro _ -; go_simp; try with_reducible rfl)
                           refine' tkH 43 ⟨bx_4028.out, by_4029.out, l0_4030.out, l1_4031.out, l2_4032.out, l3_4033.out⟩ ?hyR1151 ?_
                           case hyR1151 => (rintro _ -; go_simp; try with_reducible rfl)
                           refine' tkH 44 ⟨bx_4028.out, by_4029.out, l0_4030.out, l1_4031.out, l2_4032.out, l3_4033.out⟩ ?hyR1152 ?_
                           case hyR1152 => (rintro W' ⟨hS0, hS1, hS2, hS3, hS4, hS5⟩; have hc0 := Blk.nth hS0 6; clear hS0 hS1 hS2 hS3 hS4 hS5; go_simp; try with_reducible rfl)
                           refine' tkH 45 ⟨bx_4028.out, by_4029.out, l0_4030.out, l1_4031.out, l2_4032.out, l3_4033.out⟩ ?hyR1153 ?_
                           case hyR1153 => (rintro _ -; go_simp; try with_reducible rfl)
                           try simp only [Act.put, List.setIfInBounds_toArray, List.set_cons_zero, List.set_cons_succ]
                           refine' tkH 46 ⟨bx_4028.out, by_4029.out, l0_4030.out, l1_4031.out, l2_4032.out, l3_4033.out⟩ ?hyR1154 ?_
                           case hyR1154 => (rintro W' ⟨hS0, hS1, hS2, hS3, hS4, hS5⟩; have hc_ := (rdI_at hS4 gf_).1; clear hS0 hS1 hS2 hS3 hS4 hS5; go_simp; try with_reducible rfl)
                           refine' tkH 48 ⟨bx_4028.out, by_4029.out, l0_4030.out, l1_4031.out, l2_4032.out, l3_4033.out⟩ ?hyR1155 ?_
                           case hyR1155 => (rintro _ -; go_simp; try with_reducible rfl)
                           refine' tkH 49 ⟨bx_4028.out, by_4029.out, l0_4030.out, l1_4031.out, l2_4032.out, l3_4033.out⟩ ?hyR1156 ?_
                           case hyR1156 => (rintro W' ⟨hS0, hS1, hS2, hS3, hS4, hS5⟩; have hc0 := Blk.nth hS1 3; clear hS0 hS1 hS2 hS3 hS4 hS5; go_simp; try with_reducible rfl)
                           refine' tkH 50 ⟨bx_4028.out, by_4029.out, l0_4030.out, l1_4031.out, l2_4032.out, l3_4033.out⟩ ?hyR1157 ?_
                           case hyR1157 => (rintro _ -; go_simp; try with_reducible rfl)
                           try simp only [Act.put, List.setIfInBounds_toArray, List.set_cons_zero, List.set_cons_succ]
                           refine' tkH 51 ⟨bx_4028.out, by_4029.out, l0_4030.out, l1_4031.out, l2_4032.out, l3_4033.out⟩ ?hyR1158 ?_
                           case hyR1158 => (rintro _ -; go_simp; try with_reducible rfl)
                           refine' tkH 52 ⟨bx_4028.out, by_4029.out, l0_4030.out, l1_4031.out, l2_4032.out, l3_4033.out⟩ ?hyR1159 ?_
                           case hyR1159 => (rintro W' ⟨hS0, hS1, hS2, hS3, hS4, hS5⟩; have hc_ := (rdI_at hS5 gg_).1; clear hS0 hS1 hS2 hS3 hS4 hS5; go_simp; try with_reducible rfl)
                           refine' tkH 53 ⟨bx_4028.out, by_4029.out, l0_4030.out, l1_4031.out, l2_4032.out, l3_4033.out⟩ ?hyR1160 ?_
                           case hyR1160 => (rintro _ -; go_simp; try with_reducible rfl)
                           refine' tkH 54 ⟨bx_4028.out, by_4029.out, l0_4030.out, l1_4031.out, l2_4032.out, l3_4033.out⟩ ?hyR1161 ?_
                           case hyR1161 => (rintro W' ⟨hS0, hS1, hS2, hS3, hS4, hS5⟩; have hc0 := Blk.nth hS1 3; clear hS0 hS1 hS2 hS3 hS4 hS5; go_simp; try with_reducible rfl)
                           try simp only [Act.put, List.setIfInBounds_toArray, List.set_cons_zero, List.set_cons_succ]
                           refine' tkH 55 ⟨bx_4028.out, by_4029.out, l0_4030.out, l1_4031.out, l2_4032.out, l3_4033.out⟩ ?hyR1162 ?_
                           case hyR1162 => (rintro _ -; go_simp; try with_reducible rfl)
                           refine' tkH 56 ⟨bx_4028.out, by_4029.out, l0_4030.out, l1_4031.out, l2_4032.out, l3_4033.out⟩ ?hyR1163 ?_
                           case hyR1163 => (rintro _ -; go_simp; try with_reducible rfl)
                           refine' tkH 57 ⟨bx_4028.out, by_4029.out, l0_4030.out, l1_4031.out, l2_4032.out, l3_4033.out⟩ ?hyR1164 ?_
                           case hyR1164 => (rintro _ -; go_simp; try with_reducible rfl)
                           refine' tkH 58 ⟨bx_4028.out, by_4029.out, l0_4030.out, l1_4031.out, l2_4032.out, l3_4033.out⟩ ?hyR1165 ?_
                           case hyR1165 => (rintro W' ⟨hS0, hS1, hS2, hS3, hS4, hS5⟩; have hc0 := Blk.nth hS0 9; clear hS0 hS1 hS2 hS3 hS4 hS5; go_simp; try with_reducible rfl)
                           try simp only [Act.put, List.setIfInBounds_toArray, List.set_cons_zero, List.set_cons_succ]
                           refine' tkH 59 ⟨bx_4028.out, by_4029.out, l0_4030.out, l1_4031.out, l2_4032.out, l3_4033.out⟩ ?hyR1166 ?_
                           case hyR1166 => (rintro _ -; go_simp; try with_reducible rfl)
                           refine' tkH 60 ⟨bx_4028.out, by_4029.out, l0_4030.out, l1_4031.out, l2_4032.out, l3_4033.out⟩ ?hyR1167 ?_
                           case hyR1167 => (rintro _ -; go_simp; try with_reducible rfl)
                           refine' tkH 61 ⟨bx_4028.out, by_4029.out, l0_4030.out, l1_4031.out, l2_4032.out, l3_4033.out⟩ ?hyR1168 ?_
                           case hyR1168 => (rintro W' ⟨hS0, hS1, hS2, hS3, hS4, hS5⟩; have hc_ := (rdI_at hS5 gh_).1; clear hS0 hS1 hS2 hS3 hS4 hS5; go_simp; try with_reducible rfl)
                           refine' tkH 62 ⟨bx_4028.out, by_4029.out, l0_4030.out, l1_4031.out, l2_4032.out, l3_4033.out⟩ ?hyR1169 ?_
                           case hyR1169 => (rintro _ -; go_simp; try with_reducible rfl)
                           try simp only [Act.put, List.setIfInBounds_toArray, List.set_cons_zero, List.set_cons_succ]
                           refine wpAnyH_ready (rs := [36]) (by kernel_rfl) (by simp) ?_
                           refine rdH rfl (fun K hK => ?_) ?_
                           · -- 36: call
                            go_simp
                            go_at_call 173
                            refine (HV2.out _ (cl2_4027.out)).mono ?_
                            rintro e w1170 ⟨rfl, rfl⟩
                            dsimp only
                            refine hK.out _ _ ⟨bx_4028.out, by_4029.out, l0_4030.out, l1_4031.out, l2_4032.out, l3_4033.out⟩ (fun _ => ?_); clear hK K
                            try simp only [Act.put, List.setIfInBounds_toArray, List.set_cons_zero, List.set_cons_succ]
                            refine' tkH 37 ⟨bx_4028.out, by_4029.out, l0_4030.out, l1_4031.out, l2_4032.out, l3_4033.out⟩ ?hyR1171 ?_
                            case hyR1171 => (rintro _ -; go_simp; try with_reducible rfl)
                            refine' tkH 38 ⟨bx_4028.out, by_4029.out, l0_4030.out, l1_4031.out, l2_4032.out, l3_4033.out⟩ ?hyR1172 ?_
                            case hyR1172 => (rintro W' ⟨hS0, hS1, hS2, hS3, hS4, hS5⟩; have hc_ := (rdI_at hS4 ge_).1; clear hS0 hS1 hS2 hS3 hS4 hS5; go_simp; try with_reducible rfl)
                            refine' tkH 47 ⟨bx_4028.out, by_4029.out, l0_4030.out, l1_4031.out, l2_4032.out, l3_4033.out⟩ ?hyR1173 ?_
                            case hyR1173 => (rintro _ -; go_simp; try with_reducible rfl)
                            refine' tkH 63 ⟨bx_4028.out, by_4029.out, l0_4030.out, l1_4031.out, l2_4032.out, l3_4033.out⟩ ?hyR1174 ?_
                            case hyR1174 => (rintro _ -; go_simp; try with_reducible rfl)
                            try simp only [Act.put, List.setIfInBounds_toArray, List.set_cons_zero, List.set_cons_succ]
                            refine' tkH 64 ⟨bx_4028.out, by_4029.out, l0_4030.out, l1_4031.out, l2_4032.out, l3_4033.out⟩ ?hyR1175 ?_
                            case hyR1175 => (rintro _ -; go_simp; try with_reducible rfl)
                            try simp only [Act.put, List.setIfInBounds_toArray, List.set_cons_zero, List.set_cons_succ]
                            refine wpAnyH_done (by kernel_rfl) ?_ _
                            go_wp2
                            go_ret
                            have hrq := HRQ.out
                            exact ⟨ret_bool (ties_no (j := q) (by show q < ((p4 : Int) - p3).toNat; omega) (by rw [HTT.out, hd2]; simp)).symm, bel_4034.out⟩
                           exact AllReadyH.nil
                          exact AllReadyH.nil
                      · have hb1 : (za - zb != zc - zd) = true := by simpa using h1
                        have hd1 : decide (za - zb = zc - zd) = false := decide_eq_false h1
                        clear h1
                        obtain ⟨z_6035, z_6036, z_6037, z_6038, z_6039, z_6040, z_6041, z_6042, z_6043, z_6044⟩ := at10 bx_4028
                        obtain ⟨z_6045, z_6046, z_6047, z_6048⟩ := at4 by_4029
                        go_wp2_with fail
                        clear z_6035 z_6036 z_6037 z_6038 z_6039 z_6040 z_6041 z_6042 z_6043 z_6044 z_6045 z_6046 z_6047 z_6048
                        replace cl1_4026 := Lib.hid (Cl.drew (cl1_4026.out))
                        replace cl2_4027 := Lib.hid (Cl.drew (cl2_4027.out))
                        replace bx_4028 := kD bx_4028
                        replace by_4029 := kD by_4029
                        replace l0_4030 := iD l0_4030
                        replace l1_4031 := iD l1_4031
                        replace l2_4032 := iD l2_4032
                        replace l3_4033 := iD l3_4033
                        replace bel_4034 := bD bel_4034
                        refine wp_region_held_drew (S := (fun W' => Blk W' (w.heap.size) 101 #[.int .i64 c, .slice A n k, .slice B m j, .int .i64 d, .slice C n2 k2, .slice D m2 j2, .int .i64 p1, .int .i64 p2, .int .i64 p3, .int .i64 p4] ∧ Blk W' (w.heap.size + 1) 54 #[.slice (some ⟨ab0, ao0, none⟩) x1 k1, .slice (some ⟨ab1, ao1, none⟩) x2 k2x, .slice (some ⟨ab2, ao2, none⟩) x3 k3, .slice (some ⟨ab3, ao3, none⟩) x4 k4] ∧ RdI W' (some ⟨ab0, ao0, none⟩) x1 k1 xa ∧ RdI W' (some ⟨ab1, ao1, none⟩) x2 k2x xb ∧ RdI W' (some ⟨ab2, ao2, none⟩) x3 k3 ya ∧ RdI W' (some ⟨ab3, ao3, none⟩) x4 k4 yb)) (by kernel_rfl) ⟨bx_4028.out, by_4029.out, l0_4030.out, l1_4031.out, l2_4032.out, l3_4033.out⟩ (fun _ => ?_)
                        obtain ⟨w1176, hw1177⟩ : ∃ w', w' = (wr.drew) := ⟨_, rfl⟩
                        rw [← hw1177] at cl1_4026 cl2_4027 bx_4028 by_4029 l0_4030 l1_4031 l2_4032 l3_4033 bel_4034
                        rw [← hw1177]
                        clear hw1177
                        refine' tkH 0 ⟨bx_4028.out, by_4029.out, l0_4030.out, l1_4031.out, l2_4032.out, l3_4033.out⟩ ?hyR1178 ?_
                        case hyR1178 => (rintro _ -; go_simp; try with_reducible rfl)
                        refine' tkH 1 ⟨bx_4028.out, by_4029.out, l0_4030.out, l1_4031.out, l2_4032.out, l3_4033.out⟩ ?hyR1179 ?_
                        case hyR1179 => (rintro W' ⟨hS0, hS1, hS2, hS3, hS4, hS5⟩; have hc0 := Blk.nth hS1 0; clear hS0 hS1 hS2 hS3 hS4 hS5; go_simp; try with_reducible rfl)
                        refine' tkH 2 ⟨bx_4028.out, by_4029.out, l0_4030.out, l1_4031.out, l2_4032.out, l3_4033.out⟩ ?hyR1180 ?_
                        case hyR1180 => (rintro _ -; go_simp; try with_reducible rfl)
                        refine' tkH 3 ⟨bx_4028.out, by_4029.out, l0_4030.out, l1_4031.out, l2_4032.out, l3_4033.out⟩ ?hyR1181 ?_
                        case hyR1181 => (rintro _ -; go_simp; try with_reducible rfl)
                        try simp only [Act.put, List.setIfInBounds_toArray, List.set_cons_zero, List.set_cons_succ]
                        refine' tkH 7 ⟨bx_4028.out, by_4029.out, l0_4030.out, l1_4031.out, l2_4032.out, l3_4033.out⟩ ?hyR1182 ?_
                        case hyR1182 => (rintro _ -; go_simp; try with_reducible rfl)
                        refine' tkH 8 ⟨bx_4028.out, by_4029.out, l0_4030.out, l1_4031.out, l2_4032.out, l3_4033.out⟩ ?hyR1183 ?_
                        case hyR1183 => (rintro W' ⟨hS0, hS1, hS2, hS3, hS4, hS5⟩; have hc0 := Blk.nth hS1 0; clear hS0 hS1 hS2 hS3 hS4 hS5; go_simp; try with_reducible rfl)
                        refine' tkH 9 ⟨bx_4028.out, by_4029.out, l0_4030.out, l1_4031.out, l2_4032.out, l3_4033.out⟩ ?hyR1184 ?_
                        case hyR1184 => (rintro _ -; go_simp; try with_reducible rfl)
                        refine' tkH 10 ⟨bx_4028.out, by_4029.out, l0_4030.out, l1_4031.out, l2_4032.out, l3_4033.out⟩ ?hyR1185 ?_
                        case hyR1185 => (rintro _ -; go_simp; try with_reducible rfl)
                        try simp only [Act.put, List.setIfInBounds_toArray, List.set_cons_zero, List.set_cons_succ]
                        refine' tkH 11 ⟨bx_4028.out, by_4029.out, l0_4030.out, l1_4031.out, l2_4032.out, l3_4033.out⟩ ?hyR1186 ?_
                        case hyR1186 => (rintro _ -; go_simp; try with_reducible rfl)
                        refine' tkH 12 ⟨bx_4028.out, by_4029.out, l0_4030.out, l1_4031.out, l2_4032.out, l3_4033.out⟩ ?hyR1187 ?_
                        case hyR1187 => (rintro W' ⟨hS0, hS1, hS2, hS3, hS4, hS5⟩; have hc0 := Blk.nth hS0 6; clear hS0 hS1 hS2 hS3 hS4 hS5; go_simp; try with_reducible rfl)
                        refine' tkH 13 ⟨bx_4028.out, by_4029.out, l0_4030.out, l1_4031.out, l2_4032.out, l3_4033.out⟩ ?hyR1188 ?_
                        case hyR1188 => (rintro _ -; go_simp; try with_reducible rfl)
                        refine' tkH 14 ⟨bx_4028.out, by_4029.out, l0_4030.out, l1_4031.out, l2_4032.out, l3_4033.out⟩ ?hyR1189 ?_
                        case hyR1189 => (rintro W' ⟨hS0, hS1, hS2, hS3, hS4, hS5⟩; have hc_ := (rdI_at hS2 gb_).1; clear hS0 hS1 hS2 hS3 hS4 hS5; go_simp; try with_reducible rfl)
                        try simp only [Act.put, List.setIfInBounds_toArray, List.set_cons_zero, List.set_cons_succ]
                        refine' tkH 16 ⟨bx_4028.out, by_4029.out, l0_4030.out, l1_4031.out, l2_4032.out, l3_4033.out⟩ ?hyR1190 ?_
                        case hyR1190 => (rintro _ -; go_simp; try with_reducible rfl)
                        refine' tkH 17 ⟨bx_4028.out, by_4029.out, l0_4030.out, l1_4031.out, l2_4032.out, l3_4033.out⟩ ?hyR1191 ?_
                        case hyR1191 => (rintro W' ⟨hS0, hS1, hS2, hS3, hS4, hS5⟩; have hc0 := Blk.nth hS1 1; clear hS0 hS1 hS2 hS3 hS4 hS5; go_simp; try with_reducible rfl)
                        refine' tkH 18 ⟨bx_4028.out, by_4029.out, l0_4030.out, l1_4031.out, l2_4032.out, l3_4033.out⟩ ?hyR1192 ?_
                        case hyR1192 => (rintro _ -; go_simp; try with_reducible rfl)
                        refine' tkH 19 ⟨bx_4028.out, by_4029.out, l0_4030.out, l1_4031.out, l2_4032.out, l3_4033.out⟩ ?hyR1193 ?_
                        case hyR1193 => (rintro _ -; go_simp; try with_reducible rfl)
                        try simp only [Act.put, List.setIfInBounds_toArray, List.set_cons_zero, List.set_cons_succ]
                        refine' tkH 20 ⟨bx_4028.out, by_4029.out, l0_4030.out, l1_4031.out, l2_4032.out, l3_4033.out⟩ ?hyR1194 ?_
                        case hyR1194 => (rintro _ -; go_simp; try with_reducible rfl)
                        refine' tkH 21 ⟨bx_4028.out, by_4029.out, l0_4030.out, l1_4031.out, l2_4032.out, l3_4033.out⟩ ?hyR1195 ?_
                        case hyR1195 => (rintro W' ⟨hS0, hS1, hS2, hS3, hS4, hS5⟩; have hc0 := Blk.nth hS0 9; clear hS0 hS1 hS2 hS3 hS4 hS5; go_simp; try with_reducible rfl)
                        refine' tkH 22 ⟨bx_4028.out, by_4029.out, l0_4030.out, l1_4031.out, l2_4032.out, l3_4033.out⟩ ?hyR1196 ?_
                        case hyR1196 => (rintro _ -; go_simp; try with_reducible rfl)
                        refine' tkH 23 ⟨bx_4028.out, by_4029.out, l0_4030.out, l1_4031.out, l2_4032.out, l3_4033.out⟩ ?hyR1197 ?_
                        case hyR1197 => (rintro W' ⟨hS0, hS1, hS2, hS3, hS4, hS5⟩; have hc_ := (rdI_at hS3 gc_).1; clear hS0 hS1 hS2 hS3 hS4 hS5; go_simp; try with_reducible rfl)
                        try simp only [Act.put, List.setIfInBounds_toArray, List.set_cons_zero, List.set_cons_succ]
                        refine' tkH 24 ⟨bx_4028.out, by_4029.out, l0_4030.out, l1_4031.out, l2_4032.out, l3_4033.out⟩ ?hyR1198 ?_
                        case hyR1198 => (rintro _ -; go_simp; try with_reducible rfl)
                        refine' tkH 25 ⟨bx_4028.out, by_4029.out, l0_4030.out, l1_4031.out, l2_4032.out, l3_4033.out⟩ ?hyR1199 ?_
                        case hyR1199 => (rintro W' ⟨hS0, hS1, hS2, hS3, hS4, hS5⟩; have hc0 := Blk.nth hS1 1; clear hS0 hS1 hS2 hS3 hS4 hS5; go_simp; try with_reducible rfl)
                        refine' tkH 26 ⟨bx_4028.out, by_4029.out, l0_4030.out, l1_4031.out, l2_4032.out, l3_4033.out⟩ ?hyR1200 ?_
                        case hyR1200 => (rintro _ -; go_simp; try with_reducible rfl)
                        refine' tkH 27 ⟨bx_4028.out, by_4029.out, l0_4030.out, l1_4031.out, l2_4032.out, l3_4033.out⟩ ?hyR1201 ?_
                        case hyR1201 => (rintro _ -; go_simp; try with_reducible rfl)
                        try simp only [Act.put, List.setIfInBounds_toArray, List.set_cons_zero, List.set_cons_succ]
                        refine' tkH 28 ⟨bx_4028.out, by_4029.out, l0_4030.out, l1_4031.out, l2_4032.out, l3_4033.out⟩ ?hyR1202 ?_
                        case hyR1202 => (rintro W' ⟨hS0, hS1, hS2, hS3, hS4, hS5⟩; have hc_ := (rdI_at hS3 gd_).1; clear hS0 hS1 hS2 hS3 hS4 hS5; go_simp; try with_reducible rfl)
                        refine' tkH 29 ⟨bx_4028.out, by_4029.out, l0_4030.out, l1_4031.out, l2_4032.out, l3_4033.out⟩ ?hyR1203 ?_
                        case hyR1203 => (rintro _ -; go_simp; try with_reducible rfl)
                        try simp only [Act.put, List.setIfInBounds_toArray, List.set_cons_zero, List.set_cons_succ]
                        refine wpAnyH_ready (rs := [4]) (by kernel_rfl) (by simp) ?_
                        refine rdH rfl (fun K hK => ?_) ?_
                        · -- 4: call
                         go_simp
                         go_at_call 173
                         refine (HV1.out _ (cl1_4026.out)).mono ?_
                         rintro e w1204 ⟨rfl, rfl⟩
                         dsimp only
                         refine hK.out _ _ ⟨bx_4028.out, by_4029.out, l0_4030.out, l1_4031.out, l2_4032.out, l3_4033.out⟩ (fun _ => ?_); clear hK K
                         try simp only [Act.put, List.setIfInBounds_toArray, List.set_cons_zero, List.set_cons_succ]
                         refine' tkH 5 ⟨bx_4028.out, by_4029.out, l0_4030.out, l1_4031.out, l2_4032.out, l3_4033.out⟩ ?hyR1205 ?_
                         case hyR1205 => (rintro _ -; go_simp; try with_reducible rfl)
                         refine' tkH 6 ⟨bx_4028.out, by_4029.out, l0_4030.out, l1_4031.out, l2_4032.out, l3_4033.out⟩ ?hyR1206 ?_
                         case hyR1206 => (rintro W' ⟨hS0, hS1, hS2, hS3, hS4, hS5⟩; have hc_ := (rdI_at hS2 ga_).1; clear hS0 hS1 hS2 hS3 hS4 hS5; go_simp; try with_reducible rfl)
                         refine' tkH 15 ⟨bx_4028.out, by_4029.out, l0_4030.out, l1_4031.out, l2_4032.out, l3_4033.out⟩ ?hyR1207 ?_
                         case hyR1207 => (rintro _ -; go_simp; try with_reducible rfl)
                         refine' tkH 30 ⟨bx_4028.out, by_4029.out, l0_4030.out, l1_4031.out, l2_4032.out, l3_4033.out⟩ ?hyR1208 ?_
                         case hyR1208 => (rintro _ -; go_simp; try with_reducible rfl)
                         try simp only [Act.put, List.setIfInBounds_toArray, List.set_cons_zero, List.set_cons_succ]
                         refine' tkH 31 ⟨bx_4028.out, by_4029.out, l0_4030.out, l1_4031.out, l2_4032.out, l3_4033.out⟩ ?hyR1209 ?_
                         case hyR1209 => (rintro _ -; go_simp; try with_reducible rfl)
                         refine' tkNH 32 ⟨bx_4028.out, by_4029.out, l0_4030.out, l1_4031.out, l2_4032.out, l3_4033.out⟩ ?_
                         refine' tkNH 33 ⟨bx_4028.out, by_4029.out, l0_4030.out, l1_4031.out, l2_4032.out, l3_4033.out⟩ ?_
                         refine' tkNH 34 ⟨bx_4028.out, by_4029.out, l0_4030.out, l1_4031.out, l2_4032.out, l3_4033.out⟩ ?_
                         try simp only [Act.put, List.setIfInBounds_toArray, List.set_cons_zero, List.set_cons_succ]
                         refine' tkNH 35 ⟨bx_4028.out, by_4029.out, l0_4030.out, l1_4031.out, l2_4032.out, l3_4033.out⟩ ?_
                         refine' tkNH 36 ⟨bx_4028.out, by_4029.out, l0_4030.out, l1_4031.out, l2_4032.out, l3_4033.out⟩ ?_
                         refine' tkNH 37 ⟨bx_4028.out, by_4029.out, l0_4030.out, l1_4031.out, l2_4032.out, l3_4033.out⟩ ?_
                         refine' tkNH 38 ⟨bx_4028.out, by_4029.out, l0_4030.out, l1_4031.out, l2_4032.out, l3_4033.out⟩ ?_
                         try simp only [Act.put, List.setIfInBounds_toArray, List.set_cons_zero, List.set_cons_succ]
                         refine' tkNH 39 ⟨bx_4028.out, by_4029.out, l0_4030.out, l1_4031.out, l2_4032.out, l3_4033.out⟩ ?_
                         refine' tkNH 40 ⟨bx_4028.out, by_4029.out, l0_4030.out, l1_4031.out, l2_4032.out, l3_4033.out⟩ ?_
                         refine' tkNH 41 ⟨bx_4028.out, by_4029.out, l0_4030.out, l1_4031.out, l2_4032.out, l3_4033.out⟩ ?_
                         refine' tkNH 42 ⟨bx_4028.out, by_4029.out, l0_4030.out, l1_4031.out, l2_4032.out, l3_4033.out⟩ ?_
                         try simp only [Act.put, List.setIfInBounds_toArray, List.set_cons_zero, List.set_cons_succ]
                         refine' tkNH 43 ⟨bx_4028.out, by_4029.out, l0_4030.out, l1_4031.out, l2_4032.out, l3_4033.out⟩ ?_
                         refine' tkNH 44 ⟨bx_4028.out, by_4029.out, l0_4030.out, l1_4031.out, l2_4032.out, l3_4033.out⟩ ?_
                         refine' tkNH 45 ⟨bx_4028.out, by_4029.out, l0_4030.out, l1_4031.out, l2_4032.out, l3_4033.out⟩ ?_
                         refine' tkNH 46 ⟨bx_4028.out, by_4029.out, l0_4030.out, l1_4031.out, l2_4032.out, l3_4033.out⟩ ?_
                         try simp only [Act.put, List.setIfInBounds_toArray, List.set_cons_zero, List.set_cons_succ]
                         refine' tkNH 47 ⟨bx_4028.out, by_4029.out, l0_4030.out, l1_4031.out, l2_4032.out, l3_4033.out⟩ ?_
                         refine' tkNH 48 ⟨bx_4028.out, by_4029.out, l0_4030.out, l1_4031.out, l2_4032.out, l3_4033.out⟩ ?_
                         refine' tkNH 49 ⟨bx_4028.out, by_4029.out, l0_4030.out, l1_4031.out, l2_4032.out, l3_4033.out⟩ ?_
                         refine' tkNH 50 ⟨bx_4028.out, by_4029.out, l0_4030.out, l1_4031.out, l2_4032.out, l3_4033.out⟩ ?_
                         try simp only [Act.put, List.setIfInBounds_toArray, List.set_cons_zero, List.set_cons_succ]
                         refine' tkNH 51 ⟨bx_4028.out, by_4029.out, l0_4030.out, l1_4031.out, l2_4032.out, l3_4033.out⟩ ?_
                         refine' tkNH 52 ⟨bx_4028.out, by_4029.out, l0_4030.out, l1_4031.out, l2_4032.out, l3_4033.out⟩ ?_
                         refine' tkNH 53 ⟨bx_4028.out, by_4029.out, l0_4030.out, l1_4031.out, l2_4032.out, l3_4033.out⟩ ?_
                         refine' tkNH 54 ⟨bx_4028.out, by_4029.out, l0_4030.out, l1_4031.out, l2_4032.out, l3_4033.out⟩ ?_
                         try simp only [Act.put, List.setIfInBounds_toArray, List.set_cons_zero, List.set_cons_succ]
                         refine' tkNH 55 ⟨bx_4028.out, by_4029.out, l0_4030.out, l1_4031.out, l2_4032.out, l3_4033.out⟩ ?_
                         refine' tkNH 56 ⟨bx_4028.out, by_4029.out, l0_4030.out, l1_4031.out, l2_4032.out, l3_4033.out⟩ ?_
                         refine' tkNH 57 ⟨bx_4028.out, by_4029.out, l0_4030.out, l1_4031.out, l2_4032.out, l3_4033.out⟩ ?_
                         refine' tkNH 58 ⟨bx_4028.out, by_4029.out, l0_4030.out, l1_4031.out, l2_4032.out, l3_4033.out⟩ ?_
                         try simp only [Act.put, List.setIfInBounds_toArray, List.set_cons_zero, List.set_cons_succ]
                         refine' tkNH 59 ⟨bx_4028.out, by_4029.out, l0_4030.out, l1_4031.out, l2_4032.out, l3_4033.out⟩ ?_
                         refine' tkNH 60 ⟨bx_4028.out, by_4029.out, l0_4030.out, l1_4031.out, l2_4032.out, l3_4033.out⟩ ?_
                         refine' tkNH 61 ⟨bx_4028.out, by_4029.out, l0_4030.out, l1_4031.out, l2_4032.out, l3_4033.out⟩ ?_
                         refine' tkNH 62 ⟨bx_4028.out, by_4029.out, l0_4030.out, l1_4031.out, l2_4032.out, l3_4033.out⟩ ?_
                         try simp only [Act.put, List.setIfInBounds_toArray, List.set_cons_zero, List.set_cons_succ]
                         refine' tkNH 63 ⟨bx_4028.out, by_4029.out, l0_4030.out, l1_4031.out, l2_4032.out, l3_4033.out⟩ ?_
                         refine' tkH 64 ⟨bx_4028.out, by_4029.out, l0_4030.out, l1_4031.out, l2_4032.out, l3_4033.out⟩ ?hyR1242 ?_
                         case hyR1242 => (rintro _ -; go_simp; try with_reducible rfl)
                         try simp only [Act.put, List.setIfInBounds_toArray, List.set_cons_zero, List.set_cons_succ]
                         refine wpAnyH_done (by kernel_rfl) ?_ _
                         go_wp2
                         go_ret
                         have hrq := HRQ.out
                         exact ⟨ret_bool (ties_no (j := q) (by show q < ((p4 : Int) - p3).toNat; omega) (by rw [HTW.out, hd1]; simp)).symm, bel_4034.out⟩
                        exact AllReadyH.nil
                    · have hqe : p4 - p3 = q := by omega
                      have hnl : ¬ (r : Int) < (p4 : Int) := by omega
                      have HQE := Lib.hid hqe; clear hqe
                      obtain ⟨z_5035, z_5036, z_5037, z_5038, z_5039, z_5040, z_5041, z_5042, z_5043, z_5044⟩ := at10 bx_4028
                      obtain ⟨z_5045, z_5046, z_5047, z_5048⟩ := at4 by_4029
                      go_wp2
                      go_ret
                      exact ⟨ret_bool (by have h := HTI.out; rw [← HQE.out] at h; first | exact h.symm | simpa using h.symm), bel_4034.out⟩
                  exact AllReadyH.nil
                 exact AllReadyH.nil
                exact AllReadyH.nil
               exact AllReadyH.nil
              exact AllReadyH.nil
             exact AllReadyH.nil
            exact AllReadyH.nil
           exact AllReadyH.nil
          exact AllReadyH.nil
         exact AllReadyH.nil
end Go.Proofs.YtaoanagmgheicaaGreat
