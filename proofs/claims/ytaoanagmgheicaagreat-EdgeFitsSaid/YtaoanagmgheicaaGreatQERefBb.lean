import Derived.Great.BuildSlice
import Derived.Laws.AppendOwnNone
import Derived.Test.YtaoanagmgheicaaGreatQOnw
import Derived.Test.YtaoanagmgheicaaGreatQEPair
import Derived.Test.YtaoanagmgheicaaGreatQWlk
import Derived.Test.YtaoanagmgheicaaGreatQEBareb
import Derived.Test.YtaoanagmgheicaaGreatQERefO
set_option maxHeartbeats 4000000
set_option linter.unusedSimpArgs false
set_option linter.unusedVariables false
namespace Go.Proofs.YtaoanagmgheicaaGreat
open Go.RowKit
theorem rstretch_any (f t c : Int) (w : World) : Calls Tryz.prog 73 #[.int .i64 c, .agg #[.int .i64 f, .int .i64 t]] w fun e w' => e = .returned (.bool (isStr f t c)) ∧ Below w.heap.size w w' := by
 by_cases h1 : 0 ≤ f
 · by_cases h2 : f < t
   · go_enter Tryz.func73, Tryz.ntmps73
     go_wp2
     go_ret
     exact ⟨by simp [isStr, h1, h2], (by (repeat (first | exact Below.refl _ _ | refine Below.drew ?_ | refine Below.alloc ?_ (by simp) _)))⟩
   · go_enter Tryz.func73, Tryz.ntmps73
     go_wp2
     go_ret
     exact ⟨ret_bool (Bool.eq_iff_iff.2 (by simp [isStr]; omega)), (by (repeat (first | exact Below.refl _ _ | refine Below.drew ?_ | refine Below.alloc ?_ (by simp) _)))⟩
 · go_enter Tryz.func73, Tryz.ntmps73
   go_wp2
   go_ret
   exact ⟨ret_bool (Bool.eq_iff_iff.2 (by simp [isStr]; omega)), (by (repeat (first | exact Below.refl _ _ | refine Below.drew ?_ | refine Below.alloc ?_ (by simp) _)))⟩
theorem rstretch_is (f t c : Int) (b : Bool) (h : isStr f t c = b) (w : World) : Calls Tryz.prog 73 #[.int .i64 c, .agg #[.int .i64 f, .int .i64 t]] w fun e w' => e = .returned (.bool b) ∧ Below w.heap.size w w' := by
 subst h
 exact rstretch_any f t c w
end Go.Proofs.YtaoanagmgheicaaGreat
set_option linter.unusedSimpArgs false
set_option linter.unusedVariables false
namespace Go.Proofs.YtaoanagmgheicaaGreat
open Go.RowKit
set_option maxRecDepth 100000 in
theorem rOverlap_any (s1 s2 t1 t2 : Int) (w : World) :
 Calls Tryz.prog 57 #[.agg #[.int .i64 s1, .int .i64 s2], .agg #[.int .i64 t1, .int .i64 t2]] w fun e w' => e = .returned (.bool (overB ⟨s1, s2⟩ ⟨t1, t2⟩)) ∧ Below w.heap.size w w' := by
 by_cases k1 : s1 < s2
 · by_cases k2 : t1 < t2
   · by_cases k3 : s1 < t2
     · skip
       go_enter Tryz.func57, Tryz.ntmps57
       obtain ⟨b1_1, b2_2, bel_3⟩ := ent2 w #[.int .i64 s1, .int .i64 s2] 26 #[.int .i64 t1, .int .i64 t2] 26
       obtain ⟨z_4, z_5⟩ := at2 b1_1
       obtain ⟨z_6, z_7⟩ := at2 b2_2
       go_wp2
       go_ret
       exact ⟨ret_bool (by rw [← over_ref]; simp [k1, k2, k3] <;> omega), bel_3.out⟩
     · skip
       go_enter Tryz.func57, Tryz.ntmps57
       obtain ⟨b1_1, b2_2, bel_3⟩ := ent2 w #[.int .i64 s1, .int .i64 s2] 26 #[.int .i64 t1, .int .i64 t2] 26
       obtain ⟨z_4, z_5⟩ := at2 b1_1
       obtain ⟨z_6, z_7⟩ := at2 b2_2
       go_wp2
       go_ret
       exact ⟨ret_bool (by rw [← over_ref]; simp [k1, k2, k3] <;> omega), bel_3.out⟩
   · skip
     go_enter Tryz.func57, Tryz.ntmps57
     obtain ⟨b1_1, b2_2, bel_3⟩ := ent2 w #[.int .i64 s1, .int .i64 s2] 26 #[.int .i64 t1, .int .i64 t2] 26
     obtain ⟨z_4, z_5⟩ := at2 b1_1
     obtain ⟨z_6, z_7⟩ := at2 b2_2
     go_wp2
     go_ret
     exact ⟨ret_bool (by rw [← over_ref]; simp [k1, k2] <;> omega), bel_3.out⟩
 · skip
   go_enter Tryz.func57, Tryz.ntmps57
   obtain ⟨b1_1, b2_2, bel_3⟩ := ent2 w #[.int .i64 s1, .int .i64 s2] 26 #[.int .i64 t1, .int .i64 t2] 26
   obtain ⟨z_4, z_5⟩ := at2 b1_1
   obtain ⟨z_6, z_7⟩ := at2 b2_2
   go_wp2
   go_ret
   exact ⟨ret_bool (by rw [← over_ref]; simp [k1] <;> omega), bel_3.out⟩
set_option maxRecDepth 100000 in
theorem rBare_err (c : Int) (A B : Option Addr) (n k m j : Nat) (ws ts : List Bnd) (w : World) (h1 : RdB w A n k ws) (h2 : RdB w B m j ts) (hn : n ≤ maxLen) (hm : m ≤ maxLen) (S : Option Addr) (sn sk : Nat) (l : List Stc) (hs : RdS w S sn sk l) (hsm : sn ≤ maxLen) (q : Int) (hq : (q != 0) = true) (E1 : Hid (chkO ⟨c, ws, ts⟩ = q)) :
 Calls Tryz.prog 55 #[.agg #[.int .i64 c, .slice A n k, .slice B m j], .slice S sn sk] w fun e w' => ∃ R rn rk, e = .returned (.tuple #[.slice R rn rk, .int .i64 q]) ∧ OwnI w' w.heap.size R rn rk [] ∧ Below w.heap.size w w' := by
  go_enter Tryz.func55, Tryz.ntmps55
  obtain ⟨ba_1, bel_2⟩ := ent1 w #[.int .i64 c, .slice A n k, .slice B m j] 24
  have ra_3 := rI h1 bel_2
  have rb_4 := rI h2 bel_2
  clear h1 h2
  obtain ⟨z_5, z_6, z_7⟩ := at3 ba_1
  have hc := rCheckOutline_any c A B n k m j ws ts _ ra_3.out rb_4.out hn hm
  rw [E1.out] at hc
  try dsimp only at hc
  have HC := Lib.hid hc; clear hc
  go_wp2_with fail
  refine HC.out.mono ?_
  rintro e w_8 ⟨rfl, hb⟩
  clear HC
  clear z_5 z_6 z_7
  have hb_9 := Lib.hid hb
  clear hb
  replace ba_1 := kH ba_1 hb_9
  obtain ⟨z_10, z_11, z_12⟩ := at3 ba_1
  go_wp2
  go_ret2
  replace bel_2 := bH bel_2 hb_9
  exact ⟨none, 0, 0, rfl, World.ownsRow_nil _ _ _ _, bel_2.out⟩
set_option maxRecDepth 100000 in
theorem rBare_far (c : Int) (A B : Option Addr) (n k m j : Nat) (ws ts : List Bnd) (w : World) (h1 : RdB w A n k ws) (h2 : RdB w B m j ts) (hn : n ≤ maxLen) (hm : m ≤ maxLen) (S : Option Addr) (sn sk : Nat) (l : List Stc) (hs : RdS w S sn sk l) (hsm : sn ≤ maxLen) (hl : (100 : Int) < sn) (E1 : Hid (chkO ⟨c, ws, ts⟩ = 0)) :
 Calls Tryz.prog 55 #[.agg #[.int .i64 c, .slice A n k, .slice B m j], .slice S sn sk] w fun e w' => ∃ R rn rk, e = .returned (.tuple #[.slice R rn rk, .int .i64 2]) ∧ OwnI w' w.heap.size R rn rk [] ∧ Below w.heap.size w w' := by
  go_enter Tryz.func55, Tryz.ntmps55
  obtain ⟨ba_1, bel_2⟩ := ent1 w #[.int .i64 c, .slice A n k, .slice B m j] 24
  have ra_3 := rI h1 bel_2
  have rb_4 := rI h2 bel_2
  clear h1 h2
  obtain ⟨z_5, z_6, z_7⟩ := at3 ba_1
  have hc := rCheckOutline_any c A B n k m j ws ts _ ra_3.out rb_4.out hn hm
  rw [E1.out] at hc
  try dsimp only at hc
  have HC := Lib.hid hc; clear hc
  go_wp2_with fail
  refine HC.out.mono ?_
  rintro e w_8 ⟨rfl, hb⟩
  clear HC
  clear z_5 z_6 z_7
  have hb_9 := Lib.hid hb
  clear hb
  replace ba_1 := kH ba_1 hb_9
  obtain ⟨z_10, z_11, z_12⟩ := at3 ba_1
  go_wp2
  go_ret2
  replace bel_2 := bH bel_2 hb_9
  exact ⟨none, 0, 0, rfl, World.ownsRow_nil _ _ _ _, bel_2.out⟩
set_option maxRecDepth 100000 in
theorem rBare_ok (cn : Nat) (A B : Option Addr) (n k m j : Nat) (ws ts : List Bnd) (w : World) (h1 : RdB w A n k ws) (h2 : RdB w B m j ts) (hn : n ≤ maxLen) (hm : m ≤ maxLen) (S : Option Addr) (sn sk : Nat) (l : List Stc) (hs : RdS w S sn sk l) (hsm : sn ≤ maxLen) (hl : ¬ (100 : Int) < sn) (hcn : cn ≤ 16) (E1 : Hid (chkO ⟨cn, ws, ts⟩ = 0)) (q : Int) (Z : List Int)
 (HQ : Hid (l.all (fun s => isStr s.f s.t (cn : Int)) = true → q = 0 ∧ Z = bareN l cn)) (HN : Hid (l.all (fun s => isStr s.f s.t (cn : Int)) = false → q = 1 ∧ Z = [])) :
 Calls Tryz.prog 55 #[.agg #[.int .i64 (cn : Int), .slice A n k, .slice B m j], .slice S sn sk] w fun e w' => ∃ R rn rk, e = .returned (.tuple #[.slice R rn rk, .int .i64 q]) ∧ OwnI w' w.heap.size R rn rk Z ∧ Below w.heap.size w w' := by
 obtain ⟨i0, hi0, hz0, hz1, hz2⟩ := info_parts infoI
 have HI := Lib.hid hi0; have HZ0 := Lib.hid hz0; have HZ1 := Lib.hid hz1; have HZ2 := Lib.hid hz2; clear hi0 hz0 hz1 hz2
 have HS := Lib.hid hs; clear hs
 go_enter Tryz.func55, Tryz.ntmps55
 obtain ⟨ba_1, bel_2⟩ := ent1 w #[.int .i64 (cn : Int), .slice A n k, .slice B m j] 24
 have ra_3 := rI h1 bel_2
 have rb_4 := rI h2 bel_2
 clear h1 h2
 obtain ⟨z_5, z_6, z_7⟩ := at3 ba_1
 have hc := rCheckOutline_any (cn : Int) A B n k m j ws ts _ ra_3.out rb_4.out hn hm
 rw [E1.out] at hc
 try dsimp only at hc
 have HC := Lib.hid hc; clear hc
 go_wp2_with fail
 refine HC.out.mono ?_
 rintro e w_8 ⟨rfl, hb⟩
 clear HC
 clear z_5 z_6 z_7
 have hb_9 := Lib.hid hb
 clear hb
 replace ba_1 := kH ba_1 hb_9
 obtain ⟨z_10, z_11, z_12⟩ := at3 ba_1
 go_wp2
 clear z_10 z_11 z_12
 replace bel_2 := bH bel_2 hb_9
 replace ra_3 := rH ra_3 hb_9
 replace rb_4 := rH rb_4 hb_9
 go_loopw [7] (fun i wr => ∃ q : Nat, q ≤ sn ∧ i = .int .i64 q ∧ (l.take q).all (fun s => isStr s.f s.t cn) = true ∧ Blk wr (w.heap.size) 24 #[.int .i64 (cn : Int), .slice A n k, .slice B m j] ∧ Below w.heap.size w wr) (fun i _ => sn - (intOf i).toNat)
 case atStart => exact ⟨0, Nat.zero_le _, rfl, rfl, ba_1.out, bel_2.out⟩
 case round =>
  clear bel_2 ra_3 rb_4 ba_1
  obtain ⟨q, hq, rfl, hall, i2, i3⟩ := hrel
  have ba_1013 := Lib.hid (i2)
  clear i2
  have bel_1014 := Lib.hid (i3)
  clear i3
  have HA := Lib.hid hall; clear hall
  by_cases hlt : q < sn
  · have hlt' : (q : Int) < sn := by omega
    have hrs := HS.out.below bel_1014.out
    obtain ⟨b, o, f, t, rfl, hbw, hx, e0, e1⟩ := RdS.get hrs hlt
    clear e0 e1
    have rs_2015 := Lib.hid (hrs)
    clear hrs
    have HX := Lib.hid hx; clear hx
    cases hst : isStr f t (cn : Int)
    · have HST := Lib.hid hst; clear hst
      obtain ⟨rfl, rfl⟩ := HN.out (List.all_eq_false.2 ⟨_, List.mem_of_getElem? HX.out, by simp [HST.out]⟩)
      go_wp2_with fail
      replace ba_1013 := kD ba_1013
      replace bel_1014 := bD bel_1014
      replace rs_2015 := Lib.hid (RdS.drew (rs_2015.out))
      refine wp_region_held_drew (S := (fun W' => Blk W' (w.heap.size) 24 #[.int .i64 (cn : Int), .slice A n k, .slice B m j] ∧ RdS W' (some ⟨b, o, none⟩) sn sk l)) (by kernel_rfl) ⟨ba_1013.out, rs_2015.out⟩ (fun _ => ?_)
      obtain ⟨w1812, hw1813⟩ : ∃ w', w' = (wr.drew) := ⟨_, rfl⟩
      rw [← hw1813] at ba_1013 bel_1014 rs_2015
      rw [← hw1813]
      clear hw1813
      refine' twH 0 ⟨ba_1013.out, rs_2015.out⟩ ?_
      refine' tkH 1 ⟨ba_1013.out, rs_2015.out⟩ ?hyR1815 ?_
      case hyR1815 => (rintro W' ⟨hS0, hS1⟩; have hc0 := Blk.nth hS0 0; clear hS0 hS1; go_simp; try with_reducible rfl)
      refine' twH 2 ⟨ba_1013.out, rs_2015.out⟩ ?_
      refine' twH 3 ⟨ba_1013.out, rs_2015.out⟩ ?_
      try simp only [Act.put, qsA, qsZ, qsS]
      refine' twH 4 ⟨ba_1013.out, rs_2015.out⟩ ?_
      refine' tkH 5 ⟨ba_1013.out, rs_2015.out⟩ ?hyR1819 ?_
      case hyR1819 => (rintro W' ⟨hS0, hS1⟩; obtain ⟨c0_, c1_⟩ := rdS_at hS1 HX.out; clear hS0 hS1; go_simp; try with_reducible rfl)
      try simp only [Act.put, qsA, qsZ, qsS]
      refine oneH 6 rfl fun K hK => ?_
      go_simp
      go_at_call 73
      refine (rstretch_is f t (cn : Int) _ HST.out _).mono ?_
      rintro e w1820 ⟨rfl, hb1821⟩
      dsimp only
      replace hb1821 := Lib.hid hb1821
      replace ba_1013 := kH ba_1013 hb1821
      replace rs_2015 := Lib.hid (RdS.below (rs_2015.out) hb1821.out)
      refine hK.out _ _ ⟨ba_1013.out, rs_2015.out⟩ (fun _ => ?_); clear hK K
      try simp only [Act.put, qsA, qsZ, qsS]
      refine' twH 7 ⟨ba_1013.out, rs_2015.out⟩ ?_
      try simp only [Act.put, qsA, qsZ, qsS]
      refine wpAnyH_done (by kernel_rfl) ?_ _
      go_wp2
      go_ret2
      replace bel_1014 := bH bel_1014 hb1821
      exact ⟨none, 0, 0, rfl, World.ownsRow_nil _ _ _ _, bel_1014.out⟩
    · have HST := Lib.hid hst; clear hst
      go_wp2_with fail
      replace ba_1013 := kD ba_1013
      replace bel_1014 := bD bel_1014
      replace rs_2015 := Lib.hid (RdS.drew (rs_2015.out))
      refine wp_region_held_drew (S := (fun W' => Blk W' (w.heap.size) 24 #[.int .i64 (cn : Int), .slice A n k, .slice B m j] ∧ RdS W' (some ⟨b, o, none⟩) sn sk l)) (by kernel_rfl) ⟨ba_1013.out, rs_2015.out⟩ (fun _ => ?_)
      obtain ⟨w1823, hw1824⟩ : ∃ w', w' = (wr.drew) := ⟨_, rfl⟩
      rw [← hw1824] at ba_1013 bel_1014 rs_2015
      rw [← hw1824]
      clear hw1824
      refine' twH 0 ⟨ba_1013.out, rs_2015.out⟩ ?_
      refine' tkH 1 ⟨ba_1013.out, rs_2015.out⟩ ?hyR1826 ?_
      case hyR1826 => (rintro W' ⟨hS0, hS1⟩; have hc0 := Blk.nth hS0 0; clear hS0 hS1; go_simp; try with_reducible rfl)
      refine' twH 2 ⟨ba_1013.out, rs_2015.out⟩ ?_
      refine' twH 3 ⟨ba_1013.out, rs_2015.out⟩ ?_
      try simp only [Act.put, qsA, qsZ, qsS]
      refine' twH 4 ⟨ba_1013.out, rs_2015.out⟩ ?_
      refine' tkH 5 ⟨ba_1013.out, rs_2015.out⟩ ?hyR1830 ?_
      case hyR1830 => (rintro W' ⟨hS0, hS1⟩; obtain ⟨c0_, c1_⟩ := rdS_at hS1 HX.out; clear hS0 hS1; go_simp; try with_reducible rfl)
      try simp only [Act.put, qsA, qsZ, qsS]
      refine oneH 6 rfl fun K hK => ?_
      go_simp
      go_at_call 73
      refine (rstretch_is f t (cn : Int) _ HST.out _).mono ?_
      rintro e w1831 ⟨rfl, hb1832⟩
      dsimp only
      replace hb1832 := Lib.hid hb1832
      replace ba_1013 := kH ba_1013 hb1832
      replace rs_2015 := Lib.hid (RdS.below (rs_2015.out) hb1832.out)
      refine hK.out _ _ ⟨ba_1013.out, rs_2015.out⟩ (fun _ => ?_); clear hK K
      try simp only [Act.put, qsA, qsZ, qsS]
      refine' twH 7 ⟨ba_1013.out, rs_2015.out⟩ ?_
      try simp only [Act.put, qsA, qsZ, qsS]
      refine wpAnyH_done (by kernel_rfl) ?_ _
      go_wp2
      replace bel_1014 := bH bel_1014 hb1832
      go_roundw
      case rel => exact ⟨q + 1, by omega, by go_num, by rw [List.take_add_one, List.all_append, HA.out, HX.out]; simpa using HST.out, ba_1013.out, bel_1014.out⟩
      case measure => simp [intOf]; omega
  · obtain rfl : q = sn := by omega
    have hll := HS.out.len
    have HAA := Lib.hid (show l.all (fun s => isStr s.f s.t (cn : Int)) = true by have := HA.out; rwa [List.take_of_length_le (by omega)] at this); clear hll
    obtain ⟨rfl, rfl⟩ := HQ.out HAA.out
    have hg0 := Blk.lt ba_1013.out
    go_wp2
    go_loopw [9, 8] (fun i v wr => ∃ p : Nat, p ≤ cn ∧ i = .int .i64 p ∧ wr.ownsRow (w.heap.size + 1) 3 1 v (bareN l p).length ((bareN l p).map (Value.int .i64)) ∧ Blk wr (w.heap.size) 24 #[.int .i64 (cn : Int), .slice A n k, .slice B m j] ∧ Below w.heap.size w wr) (fun i _ _ => cn - (intOf i).toNat)
    case atStart => exact ⟨0, Nat.zero_le _, rfl, World.ownsRow_nil _ _ _ _, ba_1013.out, bel_1014.out⟩
    case round =>
     clear ba_1013 bel_1014
     obtain ⟨p, hp, rfl, hown, hcv, hb⟩ := hrel
     obtain ⟨wo, rfl⟩ : ∃ wo, wo = wr := ⟨wr, rfl⟩
     have y0 := hcv.cell 0
     simp only [List.getElem?_toArray, List.getElem?_cons_zero] at y0
     have HCV := Lib.hid hcv; have HOW := Lib.hid hown; have HB := Lib.hid hb; clear hcv hown hb
     by_cases hpt : p < cn
     · have hpt' : (p : Int) < cn := by omega
       have hsu := bareN_succ l p
       have hbl := bareN_len l p
       have HSU := Lib.hid hsu; clear hsu
       go_wp2
       clear y0
       go_loopw [11, 10] (fun i v wr => ∃ k : Nat, k ≤ q ∧ i = .int .i64 k ∧ v = .bool (covL (l.take k) p) ∧ wo = wr) (fun i _ _ => q - (intOf i).toNat)
       case atStart => exact ⟨0, Nat.zero_le _, rfl, rfl, by first | rfl | trivial⟩
       case round =>
        obtain ⟨k, hk, rfl, rfl, rfl⟩ := hrel
        by_cases hkt : k < q
        · have hkt' : (k : Int) < q := by omega
          obtain ⟨b, o, f, t, rfl, hbw, hx, e0, e1⟩ := RdS.get (HS.out.below HB.out) hkt
          have htk : covL (l.take (k + 1)) p = (covL (l.take k) p || inS ⟨f, t⟩ p) := by unfold covL; rw [List.take_add_one, List.any_append, hx]; simp
          have HTK := Lib.hid htk; clear htk hx
          obtain ⟨cb, hcb⟩ : ∃ cb, covL (l.take k) (p : Int) = cb := ⟨_, rfl⟩
          rw [hcb] at HTK ⊢; clear hcb
          cases cb
          · by_cases k1 : f ≤ (p : Int)
            · by_cases k2 : (p : Int) < t
              · skip
                go_wp2
                go_roundw
                case rel => exact ⟨k + 1, by omega, by go_num, by rw [HTK.out]; unfold inS; simp [k1, k2], by first | rfl | trivial⟩
                case measure => simp [intOf]; omega
              · skip
                go_wp2
                go_roundw
                case rel => exact ⟨k + 1, by omega, by go_num, by rw [HTK.out]; unfold inS; simp [k1, k2], by first | rfl | trivial⟩
                case measure => simp [intOf]; omega
            · skip
              go_wp2
              go_roundw
              case rel => exact ⟨k + 1, by omega, by go_num, by rw [HTK.out]; unfold inS; simp [k1], by first | rfl | trivial⟩
              case measure => simp [intOf]; omega
          · skip
            go_wp2
            go_roundw
            case rel => exact ⟨k + 1, by omega, by go_num, by rw [HTK.out]; unfold inS; simp [], by first | rfl | trivial⟩
            case measure => simp [intOf]; omega
        · obtain rfl : k = q := by omega
          have hll := HS.out.len
          rw [List.take_of_length_le (by omega)]; clear hll
          have HSU2 := HSU
          cases hc : covL l p
          · rw [hc] at HSU
            simp only [Bool.false_eq_true, if_false] at HSU
            clear hc HSU2
            have OW := Lib.hid (HOW.out.alloc (.cells #[.int .i64 p] 3)); clear HOW
            have N1 := Lib.hid (Blk.new wo 3 #[.int .i64 p])
            have HBB := Lib.hid (HB.out.alloc HB.out.size (.cells #[.int .i64 p] 3))
            have hbs := HB.out.size
            go_wp2_with (at_builtin; refine wpList_append_own _ rfl (.tmp 67) (.tmp 69) 31 rfl (w.heap.size + 1) 3 i0 _ 1 8 Tryz.underlying31 HI.out HZ0.out HZ1.out HZ2.out rfl (by omega) u8 _ _ rfl OW.out ⟨wo.heap.size, 0, none⟩ 1 1 [.int .i64 p] rfl rfl (fun j u hu => by rw [Addr.add_lit, Nat.zero_add, N1.out.cell]; simpa using hu) (by simp [Value.oneCell']) (by unfold maxLen; omega) (by omega) (by simp; omega) ?_; intro v' w4 hown4 hg4 _; have HO4 := Lib.hid hown4; have HG4 := Lib.hid (show World.grownBy _ w4 u8.ownBlock from hg4); clear hown4 hg4)
            go_roundw
            case rel => exact ⟨p + 1, by omega, by go_num, (by rw [HSU.out]; simpa using HO4.out), blk_grown (HCV.out.alloc _) HG4.out (fun e => by have := (OW.out.lt _ e).1; omega), HBB.out.grown HG4.out HBB.out.size (fun q e => by have := (OW.out.lt q e).1; omega)⟩
            case measure => simp [intOf]; omega
          · rw [hc] at HSU
            simp only [if_true] at HSU
            clear hc HSU2
            go_wp2
            go_roundw
            case rel => exact ⟨p + 1, by omega, by go_num, by rw [HSU.out]; exact HOW.out, HCV.out, HB.out⟩
            case measure => simp [intOf]; omega
     · obtain rfl : p = cn := by omega
       obtain ⟨A5, c5, hv5, -⟩ := own_form HOW.out
       subst hv5
       go_wp2
       go_ret2
       exact ⟨A5, _, c5, rfl, owns_base HOW.out (by omega), HB.out⟩
theorem rBare_any (c : Int) (A B : Option Addr) (n k m j : Nat) (ws ts : List Bnd) (w : World) (h1 : RdB w A n k ws) (h2 : RdB w B m j ts) (hn : n ≤ maxLen) (hm : m ≤ maxLen) (S : Option Addr) (sn sk : Nat) (l : List Stc) (hs : RdS w S sn sk l) (hsm : sn ≤ maxLen) :
 Calls Tryz.prog 55 #[.agg #[.int .i64 c, .slice A n k, .slice B m j], .slice S sn sk] w fun e w' => ∃ R rn rk, e = .returned (.tuple #[.slice R rn rk, .int .i64 (barE ⟨c, ws, ts⟩ l)]) ∧ OwnI w' w.heap.size R rn rk (barL ⟨c, ws, ts⟩ l) ∧ Below w.heap.size w w' := by
 have hl := hs.len
 by_cases hq : chkO ⟨c, ws, ts⟩ = 0
 · by_cases h100 : (100 : Int) < sn
   · have e : barE ⟨c, ws, ts⟩ l = 2 := by unfold barE; rw [if_neg (by simpa using hq), if_pos (by omega)]
     unfold barL
     rw [e, if_neg (by omega)]
     exact rBare_far c A B n k m j ws ts w h1 h2 hn hm S sn sk l hs hsm h100 (Lib.hid hq)
   · obtain ⟨c3, c16, -, -⟩ := chkO_ok hq
     dsimp only at c3 c16
     obtain ⟨cn, rfl⟩ : ∃ cn : Nat, c = cn := ⟨c.toNat, by omega⟩
     have e : barE ⟨(cn : Int), ws, ts⟩ l = if l.all (fun s => isStr s.f s.t (cn : Int)) = true then 0 else 1 := by unfold barE; rw [if_neg (by simpa using hq), if_neg (by omega)]
     unfold barL
     rw [e]
     exact rBare_ok cn A B n k m j ws ts w h1 h2 hn hm S sn sk l hs hsm h100 (by omega) (Lib.hid hq) _ _ (Lib.hid fun h => by rw [if_pos h]; exact ⟨rfl, if_pos rfl⟩) (Lib.hid fun h => by rw [if_neg (by rw [h]; simp)]; exact ⟨rfl, if_neg (by omega)⟩)
 · have e : barE ⟨c, ws, ts⟩ l = chkO ⟨c, ws, ts⟩ := by unfold barE; rw [if_pos hq]
   unfold barL
   rw [e, if_neg hq]
   exact rBare_err c A B n k m j ws ts w h1 h2 hn hm S sn sk l hs hsm _ (by simpa using hq) (Lib.hid rfl)
end Go.Proofs.YtaoanagmgheicaaGreat
