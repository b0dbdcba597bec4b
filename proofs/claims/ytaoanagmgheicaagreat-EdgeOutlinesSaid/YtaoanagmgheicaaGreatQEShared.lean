import Derived.Test.YtaoanagmgheicaaGreatQCircle
import Derived.Test.YtaoanagmgheicaaGreatQChn
import Derived.Test.YtaoanagmgheicaaGreatQEWays
import Derived.Test.YtaoanagmgheicaaGreatQEMeet
import Derived.Test.YtaoanagmgheicaaGreatQEnds
set_option maxHeartbeats 4000000
set_option linter.unusedSimpArgs false
set_option linter.unusedVariables false
namespace Go.Proofs.YtaoanagmgheicaaGreat
open Go.RowKit
def idsV (P : Int) (l : List Bnd) (x : List Int) : List Int × Int :=
 if chk P l ≠ 0 then ([], chk P l) else if x.all (fun i => decide (0 ≤ i ∧ i < l.length)) then (idsL (x.map (bnd l)), 0) else ([], 1)
theorem idsV_no {P : Int} {l : List Bnd} {x : List Int} (hk : chk P l = 0) {v : Int} (hv : v ∈ x) (h : ¬ (0 ≤ v ∧ v < l.length)) : idsV P l x = ([], 1) := by
 unfold idsV
 rw [if_neg (by simpa using hk), if_neg]
 intro ha
 have := List.all_eq_true.1 ha v hv
 exact h (by simpa using this)
theorem idsV_yes {P : Int} {l : List Bnd} {x : List Int} (hk : chk P l = 0) (h : ∀ i ∈ x, 0 ≤ i ∧ i < l.length) : idsV P l x = (idsL (x.map (bnd l)), 0) := by
 unfold idsV
 rw [if_neg (by simpa using hk), if_pos]
 exact List.all_eq_true.2 fun i hi => decide_eq_true (h i hi)
theorem wf_small {x : Int} (h1 : -1000000000000 ≤ x) (h2 : x ≤ 1000000000000) : Wf x := by
 unfold Wf Lit.wf
 have e1 : IntKind.i64.min = -9223372036854775808 := by decide
 have e2 : IntKind.i64.max = 9223372036854775807 := by decide
 simp
 omega
theorem ids_wf {P : Int} {l : List Bnd} {x : List Int} (hk : chk P l = 0) (h : ∀ i ∈ x, 0 ≤ i ∧ i < l.length) : ∀ b ∈ x.map (bnd l), Wf b.b := by
 intro b hb
 obtain ⟨i, hi, rfl⟩ := List.mem_map.1 hb
 obtain ⟨h0, h1⟩ := h i hi
 have hm : bnd l i ∈ l := by
  unfold bnd
  rw [List.getD_eq_getElem?_getD, List.getElem?_eq_getElem (by omega)]
  exact List.getElem_mem _
 obtain ⟨-, -, -, h4⟩ := chk_ok hk
 have := h4 _ hm
 simp only [okBnd, decide_eq_true_eq] at this
 exact wf_small (by omega) (by omega)
def RetLR (V : List Int × Int) (w : World) (e : Ending) (w' : World) : Prop :=
 ∃ A n c, e = .returned (.tuple #[.slice A n c, .int .i64 V.2]) ∧ RdI w' A n c V.1 ∧ n ≤ maxLen ∧ Below w.heap.size w w'
set_option maxRecDepth 100000 in
theorem Ids_any (P : Int) (A : Option Addr) (n k : Nat) (l : List Bnd) (w : World) (h1 : RdB w A n k l) (hn : n ≤ maxLen) (X : Option Addr) (xn xk : Nat) (x : List Int) (hx : RdI w X xn xk x) (hxm : xn ≤ 1000) :
 Calls Tryz.prog 90 #[.agg #[.int .i64 P, .slice A n k], .slice X xn xk] w (RetLR (idsV P l x) w) := by
 obtain ⟨q, hq⟩ : ∃ q, chk P l = q := ⟨_, rfl⟩
 have E1 := Lib.hid hq
 by_cases h0 : q = 0
 · subst h0
   have HK := Lib.hid hq
   have hlen := (chk_ok hq).2.2.1
   clear hq
   obtain ⟨i0, hi0, hz0, hz1, hz2⟩ := info_parts infoB
   have HI := Lib.hid hi0; have HZ0 := Lib.hid hz0; have HZ1 := Lib.hid hz1; have HZ2 := Lib.hid hz2; clear hi0 hz0 hz1 hz2
   unfold RetLR
   have R0 := Lib.hid h1; have X0 := Lib.hid hx
   go_enter Tryz.func90, Tryz.ntmps90
   obtain ⟨bs_1, bel_2⟩ := ent1 w #[.int .i64 P, .slice A n k] 46
   have r1_3 := rI h1 bel_2
   clear h1
   obtain ⟨z_4, z_5⟩ := at2 bs_1
   clear hx
   have hc := checkSystem_any P A n k l _ r1_3.out hn
   rw [E1.out] at hc
   try dsimp only at hc
   have HC := Lib.hid hc; clear hc
   go_wp2_with fail
   refine HC.out.mono ?_
   rintro e w_6 ⟨rfl, hb⟩
   clear HC
   clear z_4 z_5
   have hb_7 := Lib.hid hb
   clear hb
   replace bs_1 := kH bs_1 hb_7
   obtain ⟨z_8, z_9⟩ := at2 bs_1
   replace r1_3 := rH r1_3 hb_7
   have hl_ := (r1_3.out).len
   go_wp2
   clear z_8 z_9
   clear r1_3
   replace bel_2 := bH bel_2 hb_7
   go_loopw [7, 17] (fun s i wr => ∃ (q : Nat) (Ai : Option Addr) (ci : Nat), q ≤ xn ∧ i = .int .i64 q ∧ s = .slice Ai q ci ∧ OwnsX wr (w.heap.size + 1) 30 4 (.slice Ai q ci) q (bcells ((x.take q).map (bnd l))) ∧ (∀ i ∈ x.take q, 0 ≤ i ∧ i < l.length) ∧ Blk wr (w.heap.size) 46 #[.int .i64 P, .slice A n k] ∧ Below w.heap.size w wr) (fun s i _ => xn - (intOf i).toNat)
   case atStart => exact ⟨0, none, 0, Nat.zero_le _, rfl, rfl, .inr ⟨none, rfl, rfl, rfl⟩, by simp, bs_1.out, bel_2.out⟩
   case round =>
    clear bel_2 bs_1
    obtain ⟨q, Ai, ci, hq, rfl, rfl, i1, hin, i3, i4⟩ := hrel
    have ox_1010 := Lib.hid (i1)
    have bs_1011 := Lib.hid (i3)
    have bel_1012 := Lib.hid (i4)
    clear i1 i3 i4
    have HIN := Lib.hid hin; clear hin
    have hgs := Blk.lt (bs_1011.out)
    by_cases hlt : q < xn
    · have hlt' : (q : Int) < xn := by omega
      obtain ⟨xb, xo, v, hX, xlt, hxq, hxc⟩ := RdI.get (RdI.below X0.out bel_1012.out) hlt
      subst hX
      have htk : x.take (q + 1) = x.take q ++ [v] := by rw [List.take_add_one, hxq]; rfl
      have HTK := Lib.hid htk; clear htk
      have hvm := List.mem_of_getElem? hxq; have HVM := Lib.hid hvm; clear hvm hxq
      obtain ⟨z_2013, z_2014⟩ := at2 bs_1011
      by_cases hin : 0 ≤ v ∧ v ≤ (n : Int) - 1
      · have hwn := fun w => within_yes v 0 ((n : Int) - 1) w hin
        have HWN := Lib.hid hwn; clear hwn
        obtain ⟨hv0, hv1⟩ := hin
        obtain ⟨v, rfl⟩ := Int.eq_ofNat_of_zero_le hv0
        obtain ⟨⟨f, t, mm, ib⟩, hx2⟩ : ∃ b, l[v]? = some b := ⟨l[v]'(by omega), List.getElem?_eq_getElem _⟩
        obtain ⟨bb, ob, hBB⟩ := rdB_some R0.out hx2
        subst hBB
        obtain ⟨e0, e1, e2, e3, el⟩ := rdB_at (RdB.below R0.out bel_1012.out) hx2
        have hb2 : bnd l (v : Int) = ⟨f, t, mm, ib⟩ := bnd_at hx2
        have HB2 := Lib.hid hb2; clear hb2 hx2
        have NB := Lib.hid (Blk.new wr 30 #[.int .i64 f, .int .i64 t, .int .i64 mm, .int .i64 ib])
        have OXA := Lib.hid (OwnsX.alloc (ox_1010.out) (.cells #[.int .i64 f, .int .i64 t, .int .i64 mm, .int .i64 ib] 30))
        have BSA := Lib.hid (Blk.alloc (bs_1011.out) (.cells #[.int .i64 f, .int .i64 t, .int .i64 mm, .int .i64 ib] 30))
        have BLA := Lib.hid (Below.alloc (bel_1012.out) ((bel_1012.out).size) (.cells #[.int .i64 f, .int .i64 t, .int .i64 mm, .int .i64 ib] 30))
        have hsz_ := Blk.lt BSA.out
        go_wp2_with (first | (go_at_call 128; refine (HWN.out _).mono ?_; rintro e w' ⟨rfl, rfl⟩) | (at_builtin; refine wpList_append_X _ rfl (.tmp 28) (.tmp 34) 22 rfl (w.heap.size + 1) 30 i0 _ 4 32 Tryz.underlying22 HI.out HZ0.out HZ1.out HZ2.out rfl (by omega) Ai q ci _ rfl OXA.out ⟨wr.heap.size, 0, none⟩ 1 1 (bcells [⟨f, t, mm, ib⟩]) rfl rfl (cells_add (cs := bcells [⟨f, t, mm, ib⟩]) (show Blk _ _ _ (bcells [⟨f, t, mm, ib⟩]).toArray from NB.out)) (bcells_one _) (by omega) (by unfold maxLen; omega) (by omega) hsz_ ?_; intro g5 c5 w5 hown5 hb5 hg5 _; have HO5 := Lib.hid hown5; have HB5 := Lib.hid hb5; clear hown5 hb5))
        go_roundw
        case rel => exact ⟨q + 1, some ⟨g5, 0, none⟩, c5, by omega, by go_num, rfl, by rw [HTK.out, List.map_append, bcells_append, List.map_cons, List.map_nil, HB2.out]; exact .inl HO5.out, by rw [HTK.out]; intro i hi; rcases List.mem_append.1 hi with hi | hi; exact HIN.out i hi; (simp only [List.mem_singleton] at hi; subst hi; omega), Blk.below BSA.out HB5.out (by omega), Below.trans BLA.out (Below.mono HB5.out (by omega))⟩
        case measure => simp [intOf]; omega
      · have hwn := fun w => within_no v 0 ((n : Int) - 1) w hin
        have HWN := Lib.hid hwn; clear hwn
        have hno : idsV P l x = ([], 1) := idsV_no HK.out HVM.out (by omega)
        have HNO := Lib.hid hno; clear hno hin
        go_wp2_with (go_at_call 128; refine (HWN.out _).mono ?_; rintro e w' ⟨rfl, rfl⟩)
        go_ret2
        exact ⟨none, 0, 0, by simp [HNO.out], by rw [HNO.out]; exact RdI.nil_ _, by unfold maxLen; omega, bel_1012.out⟩
    · obtain rfl : xn = q := by omega
      have hxl := X0.out.len
      have hall := HIN.out; rw [List.take_of_length_le (by omega)] at hall
      have hox := ox_1010.out; rw [List.take_of_length_le (by omega)] at hox
      have hok : idsV P l x = (idsL (x.map (bnd l)), 0) := idsV_yes HK.out hall
      have HOK := Lib.hid hok
      have hrd := rdB_of hox
      have hwf : ∀ b ∈ x.map (bnd l), Wf b.b := ids_wf HK.out hall
      have hc := idsOf_any Ai xn ci (x.map (bnd l)) hwf (by omega) wr hrd
      have HC := Lib.hid hc; clear hc hall hox hok hrd hwf hxl
      go_wp2_with fail
      refine HC.out.mono ?_
      rintro e w9 ⟨A9, n9, c9, rfl, ho, hb⟩
      clear HC
      have hrd := OwnI.rd ho; have hmx := Nat.le_trans hrd.1.cap hrd.2
      have hb_2013 := Lib.hid hb
      go_wp2
      go_ret2
      replace bel_1012 := bH bel_1012 hb_2013
      exact ⟨A9, n9, c9, by simp [HOK.out], by rw [HOK.out]; exact hrd.1, hmx, bel_1012.out⟩
 · have hne : (q != 0) = true := by simpa using h0
   have hV : idsV P l x = ([], q) := by unfold idsV; rw [hq, if_pos h0]
   rw [hV]
   clear hV hq h0
   unfold RetLR
   go_enter Tryz.func90, Tryz.ntmps90
   obtain ⟨bs_1, bel_2⟩ := ent1 w #[.int .i64 P, .slice A n k] 46
   have r1_3 := rI h1 bel_2
   clear h1
   obtain ⟨z_4, z_5⟩ := at2 bs_1
   clear hx
   have hc := checkSystem_any P A n k l _ r1_3.out hn
   rw [E1.out] at hc
   try dsimp only at hc
   have HC := Lib.hid hc; clear hc
   go_wp2_with fail
   refine HC.out.mono ?_
   rintro e w_6 ⟨rfl, hb⟩
   clear HC
   clear z_4 z_5
   have hb_7 := Lib.hid hb
   clear hb
   replace bs_1 := kH bs_1 hb_7
   obtain ⟨z_8, z_9⟩ := at2 bs_1
   go_wp2
   go_ret2
   replace bel_2 := bH bel_2 hb_7
   exact ⟨none, 0, 0, rfl, RdI.nil_ _, by unfold maxLen; omega, bel_2.out⟩
end Go.Proofs.YtaoanagmgheicaaGreat
set_option linter.unusedSimpArgs false
set_option linter.unusedVariables false
namespace Go.Proofs.YtaoanagmgheicaaGreat
open Go.RowKit
theorem jL_chk {a b : Otl} {p : Prg} (h : asked a b p = 0) (u : Bool) : chk (jP u a b p) (jL u a b p) = 0 := by
 cases u
 · exact wayL_chk h
 · exact turnL_chk h
theorem jL_len {a b : Otl} {p : Prg} (h : asked a b p = 0) (u : Bool) : (jL u a b p).length ≤ 400 := (chk_ok (jL_chk h u)).2.2.1
theorem CheckCircle_is (p : Int) (A B : Option Addr) (n c m d : Nat) (l : List Bnd) (x : List Int) (w : World) (hr : RdB w A n c l) (hn : n ≤ maxLen) (hq : RdI w B m d x) (hm : m ≤ maxLen) (V : Bool × Int) (hV : checkCircleV p l x = V) :
 Calls Tryz.prog 62 #[.agg #[.int .i64 p, .slice A n c], .slice B m d] w fun e w' => e = .returned (.tuple #[.bool V.1, .int .i64 V.2]) ∧ Below w.heap.size w w' := by
 subst hV
 exact CheckCircle_any p A B n c m d l x w hr hn hq hm
end Go.Proofs.YtaoanagmgheicaaGreat
set_option linter.unusedSimpArgs false
set_option linter.unusedVariables false
namespace Go.Proofs.YtaoanagmgheicaaGreat
open Go.RowKit
def erestsV (u : Bool) (a b : Otl) (p : Prg) (x : List Int) : List Int × Int :=
 if asked a b p = 0 then (if (checkCircleV (jP u a b p) (jL u a b p) x).1 then idsV (jP u a b p) (jL u a b p) x else ([], 1)) else ([], asked a b p)
set_option maxRecDepth 100000 in
theorem Rests_any (c : Int) (A B : Option Addr) (n k m j : Nat) (ws ts : List Bnd) (d : Int) (C D : Option Addr) (n2 k2 m2 j2 : Nat) (ws2 ts2 : List Bnd) (p1 p2 p3 p4 : Int) (w : World) (h1 : RdB w A n k ws) (h2 : RdB w B m j ts) (hn : n ≤ maxLen) (hm : m ≤ maxLen) (h3 : RdB w C n2 k2 ws2) (h4 : RdB w D m2 j2 ts2) (hn2 : n2 ≤ maxLen) (hm2 : m2 ≤ maxLen) (u : Bool) (X : Option Addr) (xn xk : Nat) (x : List Int) (hx : RdI w X xn xk x) (hxm : xn ≤ 1000) : Calls Tryz.prog 40 #[.agg #[.int .i64 c, .slice A n k, .slice B m j], .agg #[.int .i64 d, .slice C n2 k2, .slice D m2 j2], .agg #[.int .i64 p1, .int .i64 p2, .int .i64 p3, .int .i64 p4], .agg #[.bool u, .slice X xn xk]] w (RetLR (erestsV u ⟨c, ws, ts⟩ ⟨d, ws2, ts2⟩ ⟨p1, p2, p3, p4⟩ x) w) := by
 unfold erestsV
 by_cases hq : asked ⟨c, ws, ts⟩ ⟨d, ws2, ts2⟩ ⟨p1, p2, p3, p4⟩ = 0
 · rw [if_pos hq]
   have HQ1 := Lib.hid (asked_ok hq).1
   have hlen := jL_len hq u
   obtain ⟨P, hP⟩ : ∃ P, jP u ⟨c, ws, ts⟩ ⟨d, ws2, ts2⟩ ⟨p1, p2, p3, p4⟩ = P := ⟨_, rfl⟩
   obtain ⟨L, hL⟩ : ∃ P, jL u ⟨c, ws, ts⟩ ⟨d, ws2, ts2⟩ ⟨p1, p2, p3, p4⟩ = P := ⟨_, rfl⟩
   rw [hP, hL]
   rw [hL] at hlen
   have HL1 := Lib.hid hlen; have HP := Lib.hid hP; have HL := Lib.hid hL; clear hP hL hlen
   obtain ⟨V, hV⟩ : ∃ V, checkCircleV P L x = V := ⟨_, rfl⟩
   rw [hV]
   have EV := Lib.hid hV; clear hV
   obtain ⟨V1, V2⟩ := V
   obtain ⟨I, hI⟩ : ∃ V, idsV P L x = V := ⟨_, rfl⟩
   rw [hI]
   have EI := Lib.hid hI; clear hI
   obtain ⟨I1, I2⟩ := I
   unfold RetLR
   dsimp only
   cases V1
   · simp only [Bool.false_eq_true, if_false]
     go_enter Tryz.func40, Tryz.ntmps40
     have bel_1 := Lib.hid (show Below w.heap.size w w from Below.refl _ w)
     have ra_2 := Lib.hid (h1)
     clear h1
     have rb_3 := Lib.hid (h2)
     clear h2
     have rc_4 := Lib.hid (h3)
     clear h3
     have rd_5 := Lib.hid (h4)
     clear h4
     have rx_6 := Lib.hid (hx)
     clear hx
     obtain ⟨o_, ho_⟩ : ∃ o, o = ((.cells #[.int .i64 c, .slice A n k, .slice B m j] 24) : Obj) := ⟨_, rfl⟩
     replace bel_1 := bA bel_1 o_
     replace ra_2 := rA ra_2 o_
     replace rb_3 := rA rb_3 o_
     replace rc_4 := rA rc_4 o_
     replace rd_5 := rA rd_5 o_
     replace rx_6 := iA rx_6 o_
     subst ho_
     have ba_7 := Lib.hid (Blk.new w 24 #[.int .i64 c, .slice A n k, .slice B m j])
     obtain ⟨o_, ho_⟩ : ∃ o, o = ((.cells #[.int .i64 d, .slice C n2 k2, .slice D m2 j2] 24) : Obj) := ⟨_, rfl⟩
     replace bel_1 := bA bel_1 o_
     replace ra_2 := rA ra_2 o_
     replace rb_3 := rA rb_3 o_
     replace rc_4 := rA rc_4 o_
     replace rd_5 := rA rd_5 o_
     replace rx_6 := iA rx_6 o_
     replace ba_7 := kA ba_7 o_
     subst ho_
     have nb_ := Blk.new (w.alloc (.cells #[.int .i64 c, .slice A n k, .slice B m j] 24)) 24 #[.int .i64 d, .slice C n2 k2, .slice D m2 j2]
     simp only [World.size_alloc] at nb_
     have bb_8 := Lib.hid nb_; clear nb_
     obtain ⟨o_, ho_⟩ : ∃ o, o = ((.cells #[.int .i64 p1, .int .i64 p2, .int .i64 p3, .int .i64 p4] 28) : Obj) := ⟨_, rfl⟩
     replace bel_1 := bA bel_1 o_
     replace ra_2 := rA ra_2 o_
     replace rb_3 := rA rb_3 o_
     replace rc_4 := rA rc_4 o_
     replace rd_5 := rA rd_5 o_
     replace rx_6 := iA rx_6 o_
     replace ba_7 := kA ba_7 o_
     replace bb_8 := kA bb_8 o_
     subst ho_
     have nb_ := Blk.new ((w.alloc (.cells #[.int .i64 c, .slice A n k, .slice B m j] 24)).alloc (.cells #[.int .i64 d, .slice C n2 k2, .slice D m2 j2] 24)) 28 #[.int .i64 p1, .int .i64 p2, .int .i64 p3, .int .i64 p4]
     simp only [World.size_alloc] at nb_
     have bp_9 := Lib.hid nb_; clear nb_
     obtain ⟨o_, ho_⟩ : ∃ o, o = ((.cells #[.bool u, .slice X xn xk] 33) : Obj) := ⟨_, rfl⟩
     replace bel_1 := bA bel_1 o_
     replace ra_2 := rA ra_2 o_
     replace rb_3 := rA rb_3 o_
     replace rc_4 := rA rc_4 o_
     replace rd_5 := rA rd_5 o_
     replace rx_6 := iA rx_6 o_
     replace ba_7 := kA ba_7 o_
     replace bb_8 := kA bb_8 o_
     replace bp_9 := kA bp_9 o_
     subst ho_
     have nb_ := Blk.new (((w.alloc (.cells #[.int .i64 c, .slice A n k, .slice B m j] 24)).alloc (.cells #[.int .i64 d, .slice C n2 k2, .slice D m2 j2] 24)).alloc (.cells #[.int .i64 p1, .int .i64 p2, .int .i64 p3, .int .i64 p4] 28)) 33 #[.bool u, .slice X xn xk]
     simp only [World.size_alloc] at nb_
     have bf_10 := Lib.hid nb_; clear nb_
     obtain ⟨z_11, z_12, z_13⟩ := at3 ba_7
     obtain ⟨z_14, z_15, z_16⟩ := at3 bb_8
     obtain ⟨z_17, z_18, z_19, z_20⟩ := at4 bp_9
     obtain ⟨z_21, z_22⟩ := at2 bf_10
     have hc := pairOf_yes c A B n k m j ws ts d C D n2 k2 m2 j2 ws2 ts2 p1 p2 p3 p4 _ ra_2.out rb_3.out hn hm rc_4.out rd_5.out hn2 hm2 hq
     have HC := Lib.hid hc; clear hc
     go_wp2_with fail
     refine HC.out.mono ?_
     rintro e w_23 ⟨rfl, hb⟩
     clear HC
     clear z_11 z_12 z_13 z_14 z_15 z_16 z_17 z_18 z_19 z_20 z_21 z_22
     have hb_24 := Lib.hid hb
     clear hb
     replace ba_7 := kH ba_7 hb_24
     obtain ⟨z_25, z_26, z_27⟩ := at3 ba_7
     replace bb_8 := kH bb_8 hb_24
     obtain ⟨z_28, z_29, z_30⟩ := at3 bb_8
     replace bp_9 := kH bp_9 hb_24
     obtain ⟨z_31, z_32, z_33, z_34⟩ := at4 bp_9
     replace bf_10 := kH bf_10 hb_24
     obtain ⟨z_35, z_36⟩ := at2 bf_10
     clear z_25 z_26 z_27 z_28 z_29 z_30 z_31 z_32 z_33 z_34 z_35 z_36
     obtain ⟨o_, ho_⟩ : ∃ o, o = ((.cells #[.int .i64 c, .slice A n k, .slice B m j, .int .i64 d, .slice C n2 k2, .slice D m2 j2, .int .i64 p1, .int .i64 p2, .int .i64 p3, .int .i64 p4] 101) : Obj) := ⟨_, rfl⟩
     replace bel_1 := bA (bH bel_1 hb_24) o_
     replace ra_2 := rA (rH ra_2 hb_24) o_
     replace rb_3 := rA (rH rb_3 hb_24) o_
     replace rc_4 := rA (rH rc_4 hb_24) o_
     replace rd_5 := rA (rH rd_5 hb_24) o_
     replace rx_6 := iA (iH rx_6 hb_24) o_
     replace ba_7 := kA ba_7 o_
     replace bb_8 := kA bb_8 o_
     replace bp_9 := kA bp_9 o_
     replace bf_10 := kA bf_10 o_
     subst ho_
     have bq_37 := Lib.hid (Blk.new w_23 101 #[.int .i64 c, .slice A n k, .slice B m j, .int .i64 d, .slice C n2 k2, .slice D m2 j2, .int .i64 p1, .int .i64 p2, .int .i64 p3, .int .i64 p4])
     obtain ⟨z_38, z_39, z_40⟩ := at3 ba_7
     obtain ⟨z_41, z_42, z_43⟩ := at3 bb_8
     obtain ⟨z_44, z_45, z_46, z_47⟩ := at4 bp_9
     obtain ⟨z_48, z_49⟩ := at2 bf_10
     obtain ⟨z_50, z_51, z_52, z_53, z_54, z_55, z_56, z_57, z_58, z_59⟩ := at10 bq_37
     have hc := joint_q u c A B n k m j ws ts d C D n2 k2 m2 j2 ws2 ts2 p1 p2 p3 p4 _ ra_2.out rb_3.out hn hm rc_4.out rd_5.out hn2 hm2 HQ1.out
     rw [HP.out, HL.out] at hc
     try dsimp only at hc
     have HC := Lib.hid hc; clear hc
     go_wp2_with fail
     refine HC.out.mono ?_
     rintro e w_60 ⟨Ar, nr, kr, rfl, hrl, hb⟩
     clear HC
     clear z_38 z_39 z_40 z_41 z_42 z_43 z_44 z_45 z_46 z_47 z_48 z_49 z_50 z_51 z_52 z_53 z_54 z_55 z_56 z_57 z_58 z_59
     have hb_61 := Lib.hid hb
     clear hb
     have rl_62 := Lib.hid (hrl)
     clear hrl
     obtain ⟨o_, ho_⟩ : ∃ o, o = ((.cells #[.int .i64 P, .slice Ar nr kr] 46) : Obj) := ⟨_, rfl⟩
     replace bel_1 := bA (bH bel_1 hb_61) o_
     replace ra_2 := rA (rH ra_2 hb_61) o_
     replace rb_3 := rA (rH rb_3 hb_61) o_
     replace rc_4 := rA (rH rc_4 hb_61) o_
     replace rd_5 := rA (rH rd_5 hb_61) o_
     replace rx_6 := iA (iH rx_6 hb_61) o_
     replace ba_7 := kA (kH ba_7 hb_61) o_
     replace bb_8 := kA (kH bb_8 hb_61) o_
     replace bp_9 := kA (kH bp_9 hb_61) o_
     replace bf_10 := kA (kH bf_10 hb_61) o_
     replace bq_37 := kA (kH bq_37 hb_61) o_
     replace rl_62 := rA rl_62 o_
     subst ho_
     have bs_63 := Lib.hid (Blk.new w_60 46 #[.int .i64 P, .slice Ar nr kr])
     obtain ⟨z_64, z_65, z_66⟩ := at3 ba_7
     obtain ⟨z_67, z_68, z_69⟩ := at3 bb_8
     obtain ⟨z_70, z_71, z_72, z_73⟩ := at4 bp_9
     obtain ⟨z_74, z_75⟩ := at2 bf_10
     obtain ⟨z_76, z_77, z_78, z_79, z_80, z_81, z_82, z_83, z_84, z_85⟩ := at10 bq_37
     obtain ⟨z_86, z_87⟩ := at2 bs_63
     have hl_ : nr ≤ maxLen := by have h1 := (rl_62.out).len; have h2 := HL1.out; unfold maxLen; omega
     have hc := CheckCircle_is P Ar X nr kr xn xk L x _ rl_62.out hl_ rx_6.out (by unfold maxLen; omega) _ EV.out
     have HC := Lib.hid hc; clear hc
     go_wp2_with fail
     refine HC.out.mono ?_
     rintro e w_88 ⟨rfl, hb⟩
     clear HC
     clear z_64 z_65 z_66 z_67 z_68 z_69 z_70 z_71 z_72 z_73 z_74 z_75 z_76 z_77 z_78 z_79 z_80 z_81 z_82 z_83 z_84 z_85 z_86 z_87
     have hb_89 := Lib.hid hb
     clear hb
     replace ba_7 := kH ba_7 hb_89
     obtain ⟨z_90, z_91, z_92⟩ := at3 ba_7
     replace bb_8 := kH bb_8 hb_89
     obtain ⟨z_93, z_94, z_95⟩ := at3 bb_8
     replace bp_9 := kH bp_9 hb_89
     obtain ⟨z_96, z_97, z_98, z_99⟩ := at4 bp_9
     replace bf_10 := kH bf_10 hb_89
     obtain ⟨z_100, z_101⟩ := at2 bf_10
     replace bq_37 := kH bq_37 hb_89
     obtain ⟨z_102, z_103, z_104, z_105, z_106, z_107, z_108, z_109, z_110, z_111⟩ := at10 bq_37
     replace bs_63 := kH bs_63 hb_89
     obtain ⟨z_112, z_113⟩ := at2 bs_63
     go_wp2
     go_ret2
     replace bel_1 := bH bel_1 hb_89
     exact ⟨none, 0, 0, rfl, RdI.nil_ _, by unfold maxLen; omega, bel_1.out⟩
   · simp only [if_true]
     go_enter Tryz.func40, Tryz.ntmps40
     have bel_1 := Lib.hid (show Below w.heap.size w w from Below.refl _ w)
     have ra_2 := Lib.hid (h1)
     clear h1
     have rb_3 := Lib.hid (h2)
     clear h2
     have rc_4 := Lib.hid (h3)
     clear h3
     have rd_5 := Lib.hid (h4)
     clear h4
     have rx_6 := Lib.hid (hx)
     clear hx
     obtain ⟨o_, ho_⟩ : ∃ o, o = ((.cells #[.int .i64 c, .slice A n k, .slice B m j] 24) : Obj) := ⟨_, rfl⟩
     replace bel_1 := bA bel_1 o_
     replace ra_2 := rA ra_2 o_
     replace rb_3 := rA rb_3 o_
     replace rc_4 := rA rc_4 o_
     replace rd_5 := rA rd_5 o_
     replace rx_6 := iA rx_6 o_
     subst ho_
     have ba_7 := Lib.hid (Blk.new w 24 #[.int .i64 c, .slice A n k, .slice B m j])
     obtain ⟨o_, ho_⟩ : ∃ o, o = ((.cells #[.int .i64 d, .slice C n2 k2, .slice D m2 j2] 24) : Obj) := ⟨_, rfl⟩
     replace bel_1 := bA bel_1 o_
     replace ra_2 := rA ra_2 o_
     replace rb_3 := rA rb_3 o_
     replace rc_4 := rA rc_4 o_
     replace rd_5 := rA rd_5 o_
     replace rx_6 := iA rx_6 o_
     replace ba_7 := kA ba_7 o_
     subst ho_
     have nb_ := Blk.new (w.alloc (.cells #[.int .i64 c, .slice A n k, .slice B m j] 24)) 24 #[.int .i64 d, .slice C n2 k2, .slice D m2 j2]
     simp only [World.size_alloc] at nb_
     have bb_8 := Lib.hid nb_; clear nb_
     obtain ⟨o_, ho_⟩ : ∃ o, o = ((.cells #[.int .i64 p1, .int .i64 p2, .int .i64 p3, .int .i64 p4] 28) : Obj) := ⟨_, rfl⟩
     replace bel_1 := bA bel_1 o_
     replace ra_2 := rA ra_2 o_
     replace rb_3 := rA rb_3 o_
     replace rc_4 := rA rc_4 o_
     replace rd_5 := rA rd_5 o_
     replace rx_6 := iA rx_6 o_
     replace ba_7 := kA ba_7 o_
     replace bb_8 := kA bb_8 o_
     subst ho_
     have nb_ := Blk.new ((w.alloc (.cells #[.int .i64 c, .slice A n k, .slice B m j] 24)).alloc (.cells #[.int .i64 d, .slice C n2 k2, .slice D m2 j2] 24)) 28 #[.int .i64 p1, .int .i64 p2, .int .i64 p3, .int .i64 p4]
     simp only [World.size_alloc] at nb_
     have bp_9 := Lib.hid nb_; clear nb_
     obtain ⟨o_, ho_⟩ : ∃ o, o = ((.cells #[.bool u, .slice X xn xk] 33) : Obj) := ⟨_, rfl⟩
     replace bel_1 := bA bel_1 o_
     replace ra_2 := rA ra_2 o_
     replace rb_3 := rA rb_3 o_
     replace rc_4 := rA rc_4 o_
     replace rd_5 := rA rd_5 o_
     replace rx_6 := iA rx_6 o_
     replace ba_7 := kA ba_7 o_
     replace bb_8 := kA bb_8 o_
     replace bp_9 := kA bp_9 o_
     subst ho_
     have nb_ := Blk.new (((w.alloc (.cells #[.int .i64 c, .slice A n k, .slice B m j] 24)).alloc (.cells #[.int .i64 d, .slice C n2 k2, .slice D m2 j2] 24)).alloc (.cells #[.int .i64 p1, .int .i64 p2, .int .i64 p3, .int .i64 p4] 28)) 33 #[.bool u, .slice X xn xk]
     simp only [World.size_alloc] at nb_
     have bf_10 := Lib.hid nb_; clear nb_
     obtain ⟨z_11, z_12, z_13⟩ := at3 ba_7
     obtain ⟨z_14, z_15, z_16⟩ := at3 bb_8
     obtain ⟨z_17, z_18, z_19, z_20⟩ := at4 bp_9
     obtain ⟨z_21, z_22⟩ := at2 bf_10
     have hc := pairOf_yes c A B n k m j ws ts d C D n2 k2 m2 j2 ws2 ts2 p1 p2 p3 p4 _ ra_2.out rb_3.out hn hm rc_4.out rd_5.out hn2 hm2 hq
     have HC := Lib.hid hc; clear hc
     go_wp2_with fail
     refine HC.out.mono ?_
     rintro e w_23 ⟨rfl, hb⟩
     clear HC
     clear z_11 z_12 z_13 z_14 z_15 z_16 z_17 z_18 z_19 z_20 z_21 z_22
     have hb_24 := Lib.hid hb
     clear hb
     replace ba_7 := kH ba_7 hb_24
     obtain ⟨z_25, z_26, z_27⟩ := at3 ba_7
     replace bb_8 := kH bb_8 hb_24
     obtain ⟨z_28, z_29, z_30⟩ := at3 bb_8
     replace bp_9 := kH bp_9 hb_24
     obtain ⟨z_31, z_32, z_33, z_34⟩ := at4 bp_9
     replace bf_10 := kH bf_10 hb_24
     obtain ⟨z_35, z_36⟩ := at2 bf_10
     clear z_25 z_26 z_27 z_28 z_29 z_30 z_31 z_32 z_33 z_34 z_35 z_36
     obtain ⟨o_, ho_⟩ : ∃ o, o = ((.cells #[.int .i64 c, .slice A n k, .slice B m j, .int .i64 d, .slice C n2 k2, .slice D m2 j2, .int .i64 p1, .int .i64 p2, .int .i64 p3, .int .i64 p4] 101) : Obj) := ⟨_, rfl⟩
     replace bel_1 := bA (bH bel_1 hb_24) o_
     replace ra_2 := rA (rH ra_2 hb_24) o_
     replace rb_3 := rA (rH rb_3 hb_24) o_
     replace rc_4 := rA (rH rc_4 hb_24) o_
     replace rd_5 := rA (rH rd_5 hb_24) o_
     replace rx_6 := iA (iH rx_6 hb_24) o_
     replace ba_7 := kA ba_7 o_
     replace bb_8 := kA bb_8 o_
     replace bp_9 := kA bp_9 o_
     replace bf_10 := kA bf_10 o_
     subst ho_
     have bq_37 := Lib.hid (Blk.new w_23 101 #[.int .i64 c, .slice A n k, .slice B m j, .int .i64 d, .slice C n2 k2, .slice D m2 j2, .int .i64 p1, .int .i64 p2, .int .i64 p3, .int .i64 p4])
     obtain ⟨z_38, z_39, z_40⟩ := at3 ba_7
     obtain ⟨z_41, z_42, z_43⟩ := at3 bb_8
     obtain ⟨z_44, z_45, z_46, z_47⟩ := at4 bp_9
     obtain ⟨z_48, z_49⟩ := at2 bf_10
     obtain ⟨z_50, z_51, z_52, z_53, z_54, z_55, z_56, z_57, z_58, z_59⟩ := at10 bq_37
     have hc := joint_q u c A B n k m j ws ts d C D n2 k2 m2 j2 ws2 ts2 p1 p2 p3 p4 _ ra_2.out rb_3.out hn hm rc_4.out rd_5.out hn2 hm2 HQ1.out
     rw [HP.out, HL.out] at hc
     try dsimp only at hc
     have HC := Lib.hid hc; clear hc
     go_wp2_with fail
     refine HC.out.mono ?_
     rintro e w_60 ⟨Ar, nr, kr, rfl, hrl, hb⟩
     clear HC
     clear z_38 z_39 z_40 z_41 z_42 z_43 z_44 z_45 z_46 z_47 z_48 z_49 z_50 z_51 z_52 z_53 z_54 z_55 z_56 z_57 z_58 z_59
     have hb_61 := Lib.hid hb
     clear hb
     have rl_62 := Lib.hid (hrl)
     clear hrl
     obtain ⟨o_, ho_⟩ : ∃ o, o = ((.cells #[.int .i64 P, .slice Ar nr kr] 46) : Obj) := ⟨_, rfl⟩
     replace bel_1 := bA (bH bel_1 hb_61) o_
     replace ra_2 := rA (rH ra_2 hb_61) o_
     replace rb_3 := rA (rH rb_3 hb_61) o_
     replace rc_4 := rA (rH rc_4 hb_61) o_
     replace rd_5 := rA (rH rd_5 hb_61) o_
     replace rx_6 := iA (iH rx_6 hb_61) o_
     replace ba_7 := kA (kH ba_7 hb_61) o_
     replace bb_8 := kA (kH bb_8 hb_61) o_
     replace bp_9 := kA (kH bp_9 hb_61) o_
     replace bf_10 := kA (kH bf_10 hb_61) o_
     replace bq_37 := kA (kH bq_37 hb_61) o_
     replace rl_62 := rA rl_62 o_
     subst ho_
     have bs_63 := Lib.hid (Blk.new w_60 46 #[.int .i64 P, .slice Ar nr kr])
     obtain ⟨z_64, z_65, z_66⟩ := at3 ba_7
     obtain ⟨z_67, z_68, z_69⟩ := at3 bb_8
     obtain ⟨z_70, z_71, z_72, z_73⟩ := at4 bp_9
     obtain ⟨z_74, z_75⟩ := at2 bf_10
     obtain ⟨z_76, z_77, z_78, z_79, z_80, z_81, z_82, z_83, z_84, z_85⟩ := at10 bq_37
     obtain ⟨z_86, z_87⟩ := at2 bs_63
     have hl_ : nr ≤ maxLen := by have h1 := (rl_62.out).len; have h2 := HL1.out; unfold maxLen; omega
     have hc := CheckCircle_is P Ar X nr kr xn xk L x _ rl_62.out hl_ rx_6.out (by unfold maxLen; omega) _ EV.out
     have HC := Lib.hid hc; clear hc
     go_wp2_with fail
     refine HC.out.mono ?_
     rintro e w_88 ⟨rfl, hb⟩
     clear HC
     clear z_64 z_65 z_66 z_67 z_68 z_69 z_70 z_71 z_72 z_73 z_74 z_75 z_76 z_77 z_78 z_79 z_80 z_81 z_82 z_83 z_84 z_85 z_86 z_87
     have hb_89 := Lib.hid hb
     clear hb
     replace ba_7 := kH ba_7 hb_89
     obtain ⟨z_90, z_91, z_92⟩ := at3 ba_7
     replace bb_8 := kH bb_8 hb_89
     obtain ⟨z_93, z_94, z_95⟩ := at3 bb_8
     replace bp_9 := kH bp_9 hb_89
     obtain ⟨z_96, z_97, z_98, z_99⟩ := at4 bp_9
     replace bf_10 := kH bf_10 hb_89
     obtain ⟨z_100, z_101⟩ := at2 bf_10
     replace bq_37 := kH bq_37 hb_89
     obtain ⟨z_102, z_103, z_104, z_105, z_106, z_107, z_108, z_109, z_110, z_111⟩ := at10 bq_37
     replace bs_63 := kH bs_63 hb_89
     obtain ⟨z_112, z_113⟩ := at2 bs_63
     replace rl_62 := rH rl_62 hb_89
     replace rx_6 := iH rx_6 hb_89
     have hc := Ids_any P Ar nr kr L _ rl_62.out hl_ X xn xk x rx_6.out hxm
     unfold RetLR at hc
     rw [EI.out] at hc
     dsimp only at hc
     have hc := hc
     have HC := Lib.hid hc; clear hc
     go_wp2_with fail
     refine HC.out.mono ?_
     rintro e w_114 ⟨A9, n9, c9, rfl, hr9, hm9, hb⟩
     clear HC
     clear z_90 z_91 z_92 z_93 z_94 z_95 z_96 z_97 z_98 z_99 z_100 z_101 z_102 z_103 z_104 z_105 z_106 z_107 z_108 z_109 z_110 z_111 z_112 z_113
     have hb_115 := Lib.hid hb
     clear hb
     have r9_116 := Lib.hid (hr9)
     clear hr9
     go_wp2
     go_ret2
     replace bel_1 := bH (bH bel_1 hb_89) hb_115
     exact ⟨A9, n9, c9, rfl, r9_116.out, hm9, bel_1.out⟩
 · rw [if_neg hq]
   obtain ⟨q, hq2⟩ : ∃ q, asked ⟨c, ws, ts⟩ ⟨d, ws2, ts2⟩ ⟨p1, p2, p3, p4⟩ = q := ⟨_, rfl⟩
   rw [hq2] at hq
   rw [hq2]
   have hne := hq
   have hqe : (q != 0) = true := by simpa using hq
   clear hq
   have hq := hq2; clear hq2
   unfold RetLR
   dsimp only
   go_enter Tryz.func40, Tryz.ntmps40
   have bel_1 := Lib.hid (show Below w.heap.size w w from Below.refl _ w)
   have ra_2 := Lib.hid (h1)
   clear h1
   have rb_3 := Lib.hid (h2)
   clear h2
   have rc_4 := Lib.hid (h3)
   clear h3
   have rd_5 := Lib.hid (h4)
   clear h4
   have rx_6 := Lib.hid (hx)
   clear hx
   obtain ⟨o_, ho_⟩ : ∃ o, o = ((.cells #[.int .i64 c, .slice A n k, .slice B m j] 24) : Obj) := ⟨_, rfl⟩
   replace bel_1 := bA bel_1 o_
   replace ra_2 := rA ra_2 o_
   replace rb_3 := rA rb_3 o_
   replace rc_4 := rA rc_4 o_
   replace rd_5 := rA rd_5 o_
   replace rx_6 := iA rx_6 o_
   subst ho_
   have ba_7 := Lib.hid (Blk.new w 24 #[.int .i64 c, .slice A n k, .slice B m j])
   obtain ⟨o_, ho_⟩ : ∃ o, o = ((.cells #[.int .i64 d, .slice C n2 k2, .slice D m2 j2] 24) : Obj) := ⟨_, rfl⟩
   replace bel_1 := bA bel_1 o_
   replace ra_2 := rA ra_2 o_
   replace rb_3 := rA rb_3 o_
   replace rc_4 := rA rc_4 o_
   replace rd_5 := rA rd_5 o_
   replace rx_6 := iA rx_6 o_
   replace ba_7 := kA ba_7 o_
   subst ho_
   have nb_ := Blk.new (w.alloc (.cells #[.int .i64 c, .slice A n k, .slice B m j] 24)) 24 #[.int .i64 d, .slice C n2 k2, .slice D m2 j2]
   simp only [World.size_alloc] at nb_
   have bb_8 := Lib.hid nb_; clear nb_
   obtain ⟨o_, ho_⟩ : ∃ o, o = ((.cells #[.int .i64 p1, .int .i64 p2, .int .i64 p3, .int .i64 p4] 28) : Obj) := ⟨_, rfl⟩
   replace bel_1 := bA bel_1 o_
   replace ra_2 := rA ra_2 o_
   replace rb_3 := rA rb_3 o_
   replace rc_4 := rA rc_4 o_
   replace rd_5 := rA rd_5 o_
   replace rx_6 := iA rx_6 o_
   replace ba_7 := kA ba_7 o_
   replace bb_8 := kA bb_8 o_
   subst ho_
   have nb_ := Blk.new ((w.alloc (.cells #[.int .i64 c, .slice A n k, .slice B m j] 24)).alloc (.cells #[.int .i64 d, .slice C n2 k2, .slice D m2 j2] 24)) 28 #[.int .i64 p1, .int .i64 p2, .int .i64 p3, .int .i64 p4]
   simp only [World.size_alloc] at nb_
   have bp_9 := Lib.hid nb_; clear nb_
   obtain ⟨o_, ho_⟩ : ∃ o, o = ((.cells #[.bool u, .slice X xn xk] 33) : Obj) := ⟨_, rfl⟩
   replace bel_1 := bA bel_1 o_
   replace ra_2 := rA ra_2 o_
   replace rb_3 := rA rb_3 o_
   replace rc_4 := rA rc_4 o_
   replace rd_5 := rA rd_5 o_
   replace rx_6 := iA rx_6 o_
   replace ba_7 := kA ba_7 o_
   replace bb_8 := kA bb_8 o_
   replace bp_9 := kA bp_9 o_
   subst ho_
   have nb_ := Blk.new (((w.alloc (.cells #[.int .i64 c, .slice A n k, .slice B m j] 24)).alloc (.cells #[.int .i64 d, .slice C n2 k2, .slice D m2 j2] 24)).alloc (.cells #[.int .i64 p1, .int .i64 p2, .int .i64 p3, .int .i64 p4] 28)) 33 #[.bool u, .slice X xn xk]
   simp only [World.size_alloc] at nb_
   have bf_10 := Lib.hid nb_; clear nb_
   obtain ⟨z_11, z_12, z_13⟩ := at3 ba_7
   obtain ⟨z_14, z_15, z_16⟩ := at3 bb_8
   obtain ⟨z_17, z_18, z_19, z_20⟩ := at4 bp_9
   obtain ⟨z_21, z_22⟩ := at2 bf_10
   have hc := pairOf_no c A B n k m j ws ts d C D n2 k2 m2 j2 ws2 ts2 p1 p2 p3 p4 _ ra_2.out rb_3.out hn hm rc_4.out rd_5.out hn2 hm2 q hq hne
   have HC := Lib.hid hc; clear hc
   go_wp2_with fail
   refine HC.out.mono ?_
   rintro e w_23 ⟨rfl, hb⟩
   clear HC
   clear z_11 z_12 z_13 z_14 z_15 z_16 z_17 z_18 z_19 z_20 z_21 z_22
   have hb_24 := Lib.hid hb
   clear hb
   replace ba_7 := kH ba_7 hb_24
   obtain ⟨z_25, z_26, z_27⟩ := at3 ba_7
   replace bb_8 := kH bb_8 hb_24
   obtain ⟨z_28, z_29, z_30⟩ := at3 bb_8
   replace bp_9 := kH bp_9 hb_24
   obtain ⟨z_31, z_32, z_33, z_34⟩ := at4 bp_9
   replace bf_10 := kH bf_10 hb_24
   obtain ⟨z_35, z_36⟩ := at2 bf_10
   clear z_25 z_26 z_27 z_28 z_29 z_30 z_31 z_32 z_33 z_34 z_35 z_36
   obtain ⟨o_, ho_⟩ : ∃ o, o = ((.cells #[.int .i64 0, .slice none 0 0, .slice none 0 0, .int .i64 0, .slice none 0 0, .slice none 0 0, .int .i64 0, .int .i64 0, .int .i64 0, .int .i64 0] 101) : Obj) := ⟨_, rfl⟩
   replace bel_1 := bA (bH bel_1 hb_24) o_
   replace ra_2 := rA (rH ra_2 hb_24) o_
   replace rb_3 := rA (rH rb_3 hb_24) o_
   replace rc_4 := rA (rH rc_4 hb_24) o_
   replace rd_5 := rA (rH rd_5 hb_24) o_
   replace rx_6 := iA (iH rx_6 hb_24) o_
   replace ba_7 := kA ba_7 o_
   replace bb_8 := kA bb_8 o_
   replace bp_9 := kA bp_9 o_
   replace bf_10 := kA bf_10 o_
   subst ho_
   have bq_37 := Lib.hid (Blk.new w_23 101 #[.int .i64 0, .slice none 0 0, .slice none 0 0, .int .i64 0, .slice none 0 0, .slice none 0 0, .int .i64 0, .int .i64 0, .int .i64 0, .int .i64 0])
   obtain ⟨z_38, z_39, z_40⟩ := at3 ba_7
   obtain ⟨z_41, z_42, z_43⟩ := at3 bb_8
   obtain ⟨z_44, z_45, z_46, z_47⟩ := at4 bp_9
   obtain ⟨z_48, z_49⟩ := at2 bf_10
   obtain ⟨z_50, z_51, z_52, z_53, z_54, z_55, z_56, z_57, z_58, z_59⟩ := at10 bq_37
   go_wp2
   go_ret2
   exact ⟨none, 0, 0, rfl, RdI.nil_ _, by unfold maxLen; omega, (by have hsz_ := Below.size bel_1.out; repeat' (first | with_reducible exact bel_1.out | with_reducible exact Below.refl _ _ | with_reducible refine Below.alloc ?_ ?_ _ | with_reducible refine Below.setCell ?_ ?_ _ | with_reducible refine Below.drew ?_ | with_reducible refine below_setRow ?_ ?_ _ | omega | (simp; done) | (simp; omega)))⟩
def lowV (a b : Otl) (p : Prg) : Int := if isF (dist (wayL a b p) (wayP a b p).toNat p.at2.toNat p.af.toNat) then -fin (dist (wayL a b p) (wayP a b p).toNat p.at2.toNat p.af.toNat) else -1000000000
def highV (a b : Otl) (p : Prg) : Int := if isF (dist (wayL a b p) (wayP a b p).toNat p.af.toNat p.at2.toNat) then fin (dist (wayL a b p) (wayP a b p).toNat p.af.toNat p.at2.toNat) else 1000000000
def sharedV (a b : Otl) (p : Prg) : Int × Int × Int := if asked a b p = 0 then (if meetsB a b p then (lowV a b p, highV a b p, 0) else (0, 0, 30)) else (0, 0, asked a b p)
theorem Least_is (p a b : Int) (A : Option Addr) (n c : Nat) (l : List Bnd) (w : World) (hr : RdB w A n c l) (hn : n ≤ maxLen) (X : Int) (T : Bool) (Q : Int) (hV : endV p l a b false = .tuple #[.int .i64 X, .bool T, .int .i64 Q]) :
 Calls Tryz.prog 92 #[.agg #[.int .i64 p, .slice A n c], .int .i64 a, .int .i64 b] w fun e w' => e = .returned (.tuple #[.int .i64 X, .bool T, .int .i64 Q]) ∧ Below w.heap.size w w' :=
 (Least_any p a b A n c l w hr hn).mono fun e w' ⟨x, t, q, h1, h2, h3⟩ => ⟨by rw [h1, ← h2, hV], h3⟩
theorem Greatest_is (p a b : Int) (A : Option Addr) (n c : Nat) (l : List Bnd) (w : World) (hr : RdB w A n c l) (hn : n ≤ maxLen) (X : Int) (T : Bool) (Q : Int) (hV : endV p l a b true = .tuple #[.int .i64 X, .bool T, .int .i64 Q]) :
 Calls Tryz.prog 93 #[.agg #[.int .i64 p, .slice A n c], .int .i64 a, .int .i64 b] w fun e w' => e = .returned (.tuple #[.int .i64 X, .bool T, .int .i64 Q]) ∧ Below w.heap.size w w' :=
 (Greatest_any p a b A n c l w hr hn).mono fun e w' ⟨x, t, q, h1, h2, h3⟩ => ⟨by rw [h1, ← h2, hV], h3⟩
theorem scode_way {a b : Otl} {p : Prg} (h : asked a b p = 0) (hm : meetsB a b p = true) : scode (wayP a b p) (wayL a b p) [p.af, p.at2] = 0 := by
 obtain ⟨h1, -, -⟩ := asked_ok h
 obtain ⟨oa, ob, sa, sb, hk⟩ := chkP_ok h1
 have hs : slv (wayP a b p) (wayL a b p) = true := by
  unfold meetsB wayS at hm
  rw [Bool.and_eq_true] at hm
  exact hm.1
 have hg : gcode (wayP a b p) (wayL a b p) [p.af, p.at2] = 0 := by
  unfold gcode
  rw [if_pos (wayL_chk h), if_pos]
  obtain ⟨a1, a2, -, -⟩ := chkO_ok oa
  obtain ⟨b1, b2, -, -⟩ := chkO_ok ob
  simp [isPt, wayP]
  omega
 unfold slv at hs
 unfold scode
 rw [if_pos hg, if_pos hs]
set_option maxRecDepth 100000 in
theorem Shared_ok (c : Int) (A B : Option Addr) (n k m j : Nat) (ws ts : List Bnd) (d : Int) (C D : Option Addr) (n2 k2 m2 j2 : Nat) (ws2 ts2 : List Bnd) (p1 p2 p3 p4 : Int) (w : World) (h1 : RdB w A n k ws) (h2 : RdB w B m j ts) (hn : n ≤ maxLen) (hm : m ≤ maxLen) (h3 : RdB w C n2 k2 ws2) (h4 : RdB w D m2 j2 ts2) (hn2 : n2 ≤ maxLen) (hm2 : m2 ≤ maxLen) (hq : asked ⟨c, ws, ts⟩ ⟨d, ws2, ts2⟩ ⟨p1, p2, p3, p4⟩ = 0) (HQ1 : Hid (chkP ⟨c, ws, ts⟩ ⟨d, ws2, ts2⟩ ⟨p1, p2, p3, p4⟩ = 0)) (HL1 : Hid ((wayL ⟨c, ws, ts⟩ ⟨d, ws2, ts2⟩ ⟨p1, p2, p3, p4⟩).length ≤ 400)) (EM : Hid (meetsB ⟨c, ws, ts⟩ ⟨d, ws2, ts2⟩ ⟨p1, p2, p3, p4⟩ = true)) (X1 X2 L0 H0 : Int) (T1 T2 : Bool)
 (HE1 : Hid (endV (wayP ⟨c, ws, ts⟩ ⟨d, ws2, ts2⟩ ⟨p1, p2, p3, p4⟩) (wayL ⟨c, ws, ts⟩ ⟨d, ws2, ts2⟩ ⟨p1, p2, p3, p4⟩) p1 p2 false = .tuple #[.int .i64 X1, .bool T1, .int .i64 0])) (HE2 : Hid (endV (wayP ⟨c, ws, ts⟩ ⟨d, ws2, ts2⟩ ⟨p1, p2, p3, p4⟩) (wayL ⟨c, ws, ts⟩ ⟨d, ws2, ts2⟩ ⟨p1, p2, p3, p4⟩) p1 p2 true = .tuple #[.int .i64 X2, .bool T2, .int .i64 0]))
 (HL : Hid (L0 = if T1 then X1 else -1000000000)) (HH : Hid (H0 = if T2 then X2 else 1000000000)) :
 Calls Tryz.prog 45 #[.agg #[.int .i64 c, .slice A n k, .slice B m j], .agg #[.int .i64 d, .slice C n2 k2, .slice D m2 j2], .agg #[.int .i64 p1, .int .i64 p2, .int .i64 p3, .int .i64 p4]] w fun e w' => e = .returned (.tuple #[.int .i64 L0, .int .i64 H0, .int .i64 0]) ∧ Below w.heap.size w w' := by
  go_enter Tryz.func45, Tryz.ntmps45
  obtain ⟨ba_1, bb_2, bp_3, bel_4⟩ := ent3 w #[.int .i64 c, .slice A n k, .slice B m j] 24 #[.int .i64 d, .slice C n2 k2, .slice D m2 j2] 24 #[.int .i64 p1, .int .i64 p2, .int .i64 p3, .int .i64 p4] 28
  have ra_5 := rI h1 bel_4
  have rb_6 := rI h2 bel_4
  have rc_7 := rI h3 bel_4
  have rd_8 := rI h4 bel_4
  clear h1 h2 h3 h4
  obtain ⟨z_9, z_10, z_11⟩ := at3 ba_1
  obtain ⟨z_12, z_13, z_14⟩ := at3 bb_2
  obtain ⟨z_15, z_16, z_17, z_18⟩ := at4 bp_3
  have hc := pairOf_yes c A B n k m j ws ts d C D n2 k2 m2 j2 ws2 ts2 p1 p2 p3 p4 _ ra_5.out rb_6.out hn hm rc_7.out rd_8.out hn2 hm2 hq
  have HC := Lib.hid hc; clear hc
  go_wp2_with fail
  refine HC.out.mono ?_
  rintro e w_19 ⟨rfl, hb⟩
  clear HC
  clear z_9 z_10 z_11 z_12 z_13 z_14 z_15 z_16 z_17 z_18
  have hb_20 := Lib.hid hb
  clear hb
  replace ba_1 := kH ba_1 hb_20
  obtain ⟨z_21, z_22, z_23⟩ := at3 ba_1
  replace bb_2 := kH bb_2 hb_20
  obtain ⟨z_24, z_25, z_26⟩ := at3 bb_2
  replace bp_3 := kH bp_3 hb_20
  obtain ⟨z_27, z_28, z_29, z_30⟩ := at4 bp_3
  clear z_21 z_22 z_23 z_24 z_25 z_26 z_27 z_28 z_29 z_30
  obtain ⟨o_, ho_⟩ : ∃ o, o = ((.cells #[.int .i64 c, .slice A n k, .slice B m j, .int .i64 d, .slice C n2 k2, .slice D m2 j2, .int .i64 p1, .int .i64 p2, .int .i64 p3, .int .i64 p4] 101) : Obj) := ⟨_, rfl⟩
  replace bel_4 := bA (bH bel_4 hb_20) o_
  replace ra_5 := rA (rH ra_5 hb_20) o_
  replace rb_6 := rA (rH rb_6 hb_20) o_
  replace rc_7 := rA (rH rc_7 hb_20) o_
  replace rd_8 := rA (rH rd_8 hb_20) o_
  replace ba_1 := kA ba_1 o_
  replace bb_2 := kA bb_2 o_
  replace bp_3 := kA bp_3 o_
  subst ho_
  have bq_31 := Lib.hid (Blk.new w_19 101 #[.int .i64 c, .slice A n k, .slice B m j, .int .i64 d, .slice C n2 k2, .slice D m2 j2, .int .i64 p1, .int .i64 p2, .int .i64 p3, .int .i64 p4])
  obtain ⟨z_32, z_33, z_34⟩ := at3 ba_1
  obtain ⟨z_35, z_36, z_37⟩ := at3 bb_2
  obtain ⟨z_38, z_39, z_40, z_41⟩ := at4 bp_3
  obtain ⟨z_42, z_43, z_44, z_45, z_46, z_47, z_48, z_49, z_50, z_51⟩ := at10 bq_31
  have hc := meets_q c A B n k m j ws ts d C D n2 k2 m2 j2 ws2 ts2 p1 p2 p3 p4 _ ra_5.out rb_6.out hn hm rc_7.out rd_8.out hn2 hm2 hq
  rw [EM.out] at hc
  try dsimp only at hc
  have HC := Lib.hid hc; clear hc
  go_wp2_with fail
  refine HC.out.mono ?_
  rintro e w_52 ⟨rfl, hb⟩
  clear HC
  clear z_32 z_33 z_34 z_35 z_36 z_37 z_38 z_39 z_40 z_41 z_42 z_43 z_44 z_45 z_46 z_47 z_48 z_49 z_50 z_51
  have hb_53 := Lib.hid hb
  clear hb
  replace ba_1 := kH ba_1 hb_53
  obtain ⟨z_54, z_55, z_56⟩ := at3 ba_1
  replace bb_2 := kH bb_2 hb_53
  obtain ⟨z_57, z_58, z_59⟩ := at3 bb_2
  replace bp_3 := kH bp_3 hb_53
  obtain ⟨z_60, z_61, z_62, z_63⟩ := at4 bp_3
  replace bq_31 := kH bq_31 hb_53
  obtain ⟨z_64, z_65, z_66, z_67, z_68, z_69, z_70, z_71, z_72, z_73⟩ := at10 bq_31
  clear hq
  go_wp2_with fail
  clear z_54 z_55 z_56 z_57 z_58 z_59 z_60 z_61 z_62 z_63 z_64 z_65 z_66 z_67 z_68 z_69 z_70 z_71 z_72 z_73
  replace bel_4 := bD (bH bel_4 hb_53)
  replace ra_5 := rD (rH ra_5 hb_53)
  replace rb_6 := rD (rH rb_6 hb_53)
  replace rc_7 := rD (rH rc_7 hb_53)
  replace rd_8 := rD (rH rd_8 hb_53)
  replace ba_1 := kD ba_1
  replace bb_2 := kD bb_2
  replace bp_3 := kD bp_3
  replace bq_31 := kD bq_31
  refine wp_region_held_drew (S := (fun W' => Blk W' (w_19.heap.size) 101 #[.int .i64 c, .slice A n k, .slice B m j, .int .i64 d, .slice C n2 k2, .slice D m2 j2, .int .i64 p1, .int .i64 p2, .int .i64 p3, .int .i64 p4] ∧ Blk W' (w.heap.size + 1 + 1) 28 #[.int .i64 p1, .int .i64 p2, .int .i64 p3, .int .i64 p4])) (by kernel_rfl) ⟨bq_31.out, bp_3.out⟩ (fun _ => ?_)
  obtain ⟨w674, hw675⟩ : ∃ w', w' = (w_52.drew) := ⟨_, rfl⟩
  rw [← hw675] at bel_4 ra_5 rb_6 rc_7 rd_8 ba_1 bb_2 bp_3 bq_31
  rw [← hw675]
  clear hw675
  refine' tkH 0 ⟨bq_31.out, bp_3.out⟩ ?hyR676 ?_
  case hyR676 => (rintro W' ⟨hS0, hS1⟩; have hc0 := Blk.nth hS0 0; have hc1 := Blk.nth hS0 1; have hc2 := Blk.nth hS0 2; have hc3 := Blk.nth hS0 3; have hc4 := Blk.nth hS0 4; have hc5 := Blk.nth hS0 5; have hc6 := Blk.nth hS0 6; have hc7 := Blk.nth hS0 7; have hc8 := Blk.nth hS0 8; have hc9 := Blk.nth hS0 9; clear hS0 hS1; go_simp; try with_reducible rfl)
  refine' twH 2 ⟨bq_31.out, bp_3.out⟩ ?_
  refine' twH 3 ⟨bq_31.out, bp_3.out⟩ ?_
  refine' tkH 4 ⟨bq_31.out, bp_3.out⟩ ?hyR679 ?_
  case hyR679 => (rintro W' ⟨hS0, hS1⟩; have hc0 := Blk.nth hS1 0; clear hS0 hS1; go_simp; try with_reducible rfl)
  try simp only [Act.put, qsA, qsZ, qsS]
  refine' twH 5 ⟨bq_31.out, bp_3.out⟩ ?_
  refine' twH 6 ⟨bq_31.out, bp_3.out⟩ ?_
  refine' tkH 7 ⟨bq_31.out, bp_3.out⟩ ?hyR682 ?_
  case hyR682 => (rintro W' ⟨hS0, hS1⟩; have hc0 := Blk.nth hS1 1; clear hS0 hS1; go_simp; try with_reducible rfl)
  try simp only [Act.put, qsA, qsZ, qsS]
  refine oneH 1 rfl fun K hK => ?_
  go_simp
  go_at_call 81
  refine (ways_q c A B n k m j ws ts d C D n2 k2 m2 j2 ws2 ts2 p1 p2 p3 p4 _ ra_5.out rb_6.out hn hm rc_7.out rd_8.out hn2 hm2 HQ1.out).mono ?_
  rintro e w683 ⟨Ar, nr, kr, rfl, hrl, hb684⟩
  dsimp only
  replace hb684 := Lib.hid hb684
  have rl_685 := Lib.hid (hrl)
  replace bq_31 := kH bq_31 hb684
  replace bp_3 := kH bp_3 hb684
  refine hK.out _ _ ⟨bq_31.out, bp_3.out⟩ (fun _ => ?_); clear hK K
  try simp only [Act.put, qsA, qsZ, qsS]
  refine oneH 8 rfl fun K hK => ?_
  have hl_ : nr ≤ maxLen := by have h1 := (rl_685.out).len; have h2 := HL1.out; unfold maxLen; omega
  go_simp
  go_at_call 92
  refine (Least_is _ _ _  Ar nr kr _ _ rl_685.out hl_ _ _ _ HE1.out).mono ?_
  rintro e w686 ⟨rfl, hb687⟩
  dsimp only
  replace hb687 := Lib.hid hb687
  replace bq_31 := kH bq_31 hb687
  replace bp_3 := kH bp_3 hb687
  refine hK.out _ _ ⟨bq_31.out, bp_3.out⟩ (fun _ => ?_); clear hK K
  try simp only [Act.put, qsA, qsZ, qsS]
  refine' twH 9 ⟨bq_31.out, bp_3.out⟩ ?_
  refine' twH 10 ⟨bq_31.out, bp_3.out⟩ ?_
  refine' twH 11 ⟨bq_31.out, bp_3.out⟩ ?_
  refine' twH 12 ⟨bq_31.out, bp_3.out⟩ ?_
  try simp only [Act.put, qsA, qsZ, qsS]
  refine' twH 13 ⟨bq_31.out, bp_3.out⟩ ?_
  refine' twH 14 ⟨bq_31.out, bp_3.out⟩ ?_
  refine' twH 15 ⟨bq_31.out, bp_3.out⟩ ?_
  try simp only [Act.put, qsA, qsZ, qsS]
  refine wpAnyH_done (by kernel_rfl) ?_ _
  replace ba_1 := kH (kH ba_1 hb684) hb687
  obtain ⟨z_1074, z_1075, z_1076⟩ := at3 ba_1
  replace bb_2 := kH (kH bb_2 hb684) hb687
  obtain ⟨z_1077, z_1078, z_1079⟩ := at3 bb_2
  obtain ⟨z_1080, z_1081, z_1082, z_1083⟩ := at4 bp_3
  obtain ⟨z_1084, z_1085, z_1086, z_1087, z_1088, z_1089, z_1090, z_1091, z_1092, z_1093⟩ := at10 bq_31
  replace bel_4 := bH (bH bel_4 hb684) hb687
  replace ra_5 := rH (rH ra_5 hb684) hb687
  replace rb_6 := rH (rH rb_6 hb684) hb687
  replace rc_7 := rH (rH rc_7 hb684) hb687
  replace rd_8 := rH (rH rd_8 hb684) hb687
  replace rl_685 := rH rl_685 hb687
  cases T1
  · have hL : L0 = -1000000000 := HL.out
    subst hL
    clear HL
    go_wp2_with fail
    clear z_1074 z_1075 z_1076 z_1077 z_1078 z_1079 z_1080 z_1081 z_1082 z_1083 z_1084 z_1085 z_1086 z_1087 z_1088 z_1089 z_1090 z_1091 z_1092 z_1093
    replace bel_4 := bD bel_4
    replace ra_5 := rD ra_5
    replace rb_6 := rD rb_6
    replace rc_7 := rD rc_7
    replace rd_8 := rD rd_8
    replace ba_1 := kD ba_1
    replace bb_2 := kD bb_2
    replace bp_3 := kD bp_3
    replace bq_31 := kD bq_31
    replace rl_685 := rD rl_685
    refine wp_region_held_drew (S := (fun W' => Blk W' (w_19.heap.size) 101 #[.int .i64 c, .slice A n k, .slice B m j, .int .i64 d, .slice C n2 k2, .slice D m2 j2, .int .i64 p1, .int .i64 p2, .int .i64 p3, .int .i64 p4] ∧ Blk W' (w.heap.size + 1 + 1) 28 #[.int .i64 p1, .int .i64 p2, .int .i64 p3, .int .i64 p4])) (by kernel_rfl) ⟨bq_31.out, bp_3.out⟩ (fun _ => ?_)
    obtain ⟨w695, hw696⟩ : ∃ w', w' = (w686.drew) := ⟨_, rfl⟩
    rw [← hw696] at bel_4 ra_5 rb_6 rc_7 rd_8 ba_1 bb_2 bp_3 bq_31 rl_685
    rw [← hw696]
    clear hw696
    refine' tkH 0 ⟨bq_31.out, bp_3.out⟩ ?hyR697 ?_
    case hyR697 => (rintro W' ⟨hS0, hS1⟩; have hc0 := Blk.nth hS0 0; have hc1 := Blk.nth hS0 1; have hc2 := Blk.nth hS0 2; have hc3 := Blk.nth hS0 3; have hc4 := Blk.nth hS0 4; have hc5 := Blk.nth hS0 5; have hc6 := Blk.nth hS0 6; have hc7 := Blk.nth hS0 7; have hc8 := Blk.nth hS0 8; have hc9 := Blk.nth hS0 9; clear hS0 hS1; go_simp; try with_reducible rfl)
    refine' twH 2 ⟨bq_31.out, bp_3.out⟩ ?_
    refine' twH 3 ⟨bq_31.out, bp_3.out⟩ ?_
    refine' tkH 4 ⟨bq_31.out, bp_3.out⟩ ?hyR700 ?_
    case hyR700 => (rintro W' ⟨hS0, hS1⟩; have hc0 := Blk.nth hS1 0; clear hS0 hS1; go_simp; try with_reducible rfl)
    try simp only [Act.put, qsA, qsZ, qsS]
    refine' twH 5 ⟨bq_31.out, bp_3.out⟩ ?_
    refine' twH 6 ⟨bq_31.out, bp_3.out⟩ ?_
    refine' tkH 7 ⟨bq_31.out, bp_3.out⟩ ?hyR703 ?_
    case hyR703 => (rintro W' ⟨hS0, hS1⟩; have hc0 := Blk.nth hS1 1; clear hS0 hS1; go_simp; try with_reducible rfl)
    try simp only [Act.put, qsA, qsZ, qsS]
    refine oneH 1 rfl fun K hK => ?_
    go_simp
    go_at_call 81
    refine (ways_q c A B n k m j ws ts d C D n2 k2 m2 j2 ws2 ts2 p1 p2 p3 p4 _ ra_5.out rb_6.out hn hm rc_7.out rd_8.out hn2 hm2 HQ1.out).mono ?_
    rintro e w704 ⟨Ar2, nr2, kr2, rfl, hrl, hb705⟩
    dsimp only
    replace hb705 := Lib.hid hb705
    have rl2_706 := Lib.hid (hrl)
    replace bq_31 := kH bq_31 hb705
    replace bp_3 := kH bp_3 hb705
    refine hK.out _ _ ⟨bq_31.out, bp_3.out⟩ (fun _ => ?_); clear hK K
    try simp only [Act.put, qsA, qsZ, qsS]
    refine oneH 8 rfl fun K hK => ?_
    have hl_ : nr2 ≤ maxLen := by have h1 := (rl2_706.out).len; have h2 := HL1.out; unfold maxLen; omega
    go_simp
    go_at_call 93
    refine (Greatest_is _ _ _  Ar2 nr2 kr2 _ _ rl2_706.out hl_ _ _ _ HE2.out).mono ?_
    rintro e w707 ⟨rfl, hb708⟩
    dsimp only
    replace hb708 := Lib.hid hb708
    replace bq_31 := kH bq_31 hb708
    replace bp_3 := kH bp_3 hb708
    refine hK.out _ _ ⟨bq_31.out, bp_3.out⟩ (fun _ => ?_); clear hK K
    try simp only [Act.put, qsA, qsZ, qsS]
    refine' twH 9 ⟨bq_31.out, bp_3.out⟩ ?_
    refine' twH 10 ⟨bq_31.out, bp_3.out⟩ ?_
    refine' twH 11 ⟨bq_31.out, bp_3.out⟩ ?_
    refine' twH 12 ⟨bq_31.out, bp_3.out⟩ ?_
    try simp only [Act.put, qsA, qsZ, qsS]
    refine' twH 13 ⟨bq_31.out, bp_3.out⟩ ?_
    refine' twH 14 ⟨bq_31.out, bp_3.out⟩ ?_
    refine' twH 15 ⟨bq_31.out, bp_3.out⟩ ?_
    try simp only [Act.put, qsA, qsZ, qsS]
    refine wpAnyH_done (by kernel_rfl) ?_ _
    replace bel_4 := bH (bH bel_4 hb705) hb708
    replace ra_5 := rH (rH ra_5 hb705) hb708
    replace rb_6 := rH (rH rb_6 hb705) hb708
    replace rc_7 := rH (rH rc_7 hb705) hb708
    replace rd_8 := rH (rH rd_8 hb705) hb708
    replace ba_1 := kH (kH ba_1 hb705) hb708
    replace bb_2 := kH (kH bb_2 hb705) hb708
    replace rl_685 := rH (rH rl_685 hb705) hb708
    replace rl2_706 := rH rl2_706 hb708
    cases T2
    · have hL : H0 = 1000000000 := HH.out
      subst hL
      clear HH
      go_wp2
      go_ret3
      exact ⟨rfl, bel_4.out⟩
    · have hL : H0 = X2 := HH.out
      subst hL
      clear HH
      go_wp2
      go_ret3
      exact ⟨rfl, bel_4.out⟩
  · have hL : L0 = X1 := HL.out
    subst hL
    clear HL
    go_wp2_with fail
    clear z_1074 z_1075 z_1076 z_1077 z_1078 z_1079 z_1080 z_1081 z_1082 z_1083 z_1084 z_1085 z_1086 z_1087 z_1088 z_1089 z_1090 z_1091 z_1092 z_1093
    replace bel_4 := bD bel_4
    replace ra_5 := rD ra_5
    replace rb_6 := rD rb_6
    replace rc_7 := rD rc_7
    replace rd_8 := rD rd_8
    replace ba_1 := kD ba_1
    replace bb_2 := kD bb_2
    replace bp_3 := kD bp_3
    replace bq_31 := kD bq_31
    replace rl_685 := rD rl_685
    refine wp_region_held_drew (S := (fun W' => Blk W' (w_19.heap.size) 101 #[.int .i64 c, .slice A n k, .slice B m j, .int .i64 d, .slice C n2 k2, .slice D m2 j2, .int .i64 p1, .int .i64 p2, .int .i64 p3, .int .i64 p4] ∧ Blk W' (w.heap.size + 1 + 1) 28 #[.int .i64 p1, .int .i64 p2, .int .i64 p3, .int .i64 p4])) (by kernel_rfl) ⟨bq_31.out, bp_3.out⟩ (fun _ => ?_)
    obtain ⟨w716, hw717⟩ : ∃ w', w' = (w686.drew) := ⟨_, rfl⟩
    rw [← hw717] at bel_4 ra_5 rb_6 rc_7 rd_8 ba_1 bb_2 bp_3 bq_31 rl_685
    rw [← hw717]
    clear hw717
    refine' tkH 0 ⟨bq_31.out, bp_3.out⟩ ?hyR718 ?_
    case hyR718 => (rintro W' ⟨hS0, hS1⟩; have hc0 := Blk.nth hS0 0; have hc1 := Blk.nth hS0 1; have hc2 := Blk.nth hS0 2; have hc3 := Blk.nth hS0 3; have hc4 := Blk.nth hS0 4; have hc5 := Blk.nth hS0 5; have hc6 := Blk.nth hS0 6; have hc7 := Blk.nth hS0 7; have hc8 := Blk.nth hS0 8; have hc9 := Blk.nth hS0 9; clear hS0 hS1; go_simp; try with_reducible rfl)
    refine' twH 2 ⟨bq_31.out, bp_3.out⟩ ?_
    refine' twH 3 ⟨bq_31.out, bp_3.out⟩ ?_
    refine' tkH 4 ⟨bq_31.out, bp_3.out⟩ ?hyR721 ?_
    case hyR721 => (rintro W' ⟨hS0, hS1⟩; have hc0 := Blk.nth hS1 0; clear hS0 hS1; go_simp; try with_reducible rfl)
    try simp only [Act.put, qsA, qsZ, qsS]
    refine' twH 5 ⟨bq_31.out, bp_3.out⟩ ?_
    refine' twH 6 ⟨bq_31.out, bp_3.out⟩ ?_
    refine' tkH 7 ⟨bq_31.out, bp_3.out⟩ ?hyR724 ?_
    case hyR724 => (rintro W' ⟨hS0, hS1⟩; have hc0 := Blk.nth hS1 1; clear hS0 hS1; go_simp; try with_reducible rfl)
    try simp only [Act.put, qsA, qsZ, qsS]
    refine oneH 1 rfl fun K hK => ?_
    go_simp
    go_at_call 81
    refine (ways_q c A B n k m j ws ts d C D n2 k2 m2 j2 ws2 ts2 p1 p2 p3 p4 _ ra_5.out rb_6.out hn hm rc_7.out rd_8.out hn2 hm2 HQ1.out).mono ?_
    rintro e w725 ⟨Ar2, nr2, kr2, rfl, hrl, hb726⟩
    dsimp only
    replace hb726 := Lib.hid hb726
    have rl2_727 := Lib.hid (hrl)
    replace bq_31 := kH bq_31 hb726
    replace bp_3 := kH bp_3 hb726
    refine hK.out _ _ ⟨bq_31.out, bp_3.out⟩ (fun _ => ?_); clear hK K
    try simp only [Act.put, qsA, qsZ, qsS]
    refine oneH 8 rfl fun K hK => ?_
    have hl_ : nr2 ≤ maxLen := by have h1 := (rl2_727.out).len; have h2 := HL1.out; unfold maxLen; omega
    go_simp
    go_at_call 93
    refine (Greatest_is _ _ _  Ar2 nr2 kr2 _ _ rl2_727.out hl_ _ _ _ HE2.out).mono ?_
    rintro e w728 ⟨rfl, hb729⟩
    dsimp only
    replace hb729 := Lib.hid hb729
    replace bq_31 := kH bq_31 hb729
    replace bp_3 := kH bp_3 hb729
    refine hK.out _ _ ⟨bq_31.out, bp_3.out⟩ (fun _ => ?_); clear hK K
    try simp only [Act.put, qsA, qsZ, qsS]
    refine' twH 9 ⟨bq_31.out, bp_3.out⟩ ?_
    refine' twH 10 ⟨bq_31.out, bp_3.out⟩ ?_
    refine' twH 11 ⟨bq_31.out, bp_3.out⟩ ?_
    refine' twH 12 ⟨bq_31.out, bp_3.out⟩ ?_
    try simp only [Act.put, qsA, qsZ, qsS]
    refine' twH 13 ⟨bq_31.out, bp_3.out⟩ ?_
    refine' twH 14 ⟨bq_31.out, bp_3.out⟩ ?_
    refine' twH 15 ⟨bq_31.out, bp_3.out⟩ ?_
    try simp only [Act.put, qsA, qsZ, qsS]
    refine wpAnyH_done (by kernel_rfl) ?_ _
    replace bel_4 := bH (bH bel_4 hb726) hb729
    replace ra_5 := rH (rH ra_5 hb726) hb729
    replace rb_6 := rH (rH rb_6 hb726) hb729
    replace rc_7 := rH (rH rc_7 hb726) hb729
    replace rd_8 := rH (rH rd_8 hb726) hb729
    replace ba_1 := kH (kH ba_1 hb726) hb729
    replace bb_2 := kH (kH bb_2 hb726) hb729
    replace rl_685 := rH (rH rl_685 hb726) hb729
    replace rl2_727 := rH rl2_727 hb729
    cases T2
    · have hL : H0 = 1000000000 := HH.out
      subst hL
      clear HH
      go_wp2
      go_ret3
      exact ⟨rfl, bel_4.out⟩
    · have hL : H0 = X2 := HH.out
      subst hL
      clear HH
      go_wp2
      go_ret3
      exact ⟨rfl, bel_4.out⟩
set_option maxRecDepth 100000 in
theorem Shared_any (c : Int) (A B : Option Addr) (n k m j : Nat) (ws ts : List Bnd) (d : Int) (C D : Option Addr) (n2 k2 m2 j2 : Nat) (ws2 ts2 : List Bnd) (p1 p2 p3 p4 : Int) (w : World) (h1 : RdB w A n k ws) (h2 : RdB w B m j ts) (hn : n ≤ maxLen) (hm : m ≤ maxLen) (h3 : RdB w C n2 k2 ws2) (h4 : RdB w D m2 j2 ts2) (hn2 : n2 ≤ maxLen) (hm2 : m2 ≤ maxLen) : Calls Tryz.prog 45 #[.agg #[.int .i64 c, .slice A n k, .slice B m j], .agg #[.int .i64 d, .slice C n2 k2, .slice D m2 j2], .agg #[.int .i64 p1, .int .i64 p2, .int .i64 p3, .int .i64 p4]] w fun e w' => e = .returned (.tuple #[.int .i64 (sharedV ⟨c, ws, ts⟩ ⟨d, ws2, ts2⟩ ⟨p1, p2, p3, p4⟩).1, .int .i64 (sharedV ⟨c, ws, ts⟩ ⟨d, ws2, ts2⟩ ⟨p1, p2, p3, p4⟩).2.1, .int .i64 (sharedV ⟨c, ws, ts⟩ ⟨d, ws2, ts2⟩ ⟨p1, p2, p3, p4⟩).2.2]) ∧ Below w.heap.size w w' := by
 unfold sharedV
 by_cases hq : asked ⟨c, ws, ts⟩ ⟨d, ws2, ts2⟩ ⟨p1, p2, p3, p4⟩ = 0
 · rw [if_pos hq]
   have HQ1 := Lib.hid (asked_ok hq).1
   have HL1 := Lib.hid (show (wayL ⟨c, ws, ts⟩ ⟨d, ws2, ts2⟩ ⟨p1, p2, p3, p4⟩).length ≤ 400 from jL_len hq false)
   cases hM : meetsB ⟨c, ws, ts⟩ ⟨d, ws2, ts2⟩ ⟨p1, p2, p3, p4⟩
   · simp only [Bool.false_eq_true, if_false]
     have EM := Lib.hid hM; clear hM
     go_enter Tryz.func45, Tryz.ntmps45
     obtain ⟨ba_1, bb_2, bp_3, bel_4⟩ := ent3 w #[.int .i64 c, .slice A n k, .slice B m j] 24 #[.int .i64 d, .slice C n2 k2, .slice D m2 j2] 24 #[.int .i64 p1, .int .i64 p2, .int .i64 p3, .int .i64 p4] 28
     have ra_5 := rI h1 bel_4
     have rb_6 := rI h2 bel_4
     have rc_7 := rI h3 bel_4
     have rd_8 := rI h4 bel_4
     clear h1 h2 h3 h4
     obtain ⟨z_9, z_10, z_11⟩ := at3 ba_1
     obtain ⟨z_12, z_13, z_14⟩ := at3 bb_2
     obtain ⟨z_15, z_16, z_17, z_18⟩ := at4 bp_3
     have hc := pairOf_yes c A B n k m j ws ts d C D n2 k2 m2 j2 ws2 ts2 p1 p2 p3 p4 _ ra_5.out rb_6.out hn hm rc_7.out rd_8.out hn2 hm2 hq
     have HC := Lib.hid hc; clear hc
     go_wp2_with fail
     refine HC.out.mono ?_
     rintro e w_19 ⟨rfl, hb⟩
     clear HC
     clear z_9 z_10 z_11 z_12 z_13 z_14 z_15 z_16 z_17 z_18
     have hb_20 := Lib.hid hb
     clear hb
     replace ba_1 := kH ba_1 hb_20
     obtain ⟨z_21, z_22, z_23⟩ := at3 ba_1
     replace bb_2 := kH bb_2 hb_20
     obtain ⟨z_24, z_25, z_26⟩ := at3 bb_2
     replace bp_3 := kH bp_3 hb_20
     obtain ⟨z_27, z_28, z_29, z_30⟩ := at4 bp_3
     clear z_21 z_22 z_23 z_24 z_25 z_26 z_27 z_28 z_29 z_30
     obtain ⟨o_, ho_⟩ : ∃ o, o = ((.cells #[.int .i64 c, .slice A n k, .slice B m j, .int .i64 d, .slice C n2 k2, .slice D m2 j2, .int .i64 p1, .int .i64 p2, .int .i64 p3, .int .i64 p4] 101) : Obj) := ⟨_, rfl⟩
     replace bel_4 := bA (bH bel_4 hb_20) o_
     replace ra_5 := rA (rH ra_5 hb_20) o_
     replace rb_6 := rA (rH rb_6 hb_20) o_
     replace rc_7 := rA (rH rc_7 hb_20) o_
     replace rd_8 := rA (rH rd_8 hb_20) o_
     replace ba_1 := kA ba_1 o_
     replace bb_2 := kA bb_2 o_
     replace bp_3 := kA bp_3 o_
     subst ho_
     have bq_31 := Lib.hid (Blk.new w_19 101 #[.int .i64 c, .slice A n k, .slice B m j, .int .i64 d, .slice C n2 k2, .slice D m2 j2, .int .i64 p1, .int .i64 p2, .int .i64 p3, .int .i64 p4])
     obtain ⟨z_32, z_33, z_34⟩ := at3 ba_1
     obtain ⟨z_35, z_36, z_37⟩ := at3 bb_2
     obtain ⟨z_38, z_39, z_40, z_41⟩ := at4 bp_3
     obtain ⟨z_42, z_43, z_44, z_45, z_46, z_47, z_48, z_49, z_50, z_51⟩ := at10 bq_31
     have hc := meets_q c A B n k m j ws ts d C D n2 k2 m2 j2 ws2 ts2 p1 p2 p3 p4 _ ra_5.out rb_6.out hn hm rc_7.out rd_8.out hn2 hm2 hq
     rw [EM.out] at hc
     try dsimp only at hc
     have HC := Lib.hid hc; clear hc
     go_wp2_with fail
     refine HC.out.mono ?_
     rintro e w_52 ⟨rfl, hb⟩
     clear HC
     clear z_32 z_33 z_34 z_35 z_36 z_37 z_38 z_39 z_40 z_41 z_42 z_43 z_44 z_45 z_46 z_47 z_48 z_49 z_50 z_51
     have hb_53 := Lib.hid hb
     clear hb
     replace ba_1 := kH ba_1 hb_53
     obtain ⟨z_54, z_55, z_56⟩ := at3 ba_1
     replace bb_2 := kH bb_2 hb_53
     obtain ⟨z_57, z_58, z_59⟩ := at3 bb_2
     replace bp_3 := kH bp_3 hb_53
     obtain ⟨z_60, z_61, z_62, z_63⟩ := at4 bp_3
     replace bq_31 := kH bq_31 hb_53
     obtain ⟨z_64, z_65, z_66, z_67, z_68, z_69, z_70, z_71, z_72, z_73⟩ := at10 bq_31
     go_wp2
     go_ret3
     replace bel_4 := bH bel_4 hb_53
     exact ⟨rfl, bel_4.out⟩
   · simp only [if_true]
     have hsc := scode_way hq hM
     dsimp only at hsc
     have EM := Lib.hid hM; clear hM
     have hE1 : endV (wayP ⟨c, ws, ts⟩ ⟨d, ws2, ts2⟩ ⟨p1, p2, p3, p4⟩) (wayL ⟨c, ws, ts⟩ ⟨d, ws2, ts2⟩ ⟨p1, p2, p3, p4⟩) p1 p2 false = .tuple #[.int .i64 (-fin (dist (wayL ⟨c, ws, ts⟩ ⟨d, ws2, ts2⟩ ⟨p1, p2, p3, p4⟩) (wayP ⟨c, ws, ts⟩ ⟨d, ws2, ts2⟩ ⟨p1, p2, p3, p4⟩).toNat p2.toNat p1.toNat)), .bool (isF (dist (wayL ⟨c, ws, ts⟩ ⟨d, ws2, ts2⟩ ⟨p1, p2, p3, p4⟩) (wayP ⟨c, ws, ts⟩ ⟨d, ws2, ts2⟩ ⟨p1, p2, p3, p4⟩).toNat p2.toNat p1.toNat)), .int .i64 0] := by
      unfold endV; rw [if_pos hsc]; rfl
     have hE2 : endV (wayP ⟨c, ws, ts⟩ ⟨d, ws2, ts2⟩ ⟨p1, p2, p3, p4⟩) (wayL ⟨c, ws, ts⟩ ⟨d, ws2, ts2⟩ ⟨p1, p2, p3, p4⟩) p1 p2 true = .tuple #[.int .i64 (fin (dist (wayL ⟨c, ws, ts⟩ ⟨d, ws2, ts2⟩ ⟨p1, p2, p3, p4⟩) (wayP ⟨c, ws, ts⟩ ⟨d, ws2, ts2⟩ ⟨p1, p2, p3, p4⟩).toNat p1.toNat p2.toNat)), .bool (isF (dist (wayL ⟨c, ws, ts⟩ ⟨d, ws2, ts2⟩ ⟨p1, p2, p3, p4⟩) (wayP ⟨c, ws, ts⟩ ⟨d, ws2, ts2⟩ ⟨p1, p2, p3, p4⟩).toNat p1.toNat p2.toNat)), .int .i64 0] := by
      unfold endV; rw [if_pos hsc]; rfl
     clear hsc
     unfold lowV highV
     dsimp only
     exact Shared_ok c A B n k m j ws ts d C D n2 k2 m2 j2 ws2 ts2 p1 p2 p3 p4 w h1 h2 hn hm h3 h4 hn2 hm2 hq HQ1 HL1 EM _ _ _ _ _ _ (Lib.hid hE1) (Lib.hid hE2) (Lib.hid rfl) (Lib.hid rfl)
 · rw [if_neg hq]
   obtain ⟨q, hq2⟩ : ∃ q, asked ⟨c, ws, ts⟩ ⟨d, ws2, ts2⟩ ⟨p1, p2, p3, p4⟩ = q := ⟨_, rfl⟩
   rw [hq2] at hq
   rw [hq2]
   have hne := hq
   have hqe : (q != 0) = true := by simpa using hq
   clear hq
   have hq := hq2; clear hq2
   dsimp only
   go_enter Tryz.func45, Tryz.ntmps45
   obtain ⟨ba_1, bb_2, bp_3, bel_4⟩ := ent3 w #[.int .i64 c, .slice A n k, .slice B m j] 24 #[.int .i64 d, .slice C n2 k2, .slice D m2 j2] 24 #[.int .i64 p1, .int .i64 p2, .int .i64 p3, .int .i64 p4] 28
   have ra_5 := rI h1 bel_4
   have rb_6 := rI h2 bel_4
   have rc_7 := rI h3 bel_4
   have rd_8 := rI h4 bel_4
   clear h1 h2 h3 h4
   obtain ⟨z_9, z_10, z_11⟩ := at3 ba_1
   obtain ⟨z_12, z_13, z_14⟩ := at3 bb_2
   obtain ⟨z_15, z_16, z_17, z_18⟩ := at4 bp_3
   have hc := pairOf_no c A B n k m j ws ts d C D n2 k2 m2 j2 ws2 ts2 p1 p2 p3 p4 _ ra_5.out rb_6.out hn hm rc_7.out rd_8.out hn2 hm2 q hq hne
   have HC := Lib.hid hc; clear hc
   go_wp2_with fail
   refine HC.out.mono ?_
   rintro e w_19 ⟨rfl, hb⟩
   clear HC
   clear z_9 z_10 z_11 z_12 z_13 z_14 z_15 z_16 z_17 z_18
   have hb_20 := Lib.hid hb
   clear hb
   replace ba_1 := kH ba_1 hb_20
   obtain ⟨z_21, z_22, z_23⟩ := at3 ba_1
   replace bb_2 := kH bb_2 hb_20
   obtain ⟨z_24, z_25, z_26⟩ := at3 bb_2
   replace bp_3 := kH bp_3 hb_20
   obtain ⟨z_27, z_28, z_29, z_30⟩ := at4 bp_3
   clear z_21 z_22 z_23 z_24 z_25 z_26 z_27 z_28 z_29 z_30
   obtain ⟨o_, ho_⟩ : ∃ o, o = ((.cells #[.int .i64 0, .slice none 0 0, .slice none 0 0, .int .i64 0, .slice none 0 0, .slice none 0 0, .int .i64 0, .int .i64 0, .int .i64 0, .int .i64 0] 101) : Obj) := ⟨_, rfl⟩
   replace bel_4 := bA (bH bel_4 hb_20) o_
   replace ra_5 := rA (rH ra_5 hb_20) o_
   replace rb_6 := rA (rH rb_6 hb_20) o_
   replace rc_7 := rA (rH rc_7 hb_20) o_
   replace rd_8 := rA (rH rd_8 hb_20) o_
   replace ba_1 := kA ba_1 o_
   replace bb_2 := kA bb_2 o_
   replace bp_3 := kA bp_3 o_
   subst ho_
   have bq_31 := Lib.hid (Blk.new w_19 101 #[.int .i64 0, .slice none 0 0, .slice none 0 0, .int .i64 0, .slice none 0 0, .slice none 0 0, .int .i64 0, .int .i64 0, .int .i64 0, .int .i64 0])
   obtain ⟨z_32, z_33, z_34⟩ := at3 ba_1
   obtain ⟨z_35, z_36, z_37⟩ := at3 bb_2
   obtain ⟨z_38, z_39, z_40, z_41⟩ := at4 bp_3
   obtain ⟨z_42, z_43, z_44, z_45, z_46, z_47, z_48, z_49, z_50, z_51⟩ := at10 bq_31
   go_wp2
   go_ret3
   exact ⟨rfl, (by have hsz_ := Below.size bel_4.out; repeat' (first | with_reducible exact bel_4.out | with_reducible exact Below.refl _ _ | with_reducible refine Below.alloc ?_ ?_ _ | with_reducible refine Below.setCell ?_ ?_ _ | with_reducible refine Below.drew ?_ | with_reducible refine below_setRow ?_ ?_ _ | omega | (simp; done) | (simp; omega)))⟩
end Go.Proofs.YtaoanagmgheicaaGreat
