import Derived.Test.YtaoanagmgheicaaGreatQERefO
import Derived.Test.YtaoanagmgheicaaGreatQEWith
import Derived.Test.YtaoanagmgheicaaGreatWApp2
import Derived.Test.YtaoanagmgheicaaGreatWClosed
set_option maxHeartbeats 4000000
set_option linter.unusedSimpArgs false
set_option linter.unusedVariables false
namespace Go.Proofs.YtaoanagmgheicaaGreat
open Go.RowKit
theorem wp_append_lit2 {w : World} {o : Oper} {a : Act} {K : Act → World → Prop} {Q : Exit → Act → World → Prop} (s x : Operand)
 (ho : o.op = .call { callee := .builtin .append, args := #[s, x], argTypes := #[22, 22] }) (base g : Nat) (hown : w.ownsRow base 30 4 (.slice (some ⟨g, 0, none⟩) 0 0) 0 []) (hs : a.eval s = .slice (some ⟨g, 0, none⟩) 0 0)
 (A : Option Addr) (n c : Nat) (l : List Bnd) (hr : RdB w A n c l) (hn : n ≤ 400) (hx : a.eval x = .slice A n c) (hbase : base ≤ w.heap.size)
 (h : ∀ A' c' w', w'.ownsRow base 30 4 (.slice A' n c') n (bcells l) → w.grownBy w' (some g) → ((Value.slice A' n c').ownBlock = some g ∨ (Value.slice A' n c').ownBlock = some w.heap.size) → K (a.put o.dst (.slice A' n c')) w') : o.wp Tryz.prog a w K Q := by
 obtain ⟨i0, hi0, hz0, hz1, hz2⟩ := info_parts infoB
 cases A with
 | none =>
  obtain ⟨rfl, rfl⟩ := hr.nil rfl
  have hl0 : l = [] := List.length_eq_zero_iff.1 hr.len
  subst hl0
  have hrun := run_append_owned_none (P := Tryz.prog) (w := w) base 22 o.type 30 i0 4 Tryz.underlying22 hi0 _ 0 [] hown
  unfold Oper.wp execOp
  simp only [ho, resolve, invoke, builtin, Sem.run_bind, Sem.run_pure, Result.andThen_ok, List.map_toArray, List.map_cons, List.map_nil, hs, hx, hrun]
  exact h _ _ w hown (World.grownBy.refl _ _) (.inl rfl)
 | some ad =>
  have hl := hr.len
  obtain ⟨v', w', hr2, h2, h3, -⟩ := run_append_own (P := Tryz.prog) (w := w) base 22 o.type 30 i0 _ 4 32 Tryz.underlying22 hi0 hz0 hz1 hz2 rfl (by omega) _ 0 [] hown ad n c (bcells l) (by rw [bcells_length, hl]) (hr.cells.hc ad rfl) (bcells_one l) (by unfold maxLen; omega) (by omega) hbase
  have h4 : v'.ownBlock = some g ∨ v'.ownBlock = some w.heap.size := by
   by_cases hm : 0 < n
   · obtain ⟨v2, w2, e2, h5⟩ := run_append_where (P := Tryz.prog) w base 22 o.type 30 i0 _ 4 32 Tryz.underlying22 hi0 hz0 hz1 hz2 _ 0 [] hown ad n c (bcells l) (by rw [bcells_length, hl]) (hr.cells.hc ad rfl) (bcells_one l) (by unfold maxLen; omega) (by omega) hm
     rw [hr2] at e2
     injection e2 with e3 e4
     subst e3
     exact h5
   · obtain rfl : n = 0 := by omega
     rcases hown.2 with ⟨hv, -⟩ | ⟨g', cap, cur, hv, hbg, hg, hnc, hcm, hcs, htake⟩
     · cases hv
     · cases hv
       have e2 := run_append_room (P := Tryz.prog) w 22 o.type 30 i0 Tryz.underlying22 hi0 g 0 0 cur hg ad 0 c (bcells l) (by rw [bcells_length, hl]; omega) (hr.cells.hc ad rfl) (bcells_one l) (by omega) (by rw [bcells_length, hl]; omega)
       rw [hr2] at e2
       injection e2 with e3 e4
       subst e3
       exact .inl rfl
  rw [Nat.zero_add, List.nil_append] at h2
  obtain ⟨A5, c5, rfl, -⟩ := own_form h2
  unfold Oper.wp execOp
  simp only [ho, resolve, invoke, builtin, Sem.run_bind, Sem.run_pure, Result.andThen_ok, List.map_toArray, List.map_cons, List.map_nil, hs, hx, hr2]
  exact h A5 c5 w' h2 h3 h4
set_option maxRecDepth 100000 in
theorem rWith_err (u : Bool) (c : Int) (A B : Option Addr) (n k m j : Nat) (ws ts : List Bnd) (w : World) (h1 : RdB w A n k ws) (h2 : RdB w B m j ts) (hn : n ≤ maxLen) (hm : m ≤ maxLen) (f t mm ib : Int) (q : Int) (hne : (q != 0) = true) (HQ : Hid (q ≠ 0)) (o : Otl) (E1 : Hid (chkO ⟨c, ws, ts⟩ = q)) : Calls Tryz.prog 19 #[.agg #[.int .i64 c, .slice A n k, .slice B m j], .bool u, .agg #[.int .i64 f, .int .i64 t, .int .i64 mm, .int .i64 ib]] w (RetO q o w) := by
 unfold RetO
 go_enter Tryz.func19, Tryz.ntmps19
 obtain ⟨ba_1, xb_2, bz_3, bel_4⟩ := ent3 w #[.int .i64 c, .slice A n k, .slice B m j] 24 #[.int .i64 f, .int .i64 t, .int .i64 mm, .int .i64 ib] 30 #[.int .i64 0, .slice none 0 0, .slice none 0 0] 24
 have ra_5 := rI h1 bel_4
 have rb_6 := rI h2 bel_4
 clear h1 h2
 obtain ⟨z_7, z_8, z_9⟩ := at3 ba_1
 obtain ⟨z_10, z_11, z_12, z_13⟩ := at4 xb_2
 obtain ⟨z_14, z_15, z_16⟩ := at3 bz_3
 have hc := rCheckOutline_any c A B n k m j ws ts _ ra_5.out rb_6.out hn hm
 rw [E1.out] at hc
 try dsimp only at hc
 have HC := Lib.hid hc; clear hc
 go_wp2_with fail
 refine HC.out.mono ?_
 rintro e w_17 ⟨rfl, hb⟩
 clear HC
 clear z_7 z_8 z_9 z_10 z_11 z_12 z_13 z_14 z_15 z_16
 have hb_18 := Lib.hid hb
 clear hb
 replace ba_1 := kH ba_1 hb_18
 obtain ⟨z_19, z_20, z_21⟩ := at3 ba_1
 replace xb_2 := kH xb_2 hb_18
 obtain ⟨z_22, z_23, z_24, z_25⟩ := at4 xb_2
 replace bz_3 := kH bz_3 hb_18
 obtain ⟨z_26, z_27, z_28⟩ := at3 bz_3
 have fz_29 : (w_17).frozen? ⟨w.heap.size + 1 + 1, 0, none⟩ = false := Blk.frozen bz_3.out 0
 have fz_30 : (w_17).frozen? ⟨w.heap.size + 1 + 1, 1, none⟩ = false := Blk.frozen bz_3.out 1
 have fz_31 : (w_17).frozen? ⟨w.heap.size + 1 + 1, 2, none⟩ = false := Blk.frozen bz_3.out 2
 replace bel_4 := bH bel_4 hb_18
 have hlb_ := Blk.lt bz_3.out
 have HK := Lib.hid (bel_4.out)
 go_wp2
 have bel_ := HK.out
 refine bodyPost_ret (v := .tuple #[.agg #[.int .i64 0, .slice none 0 0, .slice none 0 0], .int .i64 q]) (by simp [results, Tryz.results19, go_sem, z_19, z_20, z_21, z_22, z_23, z_24, z_25, z_26, z_27, z_28, fz_29, fz_30, fz_31]) rfl ?_
 exact ⟨none, 0, 0, none, 0, 0, by first | rfl | rw [if_neg HQ.out], by first | exact RdB.nil_ _ | (rw [if_neg HQ.out]; exact RdB.nil_ _), by first | exact RdB.nil_ _ | (rw [if_neg HQ.out]; exact RdB.nil_ _), by unfold maxLen; omega, by unfold maxLen; omega, (by have hsz_ := Below.size bel_; repeat' (first | with_reducible exact bel_ | with_reducible exact Below.refl _ _ | with_reducible refine Below.alloc ?_ ?_ _ | with_reducible refine Below.setCell ?_ ?_ _ | with_reducible refine Below.drew ?_ | with_reducible refine below_setRow ?_ ?_ _ | omega | (simp; done) | (simp; omega)))⟩
set_option maxRecDepth 100000 in
theorem rWith_t (c : Int) (A B : Option Addr) (n k m j : Nat) (ws ts : List Bnd) (w : World) (h1 : RdB w A n k ws) (h2 : RdB w B m j ts) (hn : n ≤ maxLen) (hm : m ≤ maxLen) (f t mm ib : Int) (HL1 : Hid (ws.length ≤ 400)) (HL2 : Hid (ts.length ≤ 400)) (q : Int) (E1 : Hid (chkO ⟨c, ws, ts⟩ = 0)) (E2 : Hid (chkO ⟨c, ws, ts ++ [⟨f, t, mm, ib⟩]⟩ = q)) : Calls Tryz.prog 19 #[.agg #[.int .i64 c, .slice A n k, .slice B m j], .bool true, .agg #[.int .i64 f, .int .i64 t, .int .i64 mm, .int .i64 ib]] w (RetO q ⟨c, ws, ts ++ [⟨f, t, mm, ib⟩]⟩ w) := by
 obtain ⟨i0, hi0, hz0, hz1, hz2⟩ := info_parts infoB
 have HI := Lib.hid hi0; have HZ0 := Lib.hid hz0; have HZ1 := Lib.hid hz1; have HZ2 := Lib.hid hz2; clear hi0 hz0 hz1 hz2
 unfold RetO
 have RA0 := Lib.hid h1; have RB0 := Lib.hid h2
 go_enter Tryz.func19, Tryz.ntmps19
 obtain ⟨ba_1, xb_2, bz_3, bel_4⟩ := ent3 w #[.int .i64 c, .slice A n k, .slice B m j] 24 #[.int .i64 f, .int .i64 t, .int .i64 mm, .int .i64 ib] 30 #[.int .i64 0, .slice none 0 0, .slice none 0 0] 24
 have ra_5 := rI h1 bel_4
 have rb_6 := rI h2 bel_4
 clear h1 h2
 obtain ⟨z_7, z_8, z_9⟩ := at3 ba_1
 obtain ⟨z_10, z_11, z_12, z_13⟩ := at4 xb_2
 obtain ⟨z_14, z_15, z_16⟩ := at3 bz_3
 have hc := rCheckOutline_any c A B n k m j ws ts _ ra_5.out rb_6.out hn hm
 rw [E1.out] at hc
 try dsimp only at hc
 have HC := Lib.hid hc; clear hc
 go_wp2_with fail
 refine HC.out.mono ?_
 rintro e w_17 ⟨rfl, hb⟩
 clear HC
 clear z_7 z_8 z_9 z_10 z_11 z_12 z_13 z_14 z_15 z_16
 have hb_18 := Lib.hid hb
 clear hb
 replace ba_1 := kH ba_1 hb_18
 obtain ⟨z_19, z_20, z_21⟩ := at3 ba_1
 replace xb_2 := kH xb_2 hb_18
 obtain ⟨z_22, z_23, z_24, z_25⟩ := at4 xb_2
 replace bz_3 := kH bz_3 hb_18
 obtain ⟨z_26, z_27, z_28⟩ := at3 bz_3
 go_upto_if 15 with fail
 clear z_19 z_20 z_21 z_22 z_23 z_24 z_25 z_26 z_27 z_28
 have HN4 := Lib.hid (show n ≤ 400 by have h := HL1.out; have h2 := RA0.out.len; omega); have HM4 := Lib.hid (show m ≤ 400 by have h := HL2.out; have h2 := RB0.out.len; omega)
 replace bel_4 := bH bel_4 hb_18
 obtain ⟨w1, hW⟩ : ∃ w', w' = w_17 := ⟨_, rfl⟩
 rw [← hW] at bel_4 ba_1 xb_2 bz_3
 rw [← hW]
 clear hW
 go_cut [] from 15 to 31 (fun wx => ∃ (A5 : Option Addr) (c5 : Nat), wx.ownsRow (w.heap.size + 1 + 1 + 1) 30 4 (.slice A5 (m + 1) c5) (m + 1) (bcells (ts ++ [⟨f, t, mm, ib⟩])) ∧ Blk wx (w.heap.size) 24 #[.int .i64 c, .slice A n k, .slice A5 (m + 1) c5] ∧ Blk wx (w.heap.size + 1 + 1) 24 #[.int .i64 0, .slice none 0 0, .slice none 0 0] ∧ Below w.heap.size w wx)
 case first =>
  go_upto_region 5 with fail
  have hn4_ := HN4.out; have hm4_ := HM4.out
  replace bel_4 := bD bel_4
  replace ba_1 := kD ba_1
  replace xb_2 := kD xb_2
  replace bz_3 := kD bz_3
  refine wp_region_held_drew (S := (fun W' => Blk W' (w.heap.size + 1) 30 #[.int .i64 f, .int .i64 t, .int .i64 mm, .int .i64 ib])) (by kernel_rfl) xb_2.out (fun _ => ?_)
  obtain ⟨w2272, hw2273⟩ : ∃ w', w' = (w1.drew) := ⟨_, rfl⟩
  rw [← hw2273] at bel_4 ba_1 xb_2 bz_3
  rw [← hw2273]
  clear hw2273
  refine' twH 1 xb_2.out ?_
  refine' tkH 4 xb_2.out ?hyR2275 ?_
  case hyR2275 => (rintro W' hS0; have hc0 := Blk.nth hS0 0; have hc1 := Blk.nth hS0 1; have hc2 := Blk.nth hS0 2; have hc3 := Blk.nth hS0 3; clear hS0; go_simp; try with_reducible rfl)
  try simp only [Act.put, qsA, qsZ, qsS]
  refine wpAnyH_ready (rs := [0, 2, 5]) (by kernel_rfl) (by simp) ?_
  refine rdH rfl (fun K hK => ?_) ?_
  · -- 0: buildSlice
   go_simp
   have how_ := World.ownsRow_lit (w2272) (e := 30) (size := 4) #[] 0 (Nat.le_refl _) (by unfold maxLen; omega) rfl
   have how_ := owns_base how_ (show (w.heap.size + 1 + 1 + 1) ≤ _ from Nat.succ_le_of_lt (Blk.lt (bz_3.out)))
   have lb2280 := Lib.hid (bel_4.out.size)
   have ne2281 := Lib.hid (Nat.ne_of_lt (Blk.lt ba_1.out))
   have ne2282 := Lib.hid (Nat.ne_of_lt (Blk.lt xb_2.out))
   have ne2283 := Lib.hid (Nat.ne_of_lt (Blk.lt bz_3.out))
   obtain ⟨o_, ho_⟩ : ∃ o, o = (.cells #[] 30 : Obj) := ⟨_, rfl⟩
   replace bel_4 := bA bel_4 o_
   replace ba_1 := kA ba_1 o_
   replace xb_2 := kA xb_2 o_
   replace bz_3 := kA bz_3 o_
   subst ho_
   have gl_2284 := Lib.hid (Blk.new (w2272) 30 #[])
   obtain ⟨g2276, hg2277⟩ : ∃ g, g = (w2272).heap.size := ⟨_, rfl⟩
   obtain ⟨w2278, hw2279⟩ : ∃ w', w' = (w2272).alloc (.cells #[] 30) := ⟨_, rfl⟩
   rw [← hw2279] at bel_4 ba_1 xb_2 bz_3 gl_2284 how_
   rw [← hg2277] at lb2280 ne2281 ne2282 ne2283 gl_2284 how_
   rw [← hg2277, ← hw2279]
   clear hg2277 hw2279
   have OWL := Lib.hid how_; clear how_
   refine hK.out _ _ xb_2.out (fun _ => ?_); clear hK K
   try simp only [Act.put, qsA, qsZ, qsS]
   refine wpAnyH_ready (rs := [2, 5]) (by kernel_rfl) (by simp) ?_
   refine rdH rfl (fun K hK => ?_) ?_
   · -- 2: load
    have cs_ : (w2278).cell? ⟨w.heap.size, 2, none⟩ = some (.slice B m j) := Blk.cell (ba_1.out) 2
    go_simp
    clear cs_
    refine hK.out _ _ xb_2.out (fun _ => ?_); clear hK K
    try simp only [Act.put, qsA, qsZ, qsS]
    refine wpAnyH_ready (rs := [3, 5]) (by kernel_rfl) (by simp) ?_
    refine rdH rfl (fun K hK => ?_) ?_
    · -- 3: call
     refine wp_append_lit2 (.tmp 16) (.tmp 18) rfl (w.heap.size + 1 + 1 + 1) g2276 (OWL.out) rfl B m j ts (RdB.below RB0.out (bel_4.out)) hm4_ rfl (Nat.succ_le_of_lt (Blk.lt (bz_3.out))) ?_
     intro Ai ci w2285 hown5_ hg5_ hwh5_
     have k2286 := Lib.hid (blk_grown (ba_1.out) hg5_ (fun e => by have h_ := (World.ownsRow.lt (OWL.out) _ e).1; omega))
     have k2287 := Lib.hid (blk_grown (xb_2.out) hg5_ (fun e => by have h_ := (World.ownsRow.lt (OWL.out) _ e).1; omega))
     have k2288 := Lib.hid (blk_grown (bz_3.out) hg5_ (fun e => by have h_ := (World.ownsRow.lt (OWL.out) _ e).1; omega))
     have k2289 := Lib.hid (Below.grown (bel_4.out) hg5_ (Below.size (bel_4.out)) (fun q e => by have h_ := (World.ownsRow.lt (OWL.out) q e).1; omega))
     have OWA := Lib.hid hown5_
     clear hown5_ hg5_ hwh5_
     refine hK.out _ _ k2287.out (fun _ => ?_); clear hK K
     try simp only [Act.put, qsA, qsZ, qsS]
     refine oneH 5 rfl fun K hK => ?_
     go_simp
     have hnl_ := fun y h => (World.ownsRow.lt (OWA.out) y h).2
     have lb2294 := Lib.hid (k2289.out.size)
     have ne2295 := Lib.hid (Nat.ne_of_lt (Blk.lt k2286.out))
     have ne2296 := Lib.hid (Nat.ne_of_lt (Blk.lt k2287.out))
     have ne2297 := Lib.hid (Nat.ne_of_lt (Blk.lt k2288.out))
     obtain ⟨o_, ho_⟩ : ∃ o, o = (.cells #[.int .i64 f, .int .i64 t, .int .i64 mm, .int .i64 ib] 30 : Obj) := ⟨_, rfl⟩
     replace k2289 := bA k2289 o_
     replace k2286 := kA k2286 o_
     replace k2287 := kA k2287 o_
     replace k2288 := kA k2288 o_
     replace OWA := Lib.hid (World.ownsRow.alloc (OWA.out) (o_))
     subst ho_
     have nb_2298 := Lib.hid (Blk.new (w2285) 30 #[.int .i64 f, .int .i64 t, .int .i64 mm, .int .i64 ib])
     obtain ⟨g2290, hg2291⟩ : ∃ g, g = (w2285).heap.size := ⟨_, rfl⟩
     obtain ⟨w2292, hw2293⟩ : ∃ w', w' = (w2285).alloc (.cells #[.int .i64 f, .int .i64 t, .int .i64 mm, .int .i64 ib] 30) := ⟨_, rfl⟩
     rw [← hw2293] at k2289 k2286 k2287 k2288 OWA nb_2298
     rw [← hg2291] at lb2294 ne2295 ne2296 ne2297 nb_2298 hnl_
     rw [← hg2291, ← hw2293]
     clear hg2291 hw2293
     have NEN := Lib.hid (fun (e : (Value.slice Ai m ci).ownBlock = some g2290) => Nat.lt_irrefl _ (hnl_ _ e)); clear hnl_
     refine hK.out _ _ k2287.out (fun _ => ?_); clear hK K
     try simp only [Act.put, qsA, qsZ, qsS]
     refine oneH 6 rfl fun K hK => ?_
     have hcell_ := cells_add (cs := bcells [⟨f, t, mm, ib⟩]) (show Blk _ _ _ (bcells [⟨f, t, mm, ib⟩]).toArray from nb_2298.out)
     have hbz_ := Nat.succ_le_of_lt (Blk.lt (k2288.out))
     refine wp_append_own _ (.tmp 19) (.tmp 21) 22 rfl (w.heap.size + 1 + 1 + 1) 30 i0 _ 4 32 Tryz.underlying22 HI.out HZ0.out HZ1.out HZ2.out rfl (by omega) _ _ _ rfl (OWA.out) ⟨g2290, 0, none⟩ 1 1 (bcells [⟨f, t, mm, ib⟩]) rfl rfl hcell_ (bcells_one _) (by unfold maxLen; omega) (by omega) hbz_ ?_
     intro v5 w2299 hown5_ hg5_ _
     obtain ⟨A5, c5, rfl, -⟩ := own_form hown5_
     have k2300 := Lib.hid (blk_grown (k2286.out) hg5_ (fun e => by have h_ := (World.ownsRow.lt (OWA.out) _ e).1; omega))
     have k2301 := Lib.hid (blk_grown (k2287.out) hg5_ (fun e => by have h_ := (World.ownsRow.lt (OWA.out) _ e).1; omega))
     have k2302 := Lib.hid (blk_grown (k2288.out) hg5_ (fun e => by have h_ := (World.ownsRow.lt (OWA.out) _ e).1; omega))
     have k2303 := Lib.hid (Below.grown (k2289.out) hg5_ (Below.size (k2289.out)) (fun q e => by have h_ := (World.ownsRow.lt (OWA.out) q e).1; omega))
     have OW5 := Lib.hid (show World.ownsRow w2299 (w.heap.size + 1 + 1 + 1) 30 4 (.slice A5 (m + 1) c5) (m + 1) (bcells (ts ++ [⟨f, t, mm, ib⟩])) from by rw [bcells_append]; exact hown5_)
     clear hown5_ hg5_ hcell_ hbz_
     refine hK.out _ _ k2301.out (fun _ => ?_); clear hK K
     try simp only [Act.put, qsA, qsZ, qsS]
     refine' twH 7 k2301.out ?_
     try simp only [Act.put, qsA, qsZ, qsS]
     refine oneH 8 rfl fun K hK => ?_
     have v0_ : (w2299).cell? ⟨w.heap.size, 2, none⟩ = some (.slice B m j) := Blk.cell (k2300.out) 2
     have f0_ : (w2299).frozen? ⟨w.heap.size, 2, none⟩ = false := Blk.frozen (k2300.out) 2
     have hlt_ := Blk.lt (k2302.out)
     go_simp
     have k2305 := Lib.hid (Blk.set_ (k2300.out) 2 (.slice A5 (m + 1) c5))
     have k2306 := Lib.hid (Blk.far (k2301.out) (p := ⟨w.heap.size, 2, none⟩) (by dsimp only; omega) (.slice A5 (m + 1) c5))
     have k2307 := Lib.hid (Blk.far (k2302.out) (p := ⟨w.heap.size, 2, none⟩) (by dsimp only; omega) (.slice A5 (m + 1) c5))
     have k2308 := Lib.hid (Below.setCell (k2303.out) (p := ⟨w.heap.size, 2, none⟩) (by dsimp only; omega) (.slice A5 (m + 1) c5))
     have k2309 := Lib.hid (own_far (OW5.out) (a := ⟨w.heap.size, 2, none⟩) (fun e => by have h_ := (World.ownsRow.lt (OW5.out) _ e).1; dsimp only at h_; omega) (.slice A5 (m + 1) c5))
     obtain ⟨w2310, hw2311⟩ : ∃ w', w' = (w2299).setCell ⟨w.heap.size, 2, none⟩ (.slice A5 (m + 1) c5) := ⟨_, rfl⟩
     rw [← hw2311] at k2305 k2306 k2307 k2308 k2309
     rw [← hw2311]
     clear hw2311 v0_ f0_ hlt_
     refine hK.out _ _ k2306.out (fun _ => ?_); clear hK K
     try simp only [Act.put, qsA, qsZ, qsS]
     refine wpAnyH_done (by kernel_rfl) ?_ _
     go_wp2
     go_meet
     exact ⟨A5, c5, k2309.out, k2305.out, k2307.out, k2308.out⟩
    refine rdH rfl (fun K hK => ?_) ?_
    · -- 5: buildSlice
     go_simp
     have hnl_ := fun y h => (World.ownsRow.lt (OWL.out) y h).2
     have lb2316 := Lib.hid (bel_4.out.size)
     have ne2317 := Lib.hid (Nat.ne_of_lt (Blk.lt ba_1.out))
     have ne2318 := Lib.hid (Nat.ne_of_lt (Blk.lt xb_2.out))
     have ne2319 := Lib.hid (Nat.ne_of_lt (Blk.lt bz_3.out))
     obtain ⟨o_, ho_⟩ : ∃ o, o = (.cells #[.int .i64 f, .int .i64 t, .int .i64 mm, .int .i64 ib] 30 : Obj) := ⟨_, rfl⟩
     replace bel_4 := bA bel_4 o_
     replace ba_1 := kA ba_1 o_
     replace xb_2 := kA xb_2 o_
     replace bz_3 := kA bz_3 o_
     replace OWL := Lib.hid (World.ownsRow.alloc (OWL.out) (o_))
     subst ho_
     have nb_2320 := Lib.hid (Blk.new (w2278) 30 #[.int .i64 f, .int .i64 t, .int .i64 mm, .int .i64 ib])
     obtain ⟨g2312, hg2313⟩ : ∃ g, g = (w2278).heap.size := ⟨_, rfl⟩
     obtain ⟨w2314, hw2315⟩ : ∃ w', w' = (w2278).alloc (.cells #[.int .i64 f, .int .i64 t, .int .i64 mm, .int .i64 ib] 30) := ⟨_, rfl⟩
     rw [← hw2315] at bel_4 ba_1 xb_2 bz_3 OWL nb_2320
     rw [← hg2313] at lb2316 ne2317 ne2318 ne2319 nb_2320 hnl_
     rw [← hg2313, ← hw2315]
     clear hg2313 hw2315
     have NEN := Lib.hid (fun (e : (Value.slice (some ⟨g2276, 0, none⟩) 0 0).ownBlock = some g2312) => Nat.lt_irrefl _ (hnl_ _ e)); clear hnl_
     refine hK.out _ _ xb_2.out (fun _ => ?_); clear hK K
     try simp only [Act.put, qsA, qsZ, qsS]
     refine oneH 3 rfl fun K hK => ?_
     refine wp_append_lit2 (.tmp 16) (.tmp 18) rfl (w.heap.size + 1 + 1 + 1) g2276 (OWL.out) rfl B m j ts (RdB.below RB0.out (bel_4.out)) hm4_ rfl (Nat.succ_le_of_lt (Blk.lt (bz_3.out))) ?_
     intro Ai ci w2321 hown5_ hg5_ hwh5_
     have NE2 := Lib.hid (fun (e : (Value.slice Ai m ci).ownBlock = some g2312) => show False from hwh5_.elim (fun h => NEN.out (h.symm.trans e)) (fun h => absurd (Blk.lt (nb_2320.out)) (by have h9 := Option.some.inj (h.symm.trans e); omega)))
     have k2322 := Lib.hid (blk_grown (ba_1.out) hg5_ (fun e => by have h_ := (World.ownsRow.lt (OWL.out) _ e).1; omega))
     have k2323 := Lib.hid (blk_grown (xb_2.out) hg5_ (fun e => by have h_ := (World.ownsRow.lt (OWL.out) _ e).1; omega))
     have k2324 := Lib.hid (blk_grown (bz_3.out) hg5_ (fun e => by have h_ := (World.ownsRow.lt (OWL.out) _ e).1; omega))
     have k2325 := Lib.hid (blk_grown (nb_2320.out) hg5_ (fun e => NEN.out e))
     have k2326 := Lib.hid (Below.grown (bel_4.out) hg5_ (Below.size (bel_4.out)) (fun q e => by have h_ := (World.ownsRow.lt (OWL.out) q e).1; omega))
     clear NEN; have NEN := NE2; clear NE2
     have OWA := Lib.hid hown5_
     clear hown5_ hg5_ hwh5_
     refine hK.out _ _ k2323.out (fun _ => ?_); clear hK K
     try simp only [Act.put, qsA, qsZ, qsS]
     refine oneH 6 rfl fun K hK => ?_
     have hcell_ := cells_add (cs := bcells [⟨f, t, mm, ib⟩]) (show Blk _ _ _ (bcells [⟨f, t, mm, ib⟩]).toArray from k2325.out)
     have hbz_ := Nat.succ_le_of_lt (Blk.lt (k2324.out))
     refine wp_append_own _ (.tmp 19) (.tmp 21) 22 rfl (w.heap.size + 1 + 1 + 1) 30 i0 _ 4 32 Tryz.underlying22 HI.out HZ0.out HZ1.out HZ2.out rfl (by omega) _ _ _ rfl (OWA.out) ⟨g2312, 0, none⟩ 1 1 (bcells [⟨f, t, mm, ib⟩]) rfl rfl hcell_ (bcells_one _) (by unfold maxLen; omega) (by omega) hbz_ ?_
     intro v5 w2327 hown5_ hg5_ _
     obtain ⟨A5, c5, rfl, -⟩ := own_form hown5_
     have k2328 := Lib.hid (blk_grown (k2322.out) hg5_ (fun e => by have h_ := (World.ownsRow.lt (OWA.out) _ e).1; omega))
     have k2329 := Lib.hid (blk_grown (k2323.out) hg5_ (fun e => by have h_ := (World.ownsRow.lt (OWA.out) _ e).1; omega))
     have k2330 := Lib.hid (blk_grown (k2324.out) hg5_ (fun e => by have h_ := (World.ownsRow.lt (OWA.out) _ e).1; omega))
     have k2331 := Lib.hid (Below.grown (k2326.out) hg5_ (Below.size (k2326.out)) (fun q e => by have h_ := (World.ownsRow.lt (OWA.out) q e).1; omega))
     have OW5 := Lib.hid (show World.ownsRow w2327 (w.heap.size + 1 + 1 + 1) 30 4 (.slice A5 (m + 1) c5) (m + 1) (bcells (ts ++ [⟨f, t, mm, ib⟩])) from by rw [bcells_append]; exact hown5_)
     clear hown5_ hg5_ hcell_ hbz_
     refine hK.out _ _ k2329.out (fun _ => ?_); clear hK K
     try simp only [Act.put, qsA, qsZ, qsS]
     refine' twH 7 k2329.out ?_
     try simp only [Act.put, qsA, qsZ, qsS]
     refine oneH 8 rfl fun K hK => ?_
     have v0_ : (w2327).cell? ⟨w.heap.size, 2, none⟩ = some (.slice B m j) := Blk.cell (k2328.out) 2
     have f0_ : (w2327).frozen? ⟨w.heap.size, 2, none⟩ = false := Blk.frozen (k2328.out) 2
     have hlt_ := Blk.lt (k2330.out)
     go_simp
     have k2333 := Lib.hid (Blk.set_ (k2328.out) 2 (.slice A5 (m + 1) c5))
     have k2334 := Lib.hid (Blk.far (k2329.out) (p := ⟨w.heap.size, 2, none⟩) (by dsimp only; omega) (.slice A5 (m + 1) c5))
     have k2335 := Lib.hid (Blk.far (k2330.out) (p := ⟨w.heap.size, 2, none⟩) (by dsimp only; omega) (.slice A5 (m + 1) c5))
     have k2336 := Lib.hid (Below.setCell (k2331.out) (p := ⟨w.heap.size, 2, none⟩) (by dsimp only; omega) (.slice A5 (m + 1) c5))
     have k2337 := Lib.hid (own_far (OW5.out) (a := ⟨w.heap.size, 2, none⟩) (fun e => by have h_ := (World.ownsRow.lt (OW5.out) _ e).1; dsimp only at h_; omega) (.slice A5 (m + 1) c5))
     obtain ⟨w2338, hw2339⟩ : ∃ w', w' = (w2327).setCell ⟨w.heap.size, 2, none⟩ (.slice A5 (m + 1) c5) := ⟨_, rfl⟩
     rw [← hw2339] at k2333 k2334 k2335 k2336 k2337
     rw [← hw2339]
     clear hw2339 v0_ f0_ hlt_
     refine hK.out _ _ k2334.out (fun _ => ?_); clear hK K
     try simp only [Act.put, qsA, qsZ, qsS]
     refine wpAnyH_done (by kernel_rfl) ?_ _
     go_wp2
     go_meet
     exact ⟨A5, c5, k2337.out, k2333.out, k2335.out, k2336.out⟩
    exact AllReadyH.nil
   refine rdH rfl (fun K hK => ?_) ?_
   · -- 5: buildSlice
    go_simp
    have hnl_ := fun y h => (World.ownsRow.lt (OWL.out) y h).2
    have lb2344 := Lib.hid (bel_4.out.size)
    have ne2345 := Lib.hid (Nat.ne_of_lt (Blk.lt ba_1.out))
    have ne2346 := Lib.hid (Nat.ne_of_lt (Blk.lt xb_2.out))
    have ne2347 := Lib.hid (Nat.ne_of_lt (Blk.lt bz_3.out))
    obtain ⟨o_, ho_⟩ : ∃ o, o = (.cells #[.int .i64 f, .int .i64 t, .int .i64 mm, .int .i64 ib] 30 : Obj) := ⟨_, rfl⟩
    replace bel_4 := bA bel_4 o_
    replace ba_1 := kA ba_1 o_
    replace xb_2 := kA xb_2 o_
    replace bz_3 := kA bz_3 o_
    replace OWL := Lib.hid (World.ownsRow.alloc (OWL.out) (o_))
    subst ho_
    have nb_2348 := Lib.hid (Blk.new (w2278) 30 #[.int .i64 f, .int .i64 t, .int .i64 mm, .int .i64 ib])
    obtain ⟨g2340, hg2341⟩ : ∃ g, g = (w2278).heap.size := ⟨_, rfl⟩
    obtain ⟨w2342, hw2343⟩ : ∃ w', w' = (w2278).alloc (.cells #[.int .i64 f, .int .i64 t, .int .i64 mm, .int .i64 ib] 30) := ⟨_, rfl⟩
    rw [← hw2343] at bel_4 ba_1 xb_2 bz_3 OWL nb_2348
    rw [← hg2341] at lb2344 ne2345 ne2346 ne2347 nb_2348 hnl_
    rw [← hg2341, ← hw2343]
    clear hg2341 hw2343
    have NEN := Lib.hid (fun (e : (Value.slice (some ⟨g2276, 0, none⟩) 0 0).ownBlock = some g2340) => Nat.lt_irrefl _ (hnl_ _ e)); clear hnl_
    refine hK.out _ _ xb_2.out (fun _ => ?_); clear hK K
    try simp only [Act.put, qsA, qsZ, qsS]
    refine oneH 2 rfl fun K hK => ?_
    have cs_ : (w2342).cell? ⟨w.heap.size, 2, none⟩ = some (.slice B m j) := Blk.cell (ba_1.out) 2
    go_simp
    clear cs_
    refine hK.out _ _ xb_2.out (fun _ => ?_); clear hK K
    try simp only [Act.put, qsA, qsZ, qsS]
    refine oneH 3 rfl fun K hK => ?_
    refine wp_append_lit2 (.tmp 16) (.tmp 18) rfl (w.heap.size + 1 + 1 + 1) g2276 (OWL.out) rfl B m j ts (RdB.below RB0.out (bel_4.out)) hm4_ rfl (Nat.succ_le_of_lt (Blk.lt (bz_3.out))) ?_
    intro Ai ci w2349 hown5_ hg5_ hwh5_
    have NE2 := Lib.hid (fun (e : (Value.slice Ai m ci).ownBlock = some g2340) => show False from hwh5_.elim (fun h => NEN.out (h.symm.trans e)) (fun h => absurd (Blk.lt (nb_2348.out)) (by have h9 := Option.some.inj (h.symm.trans e); omega)))
    have k2350 := Lib.hid (blk_grown (ba_1.out) hg5_ (fun e => by have h_ := (World.ownsRow.lt (OWL.out) _ e).1; omega))
    have k2351 := Lib.hid (blk_grown (xb_2.out) hg5_ (fun e => by have h_ := (World.ownsRow.lt (OWL.out) _ e).1; omega))
    have k2352 := Lib.hid (blk_grown (bz_3.out) hg5_ (fun e => by have h_ := (World.ownsRow.lt (OWL.out) _ e).1; omega))
    have k2353 := Lib.hid (blk_grown (nb_2348.out) hg5_ (fun e => NEN.out e))
    have k2354 := Lib.hid (Below.grown (bel_4.out) hg5_ (Below.size (bel_4.out)) (fun q e => by have h_ := (World.ownsRow.lt (OWL.out) q e).1; omega))
    clear NEN; have NEN := NE2; clear NE2
    have OWA := Lib.hid hown5_
    clear hown5_ hg5_ hwh5_
    refine hK.out _ _ k2351.out (fun _ => ?_); clear hK K
    try simp only [Act.put, qsA, qsZ, qsS]
    refine oneH 6 rfl fun K hK => ?_
    have hcell_ := cells_add (cs := bcells [⟨f, t, mm, ib⟩]) (show Blk _ _ _ (bcells [⟨f, t, mm, ib⟩]).toArray from k2353.out)
    have hbz_ := Nat.succ_le_of_lt (Blk.lt (k2352.out))
    refine wp_append_own _ (.tmp 19) (.tmp 21) 22 rfl (w.heap.size + 1 + 1 + 1) 30 i0 _ 4 32 Tryz.underlying22 HI.out HZ0.out HZ1.out HZ2.out rfl (by omega) _ _ _ rfl (OWA.out) ⟨g2340, 0, none⟩ 1 1 (bcells [⟨f, t, mm, ib⟩]) rfl rfl hcell_ (bcells_one _) (by unfold maxLen; omega) (by omega) hbz_ ?_
    intro v5 w2355 hown5_ hg5_ _
    obtain ⟨A5, c5, rfl, -⟩ := own_form hown5_
    have k2356 := Lib.hid (blk_grown (k2350.out) hg5_ (fun e => by have h_ := (World.ownsRow.lt (OWA.out) _ e).1; omega))
    have k2357 := Lib.hid (blk_grown (k2351.out) hg5_ (fun e => by have h_ := (World.ownsRow.lt (OWA.out) _ e).1; omega))
    have k2358 := Lib.hid (blk_grown (k2352.out) hg5_ (fun e => by have h_ := (World.ownsRow.lt (OWA.out) _ e).1; omega))
    have k2359 := Lib.hid (Below.grown (k2354.out) hg5_ (Below.size (k2354.out)) (fun q e => by have h_ := (World.ownsRow.lt (OWA.out) q e).1; omega))
    have OW5 := Lib.hid (show World.ownsRow w2355 (w.heap.size + 1 + 1 + 1) 30 4 (.slice A5 (m + 1) c5) (m + 1) (bcells (ts ++ [⟨f, t, mm, ib⟩])) from by rw [bcells_append]; exact hown5_)
    clear hown5_ hg5_ hcell_ hbz_
    refine hK.out _ _ k2357.out (fun _ => ?_); clear hK K
    try simp only [Act.put, qsA, qsZ, qsS]
    refine' twH 7 k2357.out ?_
    try simp only [Act.put, qsA, qsZ, qsS]
    refine oneH 8 rfl fun K hK => ?_
    have v0_ : (w2355).cell? ⟨w.heap.size, 2, none⟩ = some (.slice B m j) := Blk.cell (k2356.out) 2
    have f0_ : (w2355).frozen? ⟨w.heap.size, 2, none⟩ = false := Blk.frozen (k2356.out) 2
    have hlt_ := Blk.lt (k2358.out)
    go_simp
    have k2361 := Lib.hid (Blk.set_ (k2356.out) 2 (.slice A5 (m + 1) c5))
    have k2362 := Lib.hid (Blk.far (k2357.out) (p := ⟨w.heap.size, 2, none⟩) (by dsimp only; omega) (.slice A5 (m + 1) c5))
    have k2363 := Lib.hid (Blk.far (k2358.out) (p := ⟨w.heap.size, 2, none⟩) (by dsimp only; omega) (.slice A5 (m + 1) c5))
    have k2364 := Lib.hid (Below.setCell (k2359.out) (p := ⟨w.heap.size, 2, none⟩) (by dsimp only; omega) (.slice A5 (m + 1) c5))
    have k2365 := Lib.hid (own_far (OW5.out) (a := ⟨w.heap.size, 2, none⟩) (fun e => by have h_ := (World.ownsRow.lt (OW5.out) _ e).1; dsimp only at h_; omega) (.slice A5 (m + 1) c5))
    obtain ⟨w2366, hw2367⟩ : ∃ w', w' = (w2355).setCell ⟨w.heap.size, 2, none⟩ (.slice A5 (m + 1) c5) := ⟨_, rfl⟩
    rw [← hw2367] at k2361 k2362 k2363 k2364 k2365
    rw [← hw2367]
    clear hw2367 v0_ f0_ hlt_
    refine hK.out _ _ k2362.out (fun _ => ?_); clear hK K
    try simp only [Act.put, qsA, qsZ, qsS]
    refine wpAnyH_done (by kernel_rfl) ?_ _
    go_wp2
    go_meet
    exact ⟨A5, c5, k2365.out, k2361.out, k2363.out, k2364.out⟩
   exact AllReadyH.nil
  refine rdH rfl (fun K hK => ?_) ?_
  · -- 2: load
   have cs_ : (w2272).cell? ⟨w.heap.size, 2, none⟩ = some (.slice B m j) := Blk.cell (ba_1.out) 2
   go_simp
   clear cs_
   refine hK.out _ _ xb_2.out (fun _ => ?_); clear hK K
   try simp only [Act.put, qsA, qsZ, qsS]
   refine wpAnyH_ready (rs := [0, 5]) (by kernel_rfl) (by simp) ?_
   refine rdH rfl (fun K hK => ?_) ?_
   · -- 0: buildSlice
    go_simp
    have how_ := World.ownsRow_lit (w2272) (e := 30) (size := 4) #[] 0 (Nat.le_refl _) (by unfold maxLen; omega) rfl
    have how_ := owns_base how_ (show (w.heap.size + 1 + 1 + 1) ≤ _ from Nat.succ_le_of_lt (Blk.lt (bz_3.out)))
    have lb2372 := Lib.hid (bel_4.out.size)
    have ne2373 := Lib.hid (Nat.ne_of_lt (Blk.lt ba_1.out))
    have ne2374 := Lib.hid (Nat.ne_of_lt (Blk.lt xb_2.out))
    have ne2375 := Lib.hid (Nat.ne_of_lt (Blk.lt bz_3.out))
    obtain ⟨o_, ho_⟩ : ∃ o, o = (.cells #[] 30 : Obj) := ⟨_, rfl⟩
    replace bel_4 := bA bel_4 o_
    replace ba_1 := kA ba_1 o_
    replace xb_2 := kA xb_2 o_
    replace bz_3 := kA bz_3 o_
    subst ho_
    have gl_2376 := Lib.hid (Blk.new (w2272) 30 #[])
    obtain ⟨g2368, hg2369⟩ : ∃ g, g = (w2272).heap.size := ⟨_, rfl⟩
    obtain ⟨w2370, hw2371⟩ : ∃ w', w' = (w2272).alloc (.cells #[] 30) := ⟨_, rfl⟩
    rw [← hw2371] at bel_4 ba_1 xb_2 bz_3 gl_2376 how_
    rw [← hg2369] at lb2372 ne2373 ne2374 ne2375 gl_2376 how_
    rw [← hg2369, ← hw2371]
    clear hg2369 hw2371
    have OWL := Lib.hid how_; clear how_
    refine hK.out _ _ xb_2.out (fun _ => ?_); clear hK K
    try simp only [Act.put, qsA, qsZ, qsS]
    refine wpAnyH_ready (rs := [3, 5]) (by kernel_rfl) (by simp) ?_
    refine rdH rfl (fun K hK => ?_) ?_
    · -- 3: call
     refine wp_append_lit2 (.tmp 16) (.tmp 18) rfl (w.heap.size + 1 + 1 + 1) g2368 (OWL.out) rfl B m j ts (RdB.below RB0.out (bel_4.out)) hm4_ rfl (Nat.succ_le_of_lt (Blk.lt (bz_3.out))) ?_
     intro Ai ci w2377 hown5_ hg5_ hwh5_
     have k2378 := Lib.hid (blk_grown (ba_1.out) hg5_ (fun e => by have h_ := (World.ownsRow.lt (OWL.out) _ e).1; omega))
     have k2379 := Lib.hid (blk_grown (xb_2.out) hg5_ (fun e => by have h_ := (World.ownsRow.lt (OWL.out) _ e).1; omega))
     have k2380 := Lib.hid (blk_grown (bz_3.out) hg5_ (fun e => by have h_ := (World.ownsRow.lt (OWL.out) _ e).1; omega))
     have k2381 := Lib.hid (Below.grown (bel_4.out) hg5_ (Below.size (bel_4.out)) (fun q e => by have h_ := (World.ownsRow.lt (OWL.out) q e).1; omega))
     have OWA := Lib.hid hown5_
     clear hown5_ hg5_ hwh5_
     refine hK.out _ _ k2379.out (fun _ => ?_); clear hK K
     try simp only [Act.put, qsA, qsZ, qsS]
     refine oneH 5 rfl fun K hK => ?_
     go_simp
     have hnl_ := fun y h => (World.ownsRow.lt (OWA.out) y h).2
     have lb2386 := Lib.hid (k2381.out.size)
     have ne2387 := Lib.hid (Nat.ne_of_lt (Blk.lt k2378.out))
     have ne2388 := Lib.hid (Nat.ne_of_lt (Blk.lt k2379.out))
     have ne2389 := Lib.hid (Nat.ne_of_lt (Blk.lt k2380.out))
     obtain ⟨o_, ho_⟩ : ∃ o, o = (.cells #[.int .i64 f, .int .i64 t, .int .i64 mm, .int .i64 ib] 30 : Obj) := ⟨_, rfl⟩
     replace k2381 := bA k2381 o_
     replace k2378 := kA k2378 o_
     replace k2379 := kA k2379 o_
     replace k2380 := kA k2380 o_
     replace OWA := Lib.hid (World.ownsRow.alloc (OWA.out) (o_))
     subst ho_
     have nb_2390 := Lib.hid (Blk.new (w2377) 30 #[.int .i64 f, .int .i64 t, .int .i64 mm, .int .i64 ib])
     obtain ⟨g2382, hg2383⟩ : ∃ g, g = (w2377).heap.size := ⟨_, rfl⟩
     obtain ⟨w2384, hw2385⟩ : ∃ w', w' = (w2377).alloc (.cells #[.int .i64 f, .int .i64 t, .int .i64 mm, .int .i64 ib] 30) := ⟨_, rfl⟩
     rw [← hw2385] at k2381 k2378 k2379 k2380 OWA nb_2390
     rw [← hg2383] at lb2386 ne2387 ne2388 ne2389 nb_2390 hnl_
     rw [← hg2383, ← hw2385]
     clear hg2383 hw2385
     have NEN := Lib.hid (fun (e : (Value.slice Ai m ci).ownBlock = some g2382) => Nat.lt_irrefl _ (hnl_ _ e)); clear hnl_
     refine hK.out _ _ k2379.out (fun _ => ?_); clear hK K
     try simp only [Act.put, qsA, qsZ, qsS]
     refine oneH 6 rfl fun K hK => ?_
     have hcell_ := cells_add (cs := bcells [⟨f, t, mm, ib⟩]) (show Blk _ _ _ (bcells [⟨f, t, mm, ib⟩]).toArray from nb_2390.out)
     have hbz_ := Nat.succ_le_of_lt (Blk.lt (k2380.out))
     refine wp_append_own _ (.tmp 19) (.tmp 21) 22 rfl (w.heap.size + 1 + 1 + 1) 30 i0 _ 4 32 Tryz.underlying22 HI.out HZ0.out HZ1.out HZ2.out rfl (by omega) _ _ _ rfl (OWA.out) ⟨g2382, 0, none⟩ 1 1 (bcells [⟨f, t, mm, ib⟩]) rfl rfl hcell_ (bcells_one _) (by unfold maxLen; omega) (by omega) hbz_ ?_
     intro v5 w2391 hown5_ hg5_ _
     obtain ⟨A5, c5, rfl, -⟩ := own_form hown5_
     have k2392 := Lib.hid (blk_grown (k2378.out) hg5_ (fun e => by have h_ := (World.ownsRow.lt (OWA.out) _ e).1; omega))
     have k2393 := Lib.hid (blk_grown (k2379.out) hg5_ (fun e => by have h_ := (World.ownsRow.lt (OWA.out) _ e).1; omega))
     have k2394 := Lib.hid (blk_grown (k2380.out) hg5_ (fun e => by have h_ := (World.ownsRow.lt (OWA.out) _ e).1; omega))
     have k2395 := Lib.hid (Below.grown (k2381.out) hg5_ (Below.size (k2381.out)) (fun q e => by have h_ := (World.ownsRow.lt (OWA.out) q e).1; omega))
     have OW5 := Lib.hid (show World.ownsRow w2391 (w.heap.size + 1 + 1 + 1) 30 4 (.slice A5 (m + 1) c5) (m + 1) (bcells (ts ++ [⟨f, t, mm, ib⟩])) from by rw [bcells_append]; exact hown5_)
     clear hown5_ hg5_ hcell_ hbz_
     refine hK.out _ _ k2393.out (fun _ => ?_); clear hK K
     try simp only [Act.put, qsA, qsZ, qsS]
     refine' twH 7 k2393.out ?_
     try simp only [Act.put, qsA, qsZ, qsS]
     refine oneH 8 rfl fun K hK => ?_
     have v0_ : (w2391).cell? ⟨w.heap.size, 2, none⟩ = some (.slice B m j) := Blk.cell (k2392.out) 2
     have f0_ : (w2391).frozen? ⟨w.heap.size, 2, none⟩ = false := Blk.frozen (k2392.out) 2
     have hlt_ := Blk.lt (k2394.out)
     go_simp
     have k2397 := Lib.hid (Blk.set_ (k2392.out) 2 (.slice A5 (m + 1) c5))
     have k2398 := Lib.hid (Blk.far (k2393.out) (p := ⟨w.heap.size, 2, none⟩) (by dsimp only; omega) (.slice A5 (m + 1) c5))
     have k2399 := Lib.hid (Blk.far (k2394.out) (p := ⟨w.heap.size, 2, none⟩) (by dsimp only; omega) (.slice A5 (m + 1) c5))
     have k2400 := Lib.hid (Below.setCell (k2395.out) (p := ⟨w.heap.size, 2, none⟩) (by dsimp only; omega) (.slice A5 (m + 1) c5))
     have k2401 := Lib.hid (own_far (OW5.out) (a := ⟨w.heap.size, 2, none⟩) (fun e => by have h_ := (World.ownsRow.lt (OW5.out) _ e).1; dsimp only at h_; omega) (.slice A5 (m + 1) c5))
     obtain ⟨w2402, hw2403⟩ : ∃ w', w' = (w2391).setCell ⟨w.heap.size, 2, none⟩ (.slice A5 (m + 1) c5) := ⟨_, rfl⟩
     rw [← hw2403] at k2397 k2398 k2399 k2400 k2401
     rw [← hw2403]
     clear hw2403 v0_ f0_ hlt_
     refine hK.out _ _ k2398.out (fun _ => ?_); clear hK K
     try simp only [Act.put, qsA, qsZ, qsS]
     refine wpAnyH_done (by kernel_rfl) ?_ _
     go_wp2
     go_meet
     exact ⟨A5, c5, k2401.out, k2397.out, k2399.out, k2400.out⟩
    refine rdH rfl (fun K hK => ?_) ?_
    · -- 5: buildSlice
     go_simp
     have hnl_ := fun y h => (World.ownsRow.lt (OWL.out) y h).2
     have lb2408 := Lib.hid (bel_4.out.size)
     have ne2409 := Lib.hid (Nat.ne_of_lt (Blk.lt ba_1.out))
     have ne2410 := Lib.hid (Nat.ne_of_lt (Blk.lt xb_2.out))
     have ne2411 := Lib.hid (Nat.ne_of_lt (Blk.lt bz_3.out))
     obtain ⟨o_, ho_⟩ : ∃ o, o = (.cells #[.int .i64 f, .int .i64 t, .int .i64 mm, .int .i64 ib] 30 : Obj) := ⟨_, rfl⟩
     replace bel_4 := bA bel_4 o_
     replace ba_1 := kA ba_1 o_
     replace xb_2 := kA xb_2 o_
     replace bz_3 := kA bz_3 o_
     replace OWL := Lib.hid (World.ownsRow.alloc (OWL.out) (o_))
     subst ho_
     have nb_2412 := Lib.hid (Blk.new (w2370) 30 #[.int .i64 f, .int .i64 t, .int .i64 mm, .int .i64 ib])
     obtain ⟨g2404, hg2405⟩ : ∃ g, g = (w2370).heap.size := ⟨_, rfl⟩
     obtain ⟨w2406, hw2407⟩ : ∃ w', w' = (w2370).alloc (.cells #[.int .i64 f, .int .i64 t, .int .i64 mm, .int .i64 ib] 30) := ⟨_, rfl⟩
     rw [← hw2407] at bel_4 ba_1 xb_2 bz_3 OWL nb_2412
     rw [← hg2405] at lb2408 ne2409 ne2410 ne2411 nb_2412 hnl_
     rw [← hg2405, ← hw2407]
     clear hg2405 hw2407
     have NEN := Lib.hid (fun (e : (Value.slice (some ⟨g2368, 0, none⟩) 0 0).ownBlock = some g2404) => Nat.lt_irrefl _ (hnl_ _ e)); clear hnl_
     refine hK.out _ _ xb_2.out (fun _ => ?_); clear hK K
     try simp only [Act.put, qsA, qsZ, qsS]
     refine oneH 3 rfl fun K hK => ?_
     refine wp_append_lit2 (.tmp 16) (.tmp 18) rfl (w.heap.size + 1 + 1 + 1) g2368 (OWL.out) rfl B m j ts (RdB.below RB0.out (bel_4.out)) hm4_ rfl (Nat.succ_le_of_lt (Blk.lt (bz_3.out))) ?_
     intro Ai ci w2413 hown5_ hg5_ hwh5_
     have NE2 := Lib.hid (fun (e : (Value.slice Ai m ci).ownBlock = some g2404) => show False from hwh5_.elim (fun h => NEN.out (h.symm.trans e)) (fun h => absurd (Blk.lt (nb_2412.out)) (by have h9 := Option.some.inj (h.symm.trans e); omega)))
     have k2414 := Lib.hid (blk_grown (ba_1.out) hg5_ (fun e => by have h_ := (World.ownsRow.lt (OWL.out) _ e).1; omega))
     have k2415 := Lib.hid (blk_grown (xb_2.out) hg5_ (fun e => by have h_ := (World.ownsRow.lt (OWL.out) _ e).1; omega))
     have k2416 := Lib.hid (blk_grown (bz_3.out) hg5_ (fun e => by have h_ := (World.ownsRow.lt (OWL.out) _ e).1; omega))
     have k2417 := Lib.hid (blk_grown (nb_2412.out) hg5_ (fun e => NEN.out e))
     have k2418 := Lib.hid (Below.grown (bel_4.out) hg5_ (Below.size (bel_4.out)) (fun q e => by have h_ := (World.ownsRow.lt (OWL.out) q e).1; omega))
     clear NEN; have NEN := NE2; clear NE2
     have OWA := Lib.hid hown5_
     clear hown5_ hg5_ hwh5_
     refine hK.out _ _ k2415.out (fun _ => ?_); clear hK K
     try simp only [Act.put, qsA, qsZ, qsS]
     refine oneH 6 rfl fun K hK => ?_
     have hcell_ := cells_add (cs := bcells [⟨f, t, mm, ib⟩]) (show Blk _ _ _ (bcells [⟨f, t, mm, ib⟩]).toArray from k2417.out)
     have hbz_ := Nat.succ_le_of_lt (Blk.lt (k2416.out))
     refine wp_append_own _ (.tmp 19) (.tmp 21) 22 rfl (w.heap.size + 1 + 1 + 1) 30 i0 _ 4 32 Tryz.underlying22 HI.out HZ0.out HZ1.out HZ2.out rfl (by omega) _ _ _ rfl (OWA.out) ⟨g2404, 0, none⟩ 1 1 (bcells [⟨f, t, mm, ib⟩]) rfl rfl hcell_ (bcells_one _) (by unfold maxLen; omega) (by omega) hbz_ ?_
     intro v5 w2419 hown5_ hg5_ _
     obtain ⟨A5, c5, rfl, -⟩ := own_form hown5_
     have k2420 := Lib.hid (blk_grown (k2414.out) hg5_ (fun e => by have h_ := (World.ownsRow.lt (OWA.out) _ e).1; omega))
     have k2421 := Lib.hid (blk_grown (k2415.out) hg5_ (fun e => by have h_ := (World.ownsRow.lt (OWA.out) _ e).1; omega))
     have k2422 := Lib.hid (blk_grown (k2416.out) hg5_ (fun e => by have h_ := (World.ownsRow.lt (OWA.out) _ e).1; omega))
     have k2423 := Lib.hid (Below.grown (k2418.out) hg5_ (Below.size (k2418.out)) (fun q e => by have h_ := (World.ownsRow.lt (OWA.out) q e).1; omega))
     have OW5 := Lib.hid (show World.ownsRow w2419 (w.heap.size + 1 + 1 + 1) 30 4 (.slice A5 (m + 1) c5) (m + 1) (bcells (ts ++ [⟨f, t, mm, ib⟩])) from by rw [bcells_append]; exact hown5_)
     clear hown5_ hg5_ hcell_ hbz_
     refine hK.out _ _ k2421.out (fun _ => ?_); clear hK K
     try simp only [Act.put, qsA, qsZ, qsS]
     refine' twH 7 k2421.out ?_
     try simp only [Act.put, qsA, qsZ, qsS]
     refine oneH 8 rfl fun K hK => ?_
     have v0_ : (w2419).cell? ⟨w.heap.size, 2, none⟩ = some (.slice B m j) := Blk.cell (k2420.out) 2
     have f0_ : (w2419).frozen? ⟨w.heap.size, 2, none⟩ = false := Blk.frozen (k2420.out) 2
     have hlt_ := Blk.lt (k2422.out)
     go_simp
     have k2425 := Lib.hid (Blk.set_ (k2420.out) 2 (.slice A5 (m + 1) c5))
     have k2426 := Lib.hid (Blk.far (k2421.out) (p := ⟨w.heap.size, 2, none⟩) (by dsimp only; omega) (.slice A5 (m + 1) c5))
     have k2427 := Lib.hid (Blk.far (k2422.out) (p := ⟨w.heap.size, 2, none⟩) (by dsimp only; omega) (.slice A5 (m + 1) c5))
     have k2428 := Lib.hid (Below.setCell (k2423.out) (p := ⟨w.heap.size, 2, none⟩) (by dsimp only; omega) (.slice A5 (m + 1) c5))
     have k2429 := Lib.hid (own_far (OW5.out) (a := ⟨w.heap.size, 2, none⟩) (fun e => by have h_ := (World.ownsRow.lt (OW5.out) _ e).1; dsimp only at h_; omega) (.slice A5 (m + 1) c5))
     obtain ⟨w2430, hw2431⟩ : ∃ w', w' = (w2419).setCell ⟨w.heap.size, 2, none⟩ (.slice A5 (m + 1) c5) := ⟨_, rfl⟩
     rw [← hw2431] at k2425 k2426 k2427 k2428 k2429
     rw [← hw2431]
     clear hw2431 v0_ f0_ hlt_
     refine hK.out _ _ k2426.out (fun _ => ?_); clear hK K
     try simp only [Act.put, qsA, qsZ, qsS]
     refine wpAnyH_done (by kernel_rfl) ?_ _
     go_wp2
     go_meet
     exact ⟨A5, c5, k2429.out, k2425.out, k2427.out, k2428.out⟩
    exact AllReadyH.nil
   refine rdH rfl (fun K hK => ?_) ?_
   · -- 5: buildSlice
    go_simp
    have lb2436 := Lib.hid (bel_4.out.size)
    have ne2437 := Lib.hid (Nat.ne_of_lt (Blk.lt ba_1.out))
    have ne2438 := Lib.hid (Nat.ne_of_lt (Blk.lt xb_2.out))
    have ne2439 := Lib.hid (Nat.ne_of_lt (Blk.lt bz_3.out))
    obtain ⟨o_, ho_⟩ : ∃ o, o = (.cells #[.int .i64 f, .int .i64 t, .int .i64 mm, .int .i64 ib] 30 : Obj) := ⟨_, rfl⟩
    replace bel_4 := bA bel_4 o_
    replace ba_1 := kA ba_1 o_
    replace xb_2 := kA xb_2 o_
    replace bz_3 := kA bz_3 o_
    subst ho_
    have nb_2440 := Lib.hid (Blk.new (w2272) 30 #[.int .i64 f, .int .i64 t, .int .i64 mm, .int .i64 ib])
    obtain ⟨g2432, hg2433⟩ : ∃ g, g = (w2272).heap.size := ⟨_, rfl⟩
    obtain ⟨w2434, hw2435⟩ : ∃ w', w' = (w2272).alloc (.cells #[.int .i64 f, .int .i64 t, .int .i64 mm, .int .i64 ib] 30) := ⟨_, rfl⟩
    rw [← hw2435] at bel_4 ba_1 xb_2 bz_3 nb_2440
    rw [← hg2433] at lb2436 ne2437 ne2438 ne2439 nb_2440
    rw [← hg2433, ← hw2435]
    clear hg2433 hw2435
    refine hK.out _ _ xb_2.out (fun _ => ?_); clear hK K
    try simp only [Act.put, qsA, qsZ, qsS]
    refine oneH 0 rfl fun K hK => ?_
    go_simp
    have how_ := World.ownsRow_lit (w2434) (e := 30) (size := 4) #[] 0 (Nat.le_refl _) (by unfold maxLen; omega) rfl
    have how_ := owns_base how_ (show (w.heap.size + 1 + 1 + 1) ≤ _ from Nat.succ_le_of_lt (Blk.lt (bz_3.out)))
    have lb2445 := Lib.hid (bel_4.out.size)
    have ne2446 := Lib.hid (Nat.ne_of_lt (Blk.lt ba_1.out))
    have ne2447 := Lib.hid (Nat.ne_of_lt (Blk.lt xb_2.out))
    have ne2448 := Lib.hid (Nat.ne_of_lt (Blk.lt bz_3.out))
    have ne2449 := Lib.hid (Nat.ne_of_lt (Blk.lt nb_2440.out))
    obtain ⟨o_, ho_⟩ : ∃ o, o = (.cells #[] 30 : Obj) := ⟨_, rfl⟩
    replace bel_4 := bA bel_4 o_
    replace ba_1 := kA ba_1 o_
    replace xb_2 := kA xb_2 o_
    replace bz_3 := kA bz_3 o_
    replace nb_2440 := kA nb_2440 o_
    subst ho_
    have gl_2450 := Lib.hid (Blk.new (w2434) 30 #[])
    obtain ⟨g2441, hg2442⟩ : ∃ g, g = (w2434).heap.size := ⟨_, rfl⟩
    obtain ⟨w2443, hw2444⟩ : ∃ w', w' = (w2434).alloc (.cells #[] 30) := ⟨_, rfl⟩
    rw [← hw2444] at bel_4 ba_1 xb_2 bz_3 nb_2440 gl_2450 how_
    rw [← hg2442] at lb2445 ne2446 ne2447 ne2448 ne2449 gl_2450 how_
    rw [← hg2442, ← hw2444]
    clear hg2442 hw2444
    have OWL := Lib.hid how_; clear how_
    have NEN := Lib.hid (fun (e : (Value.slice (some ⟨g2441, 0, none⟩) 0 0).ownBlock = some g2432) => ne2449.out (Option.some.inj e).symm)
    refine hK.out _ _ xb_2.out (fun _ => ?_); clear hK K
    try simp only [Act.put, qsA, qsZ, qsS]
    refine oneH 3 rfl fun K hK => ?_
    refine wp_append_lit2 (.tmp 16) (.tmp 18) rfl (w.heap.size + 1 + 1 + 1) g2441 (OWL.out) rfl B m j ts (RdB.below RB0.out (bel_4.out)) hm4_ rfl (Nat.succ_le_of_lt (Blk.lt (bz_3.out))) ?_
    intro Ai ci w2451 hown5_ hg5_ hwh5_
    have NE2 := Lib.hid (fun (e : (Value.slice Ai m ci).ownBlock = some g2432) => show False from hwh5_.elim (fun h => NEN.out (h.symm.trans e)) (fun h => absurd (Blk.lt (nb_2440.out)) (by have h9 := Option.some.inj (h.symm.trans e); omega)))
    have k2452 := Lib.hid (blk_grown (ba_1.out) hg5_ (fun e => by have h_ := (World.ownsRow.lt (OWL.out) _ e).1; omega))
    have k2453 := Lib.hid (blk_grown (xb_2.out) hg5_ (fun e => by have h_ := (World.ownsRow.lt (OWL.out) _ e).1; omega))
    have k2454 := Lib.hid (blk_grown (bz_3.out) hg5_ (fun e => by have h_ := (World.ownsRow.lt (OWL.out) _ e).1; omega))
    have k2455 := Lib.hid (blk_grown (nb_2440.out) hg5_ (fun e => NEN.out e))
    have k2456 := Lib.hid (Below.grown (bel_4.out) hg5_ (Below.size (bel_4.out)) (fun q e => by have h_ := (World.ownsRow.lt (OWL.out) q e).1; omega))
    clear NEN; have NEN := NE2; clear NE2
    have OWA := Lib.hid hown5_
    clear hown5_ hg5_ hwh5_
    refine hK.out _ _ k2453.out (fun _ => ?_); clear hK K
    try simp only [Act.put, qsA, qsZ, qsS]
    refine oneH 6 rfl fun K hK => ?_
    have hcell_ := cells_add (cs := bcells [⟨f, t, mm, ib⟩]) (show Blk _ _ _ (bcells [⟨f, t, mm, ib⟩]).toArray from k2455.out)
    have hbz_ := Nat.succ_le_of_lt (Blk.lt (k2454.out))
    refine wp_append_own _ (.tmp 19) (.tmp 21) 22 rfl (w.heap.size + 1 + 1 + 1) 30 i0 _ 4 32 Tryz.underlying22 HI.out HZ0.out HZ1.out HZ2.out rfl (by omega) _ _ _ rfl (OWA.out) ⟨g2432, 0, none⟩ 1 1 (bcells [⟨f, t, mm, ib⟩]) rfl rfl hcell_ (bcells_one _) (by unfold maxLen; omega) (by omega) hbz_ ?_
    intro v5 w2457 hown5_ hg5_ _
    obtain ⟨A5, c5, rfl, -⟩ := own_form hown5_
    have k2458 := Lib.hid (blk_grown (k2452.out) hg5_ (fun e => by have h_ := (World.ownsRow.lt (OWA.out) _ e).1; omega))
    have k2459 := Lib.hid (blk_grown (k2453.out) hg5_ (fun e => by have h_ := (World.ownsRow.lt (OWA.out) _ e).1; omega))
    have k2460 := Lib.hid (blk_grown (k2454.out) hg5_ (fun e => by have h_ := (World.ownsRow.lt (OWA.out) _ e).1; omega))
    have k2461 := Lib.hid (Below.grown (k2456.out) hg5_ (Below.size (k2456.out)) (fun q e => by have h_ := (World.ownsRow.lt (OWA.out) q e).1; omega))
    have OW5 := Lib.hid (show World.ownsRow w2457 (w.heap.size + 1 + 1 + 1) 30 4 (.slice A5 (m + 1) c5) (m + 1) (bcells (ts ++ [⟨f, t, mm, ib⟩])) from by rw [bcells_append]; exact hown5_)
    clear hown5_ hg5_ hcell_ hbz_
    refine hK.out _ _ k2459.out (fun _ => ?_); clear hK K
    try simp only [Act.put, qsA, qsZ, qsS]
    refine' twH 7 k2459.out ?_
    try simp only [Act.put, qsA, qsZ, qsS]
    refine oneH 8 rfl fun K hK => ?_
    have v0_ : (w2457).cell? ⟨w.heap.size, 2, none⟩ = some (.slice B m j) := Blk.cell (k2458.out) 2
    have f0_ : (w2457).frozen? ⟨w.heap.size, 2, none⟩ = false := Blk.frozen (k2458.out) 2
    have hlt_ := Blk.lt (k2460.out)
    go_simp
    have k2463 := Lib.hid (Blk.set_ (k2458.out) 2 (.slice A5 (m + 1) c5))
    have k2464 := Lib.hid (Blk.far (k2459.out) (p := ⟨w.heap.size, 2, none⟩) (by dsimp only; omega) (.slice A5 (m + 1) c5))
    have k2465 := Lib.hid (Blk.far (k2460.out) (p := ⟨w.heap.size, 2, none⟩) (by dsimp only; omega) (.slice A5 (m + 1) c5))
    have k2466 := Lib.hid (Below.setCell (k2461.out) (p := ⟨w.heap.size, 2, none⟩) (by dsimp only; omega) (.slice A5 (m + 1) c5))
    have k2467 := Lib.hid (own_far (OW5.out) (a := ⟨w.heap.size, 2, none⟩) (fun e => by have h_ := (World.ownsRow.lt (OW5.out) _ e).1; dsimp only at h_; omega) (.slice A5 (m + 1) c5))
    obtain ⟨w2468, hw2469⟩ : ∃ w', w' = (w2457).setCell ⟨w.heap.size, 2, none⟩ (.slice A5 (m + 1) c5) := ⟨_, rfl⟩
    rw [← hw2469] at k2463 k2464 k2465 k2466 k2467
    rw [← hw2469]
    clear hw2469 v0_ f0_ hlt_
    refine hK.out _ _ k2464.out (fun _ => ?_); clear hK K
    try simp only [Act.put, qsA, qsZ, qsS]
    refine wpAnyH_done (by kernel_rfl) ?_ _
    go_wp2
    go_meet
    exact ⟨A5, c5, k2467.out, k2463.out, k2465.out, k2466.out⟩
   exact AllReadyH.nil
  refine rdH rfl (fun K hK => ?_) ?_
  · -- 5: buildSlice
   go_simp
   have lb2474 := Lib.hid (bel_4.out.size)
   have ne2475 := Lib.hid (Nat.ne_of_lt (Blk.lt ba_1.out))
   have ne2476 := Lib.hid (Nat.ne_of_lt (Blk.lt xb_2.out))
   have ne2477 := Lib.hid (Nat.ne_of_lt (Blk.lt bz_3.out))
   obtain ⟨o_, ho_⟩ : ∃ o, o = (.cells #[.int .i64 f, .int .i64 t, .int .i64 mm, .int .i64 ib] 30 : Obj) := ⟨_, rfl⟩
   replace bel_4 := bA bel_4 o_
   replace ba_1 := kA ba_1 o_
   replace xb_2 := kA xb_2 o_
   replace bz_3 := kA bz_3 o_
   subst ho_
   have nb_2478 := Lib.hid (Blk.new (w2272) 30 #[.int .i64 f, .int .i64 t, .int .i64 mm, .int .i64 ib])
   obtain ⟨g2470, hg2471⟩ : ∃ g, g = (w2272).heap.size := ⟨_, rfl⟩
   obtain ⟨w2472, hw2473⟩ : ∃ w', w' = (w2272).alloc (.cells #[.int .i64 f, .int .i64 t, .int .i64 mm, .int .i64 ib] 30) := ⟨_, rfl⟩
   rw [← hw2473] at bel_4 ba_1 xb_2 bz_3 nb_2478
   rw [← hg2471] at lb2474 ne2475 ne2476 ne2477 nb_2478
   rw [← hg2471, ← hw2473]
   clear hg2471 hw2473
   refine hK.out _ _ xb_2.out (fun _ => ?_); clear hK K
   try simp only [Act.put, qsA, qsZ, qsS]
   refine wpAnyH_ready (rs := [0, 2]) (by kernel_rfl) (by simp) ?_
   refine rdH rfl (fun K hK => ?_) ?_
   · -- 0: buildSlice
    go_simp
    have how_ := World.ownsRow_lit (w2472) (e := 30) (size := 4) #[] 0 (Nat.le_refl _) (by unfold maxLen; omega) rfl
    have how_ := owns_base how_ (show (w.heap.size + 1 + 1 + 1) ≤ _ from Nat.succ_le_of_lt (Blk.lt (bz_3.out)))
    have lb2483 := Lib.hid (bel_4.out.size)
    have ne2484 := Lib.hid (Nat.ne_of_lt (Blk.lt ba_1.out))
    have ne2485 := Lib.hid (Nat.ne_of_lt (Blk.lt xb_2.out))
    have ne2486 := Lib.hid (Nat.ne_of_lt (Blk.lt bz_3.out))
    have ne2487 := Lib.hid (Nat.ne_of_lt (Blk.lt nb_2478.out))
    obtain ⟨o_, ho_⟩ : ∃ o, o = (.cells #[] 30 : Obj) := ⟨_, rfl⟩
    replace bel_4 := bA bel_4 o_
    replace ba_1 := kA ba_1 o_
    replace xb_2 := kA xb_2 o_
    replace bz_3 := kA bz_3 o_
    replace nb_2478 := kA nb_2478 o_
    subst ho_
    have gl_2488 := Lib.hid (Blk.new (w2472) 30 #[])
    obtain ⟨g2479, hg2480⟩ : ∃ g, g = (w2472).heap.size := ⟨_, rfl⟩
    obtain ⟨w2481, hw2482⟩ : ∃ w', w' = (w2472).alloc (.cells #[] 30) := ⟨_, rfl⟩
    rw [← hw2482] at bel_4 ba_1 xb_2 bz_3 nb_2478 gl_2488 how_
    rw [← hg2480] at lb2483 ne2484 ne2485 ne2486 ne2487 gl_2488 how_
    rw [← hg2480, ← hw2482]
    clear hg2480 hw2482
    have OWL := Lib.hid how_; clear how_
    have NEN := Lib.hid (fun (e : (Value.slice (some ⟨g2479, 0, none⟩) 0 0).ownBlock = some g2470) => ne2487.out (Option.some.inj e).symm)
    refine hK.out _ _ xb_2.out (fun _ => ?_); clear hK K
    try simp only [Act.put, qsA, qsZ, qsS]
    refine oneH 2 rfl fun K hK => ?_
    have cs_ : (w2481).cell? ⟨w.heap.size, 2, none⟩ = some (.slice B m j) := Blk.cell (ba_1.out) 2
    go_simp
    clear cs_
    refine hK.out _ _ xb_2.out (fun _ => ?_); clear hK K
    try simp only [Act.put, qsA, qsZ, qsS]
    refine oneH 3 rfl fun K hK => ?_
    refine wp_append_lit2 (.tmp 16) (.tmp 18) rfl (w.heap.size + 1 + 1 + 1) g2479 (OWL.out) rfl B m j ts (RdB.below RB0.out (bel_4.out)) hm4_ rfl (Nat.succ_le_of_lt (Blk.lt (bz_3.out))) ?_
    intro Ai ci w2489 hown5_ hg5_ hwh5_
    have NE2 := Lib.hid (fun (e : (Value.slice Ai m ci).ownBlock = some g2470) => show False from hwh5_.elim (fun h => NEN.out (h.symm.trans e)) (fun h => absurd (Blk.lt (nb_2478.out)) (by have h9 := Option.some.inj (h.symm.trans e); omega)))
    have k2490 := Lib.hid (blk_grown (ba_1.out) hg5_ (fun e => by have h_ := (World.ownsRow.lt (OWL.out) _ e).1; omega))
    have k2491 := Lib.hid (blk_grown (xb_2.out) hg5_ (fun e => by have h_ := (World.ownsRow.lt (OWL.out) _ e).1; omega))
    have k2492 := Lib.hid (blk_grown (bz_3.out) hg5_ (fun e => by have h_ := (World.ownsRow.lt (OWL.out) _ e).1; omega))
    have k2493 := Lib.hid (blk_grown (nb_2478.out) hg5_ (fun e => NEN.out e))
    have k2494 := Lib.hid (Below.grown (bel_4.out) hg5_ (Below.size (bel_4.out)) (fun q e => by have h_ := (World.ownsRow.lt (OWL.out) q e).1; omega))
    clear NEN; have NEN := NE2; clear NE2
    have OWA := Lib.hid hown5_
    clear hown5_ hg5_ hwh5_
    refine hK.out _ _ k2491.out (fun _ => ?_); clear hK K
    try simp only [Act.put, qsA, qsZ, qsS]
    refine oneH 6 rfl fun K hK => ?_
    have hcell_ := cells_add (cs := bcells [⟨f, t, mm, ib⟩]) (show Blk _ _ _ (bcells [⟨f, t, mm, ib⟩]).toArray from k2493.out)
    have hbz_ := Nat.succ_le_of_lt (Blk.lt (k2492.out))
    refine wp_append_own _ (.tmp 19) (.tmp 21) 22 rfl (w.heap.size + 1 + 1 + 1) 30 i0 _ 4 32 Tryz.underlying22 HI.out HZ0.out HZ1.out HZ2.out rfl (by omega) _ _ _ rfl (OWA.out) ⟨g2470, 0, none⟩ 1 1 (bcells [⟨f, t, mm, ib⟩]) rfl rfl hcell_ (bcells_one _) (by unfold maxLen; omega) (by omega) hbz_ ?_
    intro v5 w2495 hown5_ hg5_ _
    obtain ⟨A5, c5, rfl, -⟩ := own_form hown5_
    have k2496 := Lib.hid (blk_grown (k2490.out) hg5_ (fun e => by have h_ := (World.ownsRow.lt (OWA.out) _ e).1; omega))
    have k2497 := Lib.hid (blk_grown (k2491.out) hg5_ (fun e => by have h_ := (World.ownsRow.lt (OWA.out) _ e).1; omega))
    have k2498 := Lib.hid (blk_grown (k2492.out) hg5_ (fun e => by have h_ := (World.ownsRow.lt (OWA.out) _ e).1; omega))
    have k2499 := Lib.hid (Below.grown (k2494.out) hg5_ (Below.size (k2494.out)) (fun q e => by have h_ := (World.ownsRow.lt (OWA.out) q e).1; omega))
    have OW5 := Lib.hid (show World.ownsRow w2495 (w.heap.size + 1 + 1 + 1) 30 4 (.slice A5 (m + 1) c5) (m + 1) (bcells (ts ++ [⟨f, t, mm, ib⟩])) from by rw [bcells_append]; exact hown5_)
    clear hown5_ hg5_ hcell_ hbz_
    refine hK.out _ _ k2497.out (fun _ => ?_); clear hK K
    try simp only [Act.put, qsA, qsZ, qsS]
    refine' twH 7 k2497.out ?_
    try simp only [Act.put, qsA, qsZ, qsS]
    refine oneH 8 rfl fun K hK => ?_
    have v0_ : (w2495).cell? ⟨w.heap.size, 2, none⟩ = some (.slice B m j) := Blk.cell (k2496.out) 2
    have f0_ : (w2495).frozen? ⟨w.heap.size, 2, none⟩ = false := Blk.frozen (k2496.out) 2
    have hlt_ := Blk.lt (k2498.out)
    go_simp
    have k2501 := Lib.hid (Blk.set_ (k2496.out) 2 (.slice A5 (m + 1) c5))
    have k2502 := Lib.hid (Blk.far (k2497.out) (p := ⟨w.heap.size, 2, none⟩) (by dsimp only; omega) (.slice A5 (m + 1) c5))
    have k2503 := Lib.hid (Blk.far (k2498.out) (p := ⟨w.heap.size, 2, none⟩) (by dsimp only; omega) (.slice A5 (m + 1) c5))
    have k2504 := Lib.hid (Below.setCell (k2499.out) (p := ⟨w.heap.size, 2, none⟩) (by dsimp only; omega) (.slice A5 (m + 1) c5))
    have k2505 := Lib.hid (own_far (OW5.out) (a := ⟨w.heap.size, 2, none⟩) (fun e => by have h_ := (World.ownsRow.lt (OW5.out) _ e).1; dsimp only at h_; omega) (.slice A5 (m + 1) c5))
    obtain ⟨w2506, hw2507⟩ : ∃ w', w' = (w2495).setCell ⟨w.heap.size, 2, none⟩ (.slice A5 (m + 1) c5) := ⟨_, rfl⟩
    rw [← hw2507] at k2501 k2502 k2503 k2504 k2505
    rw [← hw2507]
    clear hw2507 v0_ f0_ hlt_
    refine hK.out _ _ k2502.out (fun _ => ?_); clear hK K
    try simp only [Act.put, qsA, qsZ, qsS]
    refine wpAnyH_done (by kernel_rfl) ?_ _
    go_wp2
    go_meet
    exact ⟨A5, c5, k2505.out, k2501.out, k2503.out, k2504.out⟩
   refine rdH rfl (fun K hK => ?_) ?_
   · -- 2: load
    have cs_ : (w2472).cell? ⟨w.heap.size, 2, none⟩ = some (.slice B m j) := Blk.cell (ba_1.out) 2
    go_simp
    clear cs_
    refine hK.out _ _ xb_2.out (fun _ => ?_); clear hK K
    try simp only [Act.put, qsA, qsZ, qsS]
    refine oneH 0 rfl fun K hK => ?_
    go_simp
    have how_ := World.ownsRow_lit (w2472) (e := 30) (size := 4) #[] 0 (Nat.le_refl _) (by unfold maxLen; omega) rfl
    have how_ := owns_base how_ (show (w.heap.size + 1 + 1 + 1) ≤ _ from Nat.succ_le_of_lt (Blk.lt (bz_3.out)))
    have lb2512 := Lib.hid (bel_4.out.size)
    have ne2513 := Lib.hid (Nat.ne_of_lt (Blk.lt ba_1.out))
    have ne2514 := Lib.hid (Nat.ne_of_lt (Blk.lt xb_2.out))
    have ne2515 := Lib.hid (Nat.ne_of_lt (Blk.lt bz_3.out))
    have ne2516 := Lib.hid (Nat.ne_of_lt (Blk.lt nb_2478.out))
    obtain ⟨o_, ho_⟩ : ∃ o, o = (.cells #[] 30 : Obj) := ⟨_, rfl⟩
    replace bel_4 := bA bel_4 o_
    replace ba_1 := kA ba_1 o_
    replace xb_2 := kA xb_2 o_
    replace bz_3 := kA bz_3 o_
    replace nb_2478 := kA nb_2478 o_
    subst ho_
    have gl_2517 := Lib.hid (Blk.new (w2472) 30 #[])
    obtain ⟨g2508, hg2509⟩ : ∃ g, g = (w2472).heap.size := ⟨_, rfl⟩
    obtain ⟨w2510, hw2511⟩ : ∃ w', w' = (w2472).alloc (.cells #[] 30) := ⟨_, rfl⟩
    rw [← hw2511] at bel_4 ba_1 xb_2 bz_3 nb_2478 gl_2517 how_
    rw [← hg2509] at lb2512 ne2513 ne2514 ne2515 ne2516 gl_2517 how_
    rw [← hg2509, ← hw2511]
    clear hg2509 hw2511
    have OWL := Lib.hid how_; clear how_
    have NEN := Lib.hid (fun (e : (Value.slice (some ⟨g2508, 0, none⟩) 0 0).ownBlock = some g2470) => ne2516.out (Option.some.inj e).symm)
    refine hK.out _ _ xb_2.out (fun _ => ?_); clear hK K
    try simp only [Act.put, qsA, qsZ, qsS]
    refine oneH 3 rfl fun K hK => ?_
    refine wp_append_lit2 (.tmp 16) (.tmp 18) rfl (w.heap.size + 1 + 1 + 1) g2508 (OWL.out) rfl B m j ts (RdB.below RB0.out (bel_4.out)) hm4_ rfl (Nat.succ_le_of_lt (Blk.lt (bz_3.out))) ?_
    intro Ai ci w2518 hown5_ hg5_ hwh5_
    have NE2 := Lib.hid (fun (e : (Value.slice Ai m ci).ownBlock = some g2470) => show False from hwh5_.elim (fun h => NEN.out (h.symm.trans e)) (fun h => absurd (Blk.lt (nb_2478.out)) (by have h9 := Option.some.inj (h.symm.trans e); omega)))
    have k2519 := Lib.hid (blk_grown (ba_1.out) hg5_ (fun e => by have h_ := (World.ownsRow.lt (OWL.out) _ e).1; omega))
    have k2520 := Lib.hid (blk_grown (xb_2.out) hg5_ (fun e => by have h_ := (World.ownsRow.lt (OWL.out) _ e).1; omega))
    have k2521 := Lib.hid (blk_grown (bz_3.out) hg5_ (fun e => by have h_ := (World.ownsRow.lt (OWL.out) _ e).1; omega))
    have k2522 := Lib.hid (blk_grown (nb_2478.out) hg5_ (fun e => NEN.out e))
    have k2523 := Lib.hid (Below.grown (bel_4.out) hg5_ (Below.size (bel_4.out)) (fun q e => by have h_ := (World.ownsRow.lt (OWL.out) q e).1; omega))
    clear NEN; have NEN := NE2; clear NE2
    have OWA := Lib.hid hown5_
    clear hown5_ hg5_ hwh5_
    refine hK.out _ _ k2520.out (fun _ => ?_); clear hK K
    try simp only [Act.put, qsA, qsZ, qsS]
    refine oneH 6 rfl fun K hK => ?_
    have hcell_ := cells_add (cs := bcells [⟨f, t, mm, ib⟩]) (show Blk _ _ _ (bcells [⟨f, t, mm, ib⟩]).toArray from k2522.out)
    have hbz_ := Nat.succ_le_of_lt (Blk.lt (k2521.out))
    refine wp_append_own _ (.tmp 19) (.tmp 21) 22 rfl (w.heap.size + 1 + 1 + 1) 30 i0 _ 4 32 Tryz.underlying22 HI.out HZ0.out HZ1.out HZ2.out rfl (by omega) _ _ _ rfl (OWA.out) ⟨g2470, 0, none⟩ 1 1 (bcells [⟨f, t, mm, ib⟩]) rfl rfl hcell_ (bcells_one _) (by unfold maxLen; omega) (by omega) hbz_ ?_
    intro v5 w2524 hown5_ hg5_ _
    obtain ⟨A5, c5, rfl, -⟩ := own_form hown5_
    have k2525 := Lib.hid (blk_grown (k2519.out) hg5_ (fun e => by have h_ := (World.ownsRow.lt (OWA.out) _ e).1; omega))
    have k2526 := Lib.hid (blk_grown (k2520.out) hg5_ (fun e => by have h_ := (World.ownsRow.lt (OWA.out) _ e).1; omega))
    have k2527 := Lib.hid (blk_grown (k2521.out) hg5_ (fun e => by have h_ := (World.ownsRow.lt (OWA.out) _ e).1; omega))
    have k2528 := Lib.hid (Below.grown (k2523.out) hg5_ (Below.size (k2523.out)) (fun q e => by have h_ := (World.ownsRow.lt (OWA.out) q e).1; omega))
    have OW5 := Lib.hid (show World.ownsRow w2524 (w.heap.size + 1 + 1 + 1) 30 4 (.slice A5 (m + 1) c5) (m + 1) (bcells (ts ++ [⟨f, t, mm, ib⟩])) from by rw [bcells_append]; exact hown5_)
    clear hown5_ hg5_ hcell_ hbz_
    refine hK.out _ _ k2526.out (fun _ => ?_); clear hK K
    try simp only [Act.put, qsA, qsZ, qsS]
    refine' twH 7 k2526.out ?_
    try simp only [Act.put, qsA, qsZ, qsS]
    refine oneH 8 rfl fun K hK => ?_
    have v0_ : (w2524).cell? ⟨w.heap.size, 2, none⟩ = some (.slice B m j) := Blk.cell (k2525.out) 2
    have f0_ : (w2524).frozen? ⟨w.heap.size, 2, none⟩ = false := Blk.frozen (k2525.out) 2
    have hlt_ := Blk.lt (k2527.out)
    go_simp
    have k2530 := Lib.hid (Blk.set_ (k2525.out) 2 (.slice A5 (m + 1) c5))
    have k2531 := Lib.hid (Blk.far (k2526.out) (p := ⟨w.heap.size, 2, none⟩) (by dsimp only; omega) (.slice A5 (m + 1) c5))
    have k2532 := Lib.hid (Blk.far (k2527.out) (p := ⟨w.heap.size, 2, none⟩) (by dsimp only; omega) (.slice A5 (m + 1) c5))
    have k2533 := Lib.hid (Below.setCell (k2528.out) (p := ⟨w.heap.size, 2, none⟩) (by dsimp only; omega) (.slice A5 (m + 1) c5))
    have k2534 := Lib.hid (own_far (OW5.out) (a := ⟨w.heap.size, 2, none⟩) (fun e => by have h_ := (World.ownsRow.lt (OW5.out) _ e).1; dsimp only at h_; omega) (.slice A5 (m + 1) c5))
    obtain ⟨w2535, hw2536⟩ : ∃ w', w' = (w2524).setCell ⟨w.heap.size, 2, none⟩ (.slice A5 (m + 1) c5) := ⟨_, rfl⟩
    rw [← hw2536] at k2530 k2531 k2532 k2533 k2534
    rw [← hw2536]
    clear hw2536 v0_ f0_ hlt_
    refine hK.out _ _ k2531.out (fun _ => ?_); clear hK K
    try simp only [Act.put, qsA, qsZ, qsS]
    refine wpAnyH_done (by kernel_rfl) ?_ _
    go_wp2
    go_meet
    exact ⟨A5, c5, k2534.out, k2530.out, k2532.out, k2533.out⟩
   exact AllReadyH.nil
  exact AllReadyH.nil
 case rest =>
  obtain ⟨A5, c5, kow, kba, kbz, kbel⟩ := hcut
  clear bel_4 ba_1 xb_2 bz_3
  have krn := (OwnB.rd (show OwnB wc (w.heap.size + 1 + 1 + 1) A5 (m + 1) c5 (ts ++ [⟨f, t, mm, ib⟩]) from kow)).1; have kro := RdB.below RA0.out kbel; clear kow
  have rn_5001 := Lib.hid (krn)
  have ro_5002 := Lib.hid (kro)
  have ba_5003 := Lib.hid (kba)
  have bz_5004 := Lib.hid (kbz)
  have bel_5005 := Lib.hid (kbel)
  clear krn kro kba kbz kbel
  have hn4_ := HN4.out; have hm4_ := HM4.out
  obtain ⟨z_5006, z_5007, z_5008⟩ := at3 ba_5003
  obtain ⟨z_5009, z_5010, z_5011⟩ := at3 bz_5004
  have hc := rCheckOutline_any c A A5 n k (m + 1) c5 ws (ts ++ [⟨f, t, mm, ib⟩]) _ ro_5002.out rn_5001.out hn (by unfold maxLen; omega)
  rw [E2.out] at hc
  try dsimp only at hc
  have HC := Lib.hid hc; clear hc
  go_wp2_with fail
  refine HC.out.mono ?_
  rintro e w_5012 ⟨rfl, hb⟩
  clear HC
  clear z_5006 z_5007 z_5008 z_5009 z_5010 z_5011
  have hb_5013 := Lib.hid hb
  clear hb
  replace ba_5003 := kH ba_5003 hb_5013
  obtain ⟨z_5014, z_5015, z_5016⟩ := at3 ba_5003
  replace bz_5004 := kH bz_5004 hb_5013
  obtain ⟨z_5017, z_5018, z_5019⟩ := at3 bz_5004
  have fz_5020 : (w_5012).frozen? ⟨w.heap.size + 1 + 1, 0, none⟩ = false := Blk.frozen bz_5004.out 0
  have fz_5021 : (w_5012).frozen? ⟨w.heap.size + 1 + 1, 1, none⟩ = false := Blk.frozen bz_5004.out 1
  have fz_5022 : (w_5012).frozen? ⟨w.heap.size + 1 + 1, 2, none⟩ = false := Blk.frozen bz_5004.out 2
  replace bel_5005 := bH bel_5005 hb_5013
  replace rn_5001 := rH rn_5001 hb_5013
  replace ro_5002 := rH ro_5002 hb_5013
  by_cases hq : q = 0
  · subst hq
    have HK := Lib.hid (And.intro bel_5005.out (And.intro bz_5004.out (And.intro rn_5001.out ro_5002.out)))
    go_wp2
    obtain ⟨bel_, bz_, rn_, ro_⟩ := HK.out
    have hlb_ := Blk.lt bz_
    refine bodyPost_ret (v := .tuple #[.agg #[.int .i64 c, .slice A n k, .slice A5 (m + 1) c5], .int .i64 0]) (by simp [results, Tryz.results19, go_sem, z_5014, z_5015, z_5016, z_5017, z_5018, z_5019, fz_5020, fz_5021, fz_5022]) rfl ?_
    exact ⟨A, n, k, A5, m + 1, c5, rfl, rdB_setN (rdB_setN (rdB_setN (ro_) ⟨w.heap.size + 1 + 1, 0, none⟩ (.int .i64 c) (bz_) (by intro j x; rcases j with _ | _ | j <;> simp)) ⟨w.heap.size + 1 + 1, 1, none⟩ (.slice A n k) (Blk.set_ (bz_) 0 (.int .i64 c)) (by intro j x; rcases j with _ | _ | j <;> simp)) ⟨w.heap.size + 1 + 1, 2, none⟩ (.slice A5 (m + 1) c5) (Blk.set_ (Blk.set_ (bz_) 0 (.int .i64 c)) 1 (.slice A n k)) (by intro j x; rcases j with _ | _ | j <;> simp), rdB_setN (rdB_setN (rdB_setN (rn_) ⟨w.heap.size + 1 + 1, 0, none⟩ (.int .i64 c) (bz_) (by intro j x; rcases j with _ | _ | j <;> simp)) ⟨w.heap.size + 1 + 1, 1, none⟩ (.slice A n k) (Blk.set_ (bz_) 0 (.int .i64 c)) (by intro j x; rcases j with _ | _ | j <;> simp)) ⟨w.heap.size + 1 + 1, 2, none⟩ (.slice A5 (m + 1) c5) (Blk.set_ (Blk.set_ (bz_) 0 (.int .i64 c)) 1 (.slice A n k)) (by intro j x; rcases j with _ | _ | j <;> simp), hn, by unfold maxLen; omega, (by have hsz_ := Below.size bel_; repeat' (first | with_reducible exact bel_ | with_reducible exact Below.refl _ _ | with_reducible refine Below.alloc ?_ ?_ _ | with_reducible refine Below.setCell ?_ ?_ _ | with_reducible refine Below.drew ?_ | with_reducible refine below_setRow ?_ ?_ _ | omega | (simp; done) | (simp; omega)))⟩
  · have hne : (q != 0) = true := by simpa using hq
    have HQ := Lib.hid hq; clear hq
    have hlb_ := Blk.lt bz_5004.out
    have HK := Lib.hid (bel_5005.out)
    go_wp2
    have bel_ := HK.out
    refine bodyPost_ret (v := .tuple #[.agg #[.int .i64 0, .slice none 0 0, .slice none 0 0], .int .i64 q]) (by simp [results, Tryz.results19, go_sem, z_5014, z_5015, z_5016, z_5017, z_5018, z_5019, fz_5020, fz_5021, fz_5022]) rfl ?_
    exact ⟨none, 0, 0, none, 0, 0, by first | rfl | rw [if_neg HQ.out], by first | exact RdB.nil_ _ | (rw [if_neg HQ.out]; exact RdB.nil_ _), by first | exact RdB.nil_ _ | (rw [if_neg HQ.out]; exact RdB.nil_ _), by unfold maxLen; omega, by unfold maxLen; omega, (by have hsz_ := Below.size bel_; repeat' (first | with_reducible exact bel_ | with_reducible exact Below.refl _ _ | with_reducible refine Below.alloc ?_ ?_ _ | with_reducible refine Below.setCell ?_ ?_ _ | with_reducible refine Below.drew ?_ | with_reducible refine below_setRow ?_ ?_ _ | omega | (simp; done) | (simp; omega)))⟩
set_option maxRecDepth 100000 in
theorem rWith_w (c : Int) (A B : Option Addr) (n k m j : Nat) (ws ts : List Bnd) (w : World) (h1 : RdB w A n k ws) (h2 : RdB w B m j ts) (hn : n ≤ maxLen) (hm : m ≤ maxLen) (f t mm ib : Int) (HL1 : Hid (ws.length ≤ 400)) (HL2 : Hid (ts.length ≤ 400)) (q : Int) (E1 : Hid (chkO ⟨c, ws, ts⟩ = 0)) (E2 : Hid (chkO ⟨c, ws ++ [⟨f, t, mm, ib⟩], ts⟩ = q)) : Calls Tryz.prog 19 #[.agg #[.int .i64 c, .slice A n k, .slice B m j], .bool false, .agg #[.int .i64 f, .int .i64 t, .int .i64 mm, .int .i64 ib]] w (RetO q ⟨c, ws ++ [⟨f, t, mm, ib⟩], ts⟩ w) := by
 obtain ⟨i0, hi0, hz0, hz1, hz2⟩ := info_parts infoB
 have HI := Lib.hid hi0; have HZ0 := Lib.hid hz0; have HZ1 := Lib.hid hz1; have HZ2 := Lib.hid hz2; clear hi0 hz0 hz1 hz2
 unfold RetO
 have RA0 := Lib.hid h1; have RB0 := Lib.hid h2
 go_enter Tryz.func19, Tryz.ntmps19
 obtain ⟨ba_1, xb_2, bz_3, bel_4⟩ := ent3 w #[.int .i64 c, .slice A n k, .slice B m j] 24 #[.int .i64 f, .int .i64 t, .int .i64 mm, .int .i64 ib] 30 #[.int .i64 0, .slice none 0 0, .slice none 0 0] 24
 have ra_5 := rI h1 bel_4
 have rb_6 := rI h2 bel_4
 clear h1 h2
 obtain ⟨z_7, z_8, z_9⟩ := at3 ba_1
 obtain ⟨z_10, z_11, z_12, z_13⟩ := at4 xb_2
 obtain ⟨z_14, z_15, z_16⟩ := at3 bz_3
 have hc := rCheckOutline_any c A B n k m j ws ts _ ra_5.out rb_6.out hn hm
 rw [E1.out] at hc
 try dsimp only at hc
 have HC := Lib.hid hc; clear hc
 go_wp2_with fail
 refine HC.out.mono ?_
 rintro e w_17 ⟨rfl, hb⟩
 clear HC
 clear z_7 z_8 z_9 z_10 z_11 z_12 z_13 z_14 z_15 z_16
 have hb_18 := Lib.hid hb
 clear hb
 replace ba_1 := kH ba_1 hb_18
 obtain ⟨z_19, z_20, z_21⟩ := at3 ba_1
 replace xb_2 := kH xb_2 hb_18
 obtain ⟨z_22, z_23, z_24, z_25⟩ := at4 xb_2
 replace bz_3 := kH bz_3 hb_18
 obtain ⟨z_26, z_27, z_28⟩ := at3 bz_3
 go_upto_if 15 with fail
 clear z_19 z_20 z_21 z_22 z_23 z_24 z_25 z_26 z_27 z_28
 have HN4 := Lib.hid (show n ≤ 400 by have h := HL1.out; have h2 := RA0.out.len; omega); have HM4 := Lib.hid (show m ≤ 400 by have h := HL2.out; have h2 := RB0.out.len; omega)
 replace bel_4 := bH bel_4 hb_18
 obtain ⟨w1, hW⟩ : ∃ w', w' = w_17 := ⟨_, rfl⟩
 rw [← hW] at bel_4 ba_1 xb_2 bz_3
 rw [← hW]
 clear hW
 go_cut [] from 15 to 31 (fun wx => ∃ (A5 : Option Addr) (c5 : Nat), wx.ownsRow (w.heap.size + 1 + 1 + 1) 30 4 (.slice A5 (n + 1) c5) (n + 1) (bcells (ws ++ [⟨f, t, mm, ib⟩])) ∧ Blk wx (w.heap.size) 24 #[.int .i64 c, .slice A5 (n + 1) c5, .slice B m j] ∧ Blk wx (w.heap.size + 1 + 1) 24 #[.int .i64 0, .slice none 0 0, .slice none 0 0] ∧ Below w.heap.size w wx)
 case first =>
  go_upto_region 6 with fail
  have hn4_ := HN4.out; have hm4_ := HM4.out
  replace bel_4 := bD bel_4
  replace ba_1 := kD ba_1
  replace xb_2 := kD xb_2
  replace bz_3 := kD bz_3
  refine wp_region_held_drew (S := (fun W' => Blk W' (w.heap.size + 1) 30 #[.int .i64 f, .int .i64 t, .int .i64 mm, .int .i64 ib])) (by kernel_rfl) xb_2.out (fun _ => ?_)
  obtain ⟨w2537, hw2538⟩ : ∃ w', w' = (w1.drew) := ⟨_, rfl⟩
  rw [← hw2538] at bel_4 ba_1 xb_2 bz_3
  rw [← hw2538]
  clear hw2538
  refine' twH 1 xb_2.out ?_
  refine' tkH 4 xb_2.out ?hyR2540 ?_
  case hyR2540 => (rintro W' hS0; have hc0 := Blk.nth hS0 0; have hc1 := Blk.nth hS0 1; have hc2 := Blk.nth hS0 2; have hc3 := Blk.nth hS0 3; clear hS0; go_simp; try with_reducible rfl)
  try simp only [Act.put, qsA, qsZ, qsS]
  refine wpAnyH_ready (rs := [0, 2, 5]) (by kernel_rfl) (by simp) ?_
  refine rdH rfl (fun K hK => ?_) ?_
  · -- 0: buildSlice
   go_simp
   have how_ := World.ownsRow_lit (w2537) (e := 30) (size := 4) #[] 0 (Nat.le_refl _) (by unfold maxLen; omega) rfl
   have how_ := owns_base how_ (show (w.heap.size + 1 + 1 + 1) ≤ _ from Nat.succ_le_of_lt (Blk.lt (bz_3.out)))
   have lb2545 := Lib.hid (bel_4.out.size)
   have ne2546 := Lib.hid (Nat.ne_of_lt (Blk.lt ba_1.out))
   have ne2547 := Lib.hid (Nat.ne_of_lt (Blk.lt xb_2.out))
   have ne2548 := Lib.hid (Nat.ne_of_lt (Blk.lt bz_3.out))
   obtain ⟨o_, ho_⟩ : ∃ o, o = (.cells #[] 30 : Obj) := ⟨_, rfl⟩
   replace bel_4 := bA bel_4 o_
   replace ba_1 := kA ba_1 o_
   replace xb_2 := kA xb_2 o_
   replace bz_3 := kA bz_3 o_
   subst ho_
   have gl_2549 := Lib.hid (Blk.new (w2537) 30 #[])
   obtain ⟨g2541, hg2542⟩ : ∃ g, g = (w2537).heap.size := ⟨_, rfl⟩
   obtain ⟨w2543, hw2544⟩ : ∃ w', w' = (w2537).alloc (.cells #[] 30) := ⟨_, rfl⟩
   rw [← hw2544] at bel_4 ba_1 xb_2 bz_3 gl_2549 how_
   rw [← hg2542] at lb2545 ne2546 ne2547 ne2548 gl_2549 how_
   rw [← hg2542, ← hw2544]
   clear hg2542 hw2544
   have OWL := Lib.hid how_; clear how_
   refine hK.out _ _ xb_2.out (fun _ => ?_); clear hK K
   try simp only [Act.put, qsA, qsZ, qsS]
   refine wpAnyH_ready (rs := [2, 5]) (by kernel_rfl) (by simp) ?_
   refine rdH rfl (fun K hK => ?_) ?_
   · -- 2: load
    have cs_ : (w2543).cell? ⟨w.heap.size, 1, none⟩ = some (.slice A n k) := Blk.cell (ba_1.out) 1
    go_simp
    clear cs_
    refine hK.out _ _ xb_2.out (fun _ => ?_); clear hK K
    try simp only [Act.put, qsA, qsZ, qsS]
    refine wpAnyH_ready (rs := [3, 5]) (by kernel_rfl) (by simp) ?_
    refine rdH rfl (fun K hK => ?_) ?_
    · -- 3: call
     refine wp_append_lit2 (.tmp 24) (.tmp 26) rfl (w.heap.size + 1 + 1 + 1) g2541 (OWL.out) rfl A n k ws (RdB.below RA0.out (bel_4.out)) hn4_ rfl (Nat.succ_le_of_lt (Blk.lt (bz_3.out))) ?_
     intro Ai ci w2550 hown5_ hg5_ hwh5_
     have k2551 := Lib.hid (blk_grown (ba_1.out) hg5_ (fun e => by have h_ := (World.ownsRow.lt (OWL.out) _ e).1; omega))
     have k2552 := Lib.hid (blk_grown (xb_2.out) hg5_ (fun e => by have h_ := (World.ownsRow.lt (OWL.out) _ e).1; omega))
     have k2553 := Lib.hid (blk_grown (bz_3.out) hg5_ (fun e => by have h_ := (World.ownsRow.lt (OWL.out) _ e).1; omega))
     have k2554 := Lib.hid (Below.grown (bel_4.out) hg5_ (Below.size (bel_4.out)) (fun q e => by have h_ := (World.ownsRow.lt (OWL.out) q e).1; omega))
     have OWA := Lib.hid hown5_
     clear hown5_ hg5_ hwh5_
     refine hK.out _ _ k2552.out (fun _ => ?_); clear hK K
     try simp only [Act.put, qsA, qsZ, qsS]
     refine oneH 5 rfl fun K hK => ?_
     go_simp
     have hnl_ := fun y h => (World.ownsRow.lt (OWA.out) y h).2
     have lb2559 := Lib.hid (k2554.out.size)
     have ne2560 := Lib.hid (Nat.ne_of_lt (Blk.lt k2551.out))
     have ne2561 := Lib.hid (Nat.ne_of_lt (Blk.lt k2552.out))
     have ne2562 := Lib.hid (Nat.ne_of_lt (Blk.lt k2553.out))
     obtain ⟨o_, ho_⟩ : ∃ o, o = (.cells #[.int .i64 f, .int .i64 t, .int .i64 mm, .int .i64 ib] 30 : Obj) := ⟨_, rfl⟩
     replace k2554 := bA k2554 o_
     replace k2551 := kA k2551 o_
     replace k2552 := kA k2552 o_
     replace k2553 := kA k2553 o_
     replace OWA := Lib.hid (World.ownsRow.alloc (OWA.out) (o_))
     subst ho_
     have nb_2563 := Lib.hid (Blk.new (w2550) 30 #[.int .i64 f, .int .i64 t, .int .i64 mm, .int .i64 ib])
     obtain ⟨g2555, hg2556⟩ : ∃ g, g = (w2550).heap.size := ⟨_, rfl⟩
     obtain ⟨w2557, hw2558⟩ : ∃ w', w' = (w2550).alloc (.cells #[.int .i64 f, .int .i64 t, .int .i64 mm, .int .i64 ib] 30) := ⟨_, rfl⟩
     rw [← hw2558] at k2554 k2551 k2552 k2553 OWA nb_2563
     rw [← hg2556] at lb2559 ne2560 ne2561 ne2562 nb_2563 hnl_
     rw [← hg2556, ← hw2558]
     clear hg2556 hw2558
     have NEN := Lib.hid (fun (e : (Value.slice Ai n ci).ownBlock = some g2555) => Nat.lt_irrefl _ (hnl_ _ e)); clear hnl_
     refine hK.out _ _ k2552.out (fun _ => ?_); clear hK K
     try simp only [Act.put, qsA, qsZ, qsS]
     refine oneH 6 rfl fun K hK => ?_
     have hcell_ := cells_add (cs := bcells [⟨f, t, mm, ib⟩]) (show Blk _ _ _ (bcells [⟨f, t, mm, ib⟩]).toArray from nb_2563.out)
     have hbz_ := Nat.succ_le_of_lt (Blk.lt (k2553.out))
     refine wp_append_own _ (.tmp 27) (.tmp 29) 22 rfl (w.heap.size + 1 + 1 + 1) 30 i0 _ 4 32 Tryz.underlying22 HI.out HZ0.out HZ1.out HZ2.out rfl (by omega) _ _ _ rfl (OWA.out) ⟨g2555, 0, none⟩ 1 1 (bcells [⟨f, t, mm, ib⟩]) rfl rfl hcell_ (bcells_one _) (by unfold maxLen; omega) (by omega) hbz_ ?_
     intro v5 w2564 hown5_ hg5_ _
     obtain ⟨A5, c5, rfl, -⟩ := own_form hown5_
     have k2565 := Lib.hid (blk_grown (k2551.out) hg5_ (fun e => by have h_ := (World.ownsRow.lt (OWA.out) _ e).1; omega))
     have k2566 := Lib.hid (blk_grown (k2552.out) hg5_ (fun e => by have h_ := (World.ownsRow.lt (OWA.out) _ e).1; omega))
     have k2567 := Lib.hid (blk_grown (k2553.out) hg5_ (fun e => by have h_ := (World.ownsRow.lt (OWA.out) _ e).1; omega))
     have k2568 := Lib.hid (Below.grown (k2554.out) hg5_ (Below.size (k2554.out)) (fun q e => by have h_ := (World.ownsRow.lt (OWA.out) q e).1; omega))
     have OW5 := Lib.hid (show World.ownsRow w2564 (w.heap.size + 1 + 1 + 1) 30 4 (.slice A5 (n + 1) c5) (n + 1) (bcells (ws ++ [⟨f, t, mm, ib⟩])) from by rw [bcells_append]; exact hown5_)
     clear hown5_ hg5_ hcell_ hbz_
     refine hK.out _ _ k2566.out (fun _ => ?_); clear hK K
     try simp only [Act.put, qsA, qsZ, qsS]
     refine' twH 7 k2566.out ?_
     try simp only [Act.put, qsA, qsZ, qsS]
     refine oneH 8 rfl fun K hK => ?_
     have v0_ : (w2564).cell? ⟨w.heap.size, 1, none⟩ = some (.slice A n k) := Blk.cell (k2565.out) 1
     have f0_ : (w2564).frozen? ⟨w.heap.size, 1, none⟩ = false := Blk.frozen (k2565.out) 1
     have hlt_ := Blk.lt (k2567.out)
     go_simp
     have k2570 := Lib.hid (Blk.set_ (k2565.out) 1 (.slice A5 (n + 1) c5))
     have k2571 := Lib.hid (Blk.far (k2566.out) (p := ⟨w.heap.size, 1, none⟩) (by dsimp only; omega) (.slice A5 (n + 1) c5))
     have k2572 := Lib.hid (Blk.far (k2567.out) (p := ⟨w.heap.size, 1, none⟩) (by dsimp only; omega) (.slice A5 (n + 1) c5))
     have k2573 := Lib.hid (Below.setCell (k2568.out) (p := ⟨w.heap.size, 1, none⟩) (by dsimp only; omega) (.slice A5 (n + 1) c5))
     have k2574 := Lib.hid (own_far (OW5.out) (a := ⟨w.heap.size, 1, none⟩) (fun e => by have h_ := (World.ownsRow.lt (OW5.out) _ e).1; dsimp only at h_; omega) (.slice A5 (n + 1) c5))
     obtain ⟨w2575, hw2576⟩ : ∃ w', w' = (w2564).setCell ⟨w.heap.size, 1, none⟩ (.slice A5 (n + 1) c5) := ⟨_, rfl⟩
     rw [← hw2576] at k2570 k2571 k2572 k2573 k2574
     rw [← hw2576]
     clear hw2576 v0_ f0_ hlt_
     refine hK.out _ _ k2571.out (fun _ => ?_); clear hK K
     try simp only [Act.put, qsA, qsZ, qsS]
     refine wpAnyH_done (by kernel_rfl) ?_ _
     go_wp2
     go_meet
     exact ⟨A5, c5, k2574.out, k2570.out, k2572.out, k2573.out⟩
    refine rdH rfl (fun K hK => ?_) ?_
    · -- 5: buildSlice
     go_simp
     have hnl_ := fun y h => (World.ownsRow.lt (OWL.out) y h).2
     have lb2581 := Lib.hid (bel_4.out.size)
     have ne2582 := Lib.hid (Nat.ne_of_lt (Blk.lt ba_1.out))
     have ne2583 := Lib.hid (Nat.ne_of_lt (Blk.lt xb_2.out))
     have ne2584 := Lib.hid (Nat.ne_of_lt (Blk.lt bz_3.out))
     obtain ⟨o_, ho_⟩ : ∃ o, o = (.cells #[.int .i64 f, .int .i64 t, .int .i64 mm, .int .i64 ib] 30 : Obj) := ⟨_, rfl⟩
     replace bel_4 := bA bel_4 o_
     replace ba_1 := kA ba_1 o_
     replace xb_2 := kA xb_2 o_
     replace bz_3 := kA bz_3 o_
     replace OWL := Lib.hid (World.ownsRow.alloc (OWL.out) (o_))
     subst ho_
     have nb_2585 := Lib.hid (Blk.new (w2543) 30 #[.int .i64 f, .int .i64 t, .int .i64 mm, .int .i64 ib])
     obtain ⟨g2577, hg2578⟩ : ∃ g, g = (w2543).heap.size := ⟨_, rfl⟩
     obtain ⟨w2579, hw2580⟩ : ∃ w', w' = (w2543).alloc (.cells #[.int .i64 f, .int .i64 t, .int .i64 mm, .int .i64 ib] 30) := ⟨_, rfl⟩
     rw [← hw2580] at bel_4 ba_1 xb_2 bz_3 OWL nb_2585
     rw [← hg2578] at lb2581 ne2582 ne2583 ne2584 nb_2585 hnl_
     rw [← hg2578, ← hw2580]
     clear hg2578 hw2580
     have NEN := Lib.hid (fun (e : (Value.slice (some ⟨g2541, 0, none⟩) 0 0).ownBlock = some g2577) => Nat.lt_irrefl _ (hnl_ _ e)); clear hnl_
     refine hK.out _ _ xb_2.out (fun _ => ?_); clear hK K
     try simp only [Act.put, qsA, qsZ, qsS]
     refine oneH 3 rfl fun K hK => ?_
     refine wp_append_lit2 (.tmp 24) (.tmp 26) rfl (w.heap.size + 1 + 1 + 1) g2541 (OWL.out) rfl A n k ws (RdB.below RA0.out (bel_4.out)) hn4_ rfl (Nat.succ_le_of_lt (Blk.lt (bz_3.out))) ?_
     intro Ai ci w2586 hown5_ hg5_ hwh5_
     have NE2 := Lib.hid (fun (e : (Value.slice Ai n ci).ownBlock = some g2577) => show False from hwh5_.elim (fun h => NEN.out (h.symm.trans e)) (fun h => absurd (Blk.lt (nb_2585.out)) (by have h9 := Option.some.inj (h.symm.trans e); omega)))
     have k2587 := Lib.hid (blk_grown (ba_1.out) hg5_ (fun e => by have h_ := (World.ownsRow.lt (OWL.out) _ e).1; omega))
     have k2588 := Lib.hid (blk_grown (xb_2.out) hg5_ (fun e => by have h_ := (World.ownsRow.lt (OWL.out) _ e).1; omega))
     have k2589 := Lib.hid (blk_grown (bz_3.out) hg5_ (fun e => by have h_ := (World.ownsRow.lt (OWL.out) _ e).1; omega))
     have k2590 := Lib.hid (blk_grown (nb_2585.out) hg5_ (fun e => NEN.out e))
     have k2591 := Lib.hid (Below.grown (bel_4.out) hg5_ (Below.size (bel_4.out)) (fun q e => by have h_ := (World.ownsRow.lt (OWL.out) q e).1; omega))
     clear NEN; have NEN := NE2; clear NE2
     have OWA := Lib.hid hown5_
     clear hown5_ hg5_ hwh5_
     refine hK.out _ _ k2588.out (fun _ => ?_); clear hK K
     try simp only [Act.put, qsA, qsZ, qsS]
     refine oneH 6 rfl fun K hK => ?_
     have hcell_ := cells_add (cs := bcells [⟨f, t, mm, ib⟩]) (show Blk _ _ _ (bcells [⟨f, t, mm, ib⟩]).toArray from k2590.out)
     have hbz_ := Nat.succ_le_of_lt (Blk.lt (k2589.out))
     refine wp_append_own _ (.tmp 27) (.tmp 29) 22 rfl (w.heap.size + 1 + 1 + 1) 30 i0 _ 4 32 Tryz.underlying22 HI.out HZ0.out HZ1.out HZ2.out rfl (by omega) _ _ _ rfl (OWA.out) ⟨g2577, 0, none⟩ 1 1 (bcells [⟨f, t, mm, ib⟩]) rfl rfl hcell_ (bcells_one _) (by unfold maxLen; omega) (by omega) hbz_ ?_
     intro v5 w2592 hown5_ hg5_ _
     obtain ⟨A5, c5, rfl, -⟩ := own_form hown5_
     have k2593 := Lib.hid (blk_grown (k2587.out) hg5_ (fun e => by have h_ := (World.ownsRow.lt (OWA.out) _ e).1; omega))
     have k2594 := Lib.hid (blk_grown (k2588.out) hg5_ (fun e => by have h_ := (World.ownsRow.lt (OWA.out) _ e).1; omega))
     have k2595 := Lib.hid (blk_grown (k2589.out) hg5_ (fun e => by have h_ := (World.ownsRow.lt (OWA.out) _ e).1; omega))
     have k2596 := Lib.hid (Below.grown (k2591.out) hg5_ (Below.size (k2591.out)) (fun q e => by have h_ := (World.ownsRow.lt (OWA.out) q e).1; omega))
     have OW5 := Lib.hid (show World.ownsRow w2592 (w.heap.size + 1 + 1 + 1) 30 4 (.slice A5 (n + 1) c5) (n + 1) (bcells (ws ++ [⟨f, t, mm, ib⟩])) from by rw [bcells_append]; exact hown5_)
     clear hown5_ hg5_ hcell_ hbz_
     refine hK.out _ _ k2594.out (fun _ => ?_); clear hK K
     try simp only [Act.put, qsA, qsZ, qsS]
     refine' twH 7 k2594.out ?_
     try simp only [Act.put, qsA, qsZ, qsS]
     refine oneH 8 rfl fun K hK => ?_
     have v0_ : (w2592).cell? ⟨w.heap.size, 1, none⟩ = some (.slice A n k) := Blk.cell (k2593.out) 1
     have f0_ : (w2592).frozen? ⟨w.heap.size, 1, none⟩ = false := Blk.frozen (k2593.out) 1
     have hlt_ := Blk.lt (k2595.out)
     go_simp
     have k2598 := Lib.hid (Blk.set_ (k2593.out) 1 (.slice A5 (n + 1) c5))
     have k2599 := Lib.hid (Blk.far (k2594.out) (p := ⟨w.heap.size, 1, none⟩) (by dsimp only; omega) (.slice A5 (n + 1) c5))
     have k2600 := Lib.hid (Blk.far (k2595.out) (p := ⟨w.heap.size, 1, none⟩) (by dsimp only; omega) (.slice A5 (n + 1) c5))
     have k2601 := Lib.hid (Below.setCell (k2596.out) (p := ⟨w.heap.size, 1, none⟩) (by dsimp only; omega) (.slice A5 (n + 1) c5))
     have k2602 := Lib.hid (own_far (OW5.out) (a := ⟨w.heap.size, 1, none⟩) (fun e => by have h_ := (World.ownsRow.lt (OW5.out) _ e).1; dsimp only at h_; omega) (.slice A5 (n + 1) c5))
     obtain ⟨w2603, hw2604⟩ : ∃ w', w' = (w2592).setCell ⟨w.heap.size, 1, none⟩ (.slice A5 (n + 1) c5) := ⟨_, rfl⟩
     rw [← hw2604] at k2598 k2599 k2600 k2601 k2602
     rw [← hw2604]
     clear hw2604 v0_ f0_ hlt_
     refine hK.out _ _ k2599.out (fun _ => ?_); clear hK K
     try simp only [Act.put, qsA, qsZ, qsS]
     refine wpAnyH_done (by kernel_rfl) ?_ _
     go_wp2
     go_meet
     exact ⟨A5, c5, k2602.out, k2598.out, k2600.out, k2601.out⟩
    exact AllReadyH.nil
   refine rdH rfl (fun K hK => ?_) ?_
   · -- 5: buildSlice
    go_simp
    have hnl_ := fun y h => (World.ownsRow.lt (OWL.out) y h).2
    have lb2609 := Lib.hid (bel_4.out.size)
    have ne2610 := Lib.hid (Nat.ne_of_lt (Blk.lt ba_1.out))
    have ne2611 := Lib.hid (Nat.ne_of_lt (Blk.lt xb_2.out))
    have ne2612 := Lib.hid (Nat.ne_of_lt (Blk.lt bz_3.out))
    obtain ⟨o_, ho_⟩ : ∃ o, o = (.cells #[.int .i64 f, .int .i64 t, .int .i64 mm, .int .i64 ib] 30 : Obj) := ⟨_, rfl⟩
    replace bel_4 := bA bel_4 o_
    replace ba_1 := kA ba_1 o_
    replace xb_2 := kA xb_2 o_
    replace bz_3 := kA bz_3 o_
    replace OWL := Lib.hid (World.ownsRow.alloc (OWL.out) (o_))
    subst ho_
    have nb_2613 := Lib.hid (Blk.new (w2543) 30 #[.int .i64 f, .int .i64 t, .int .i64 mm, .int .i64 ib])
    obtain ⟨g2605, hg2606⟩ : ∃ g, g = (w2543).heap.size := ⟨_, rfl⟩
    obtain ⟨w2607, hw2608⟩ : ∃ w', w' = (w2543).alloc (.cells #[.int .i64 f, .int .i64 t, .int .i64 mm, .int .i64 ib] 30) := ⟨_, rfl⟩
    rw [← hw2608] at bel_4 ba_1 xb_2 bz_3 OWL nb_2613
    rw [← hg2606] at lb2609 ne2610 ne2611 ne2612 nb_2613 hnl_
    rw [← hg2606, ← hw2608]
    clear hg2606 hw2608
    have NEN := Lib.hid (fun (e : (Value.slice (some ⟨g2541, 0, none⟩) 0 0).ownBlock = some g2605) => Nat.lt_irrefl _ (hnl_ _ e)); clear hnl_
    refine hK.out _ _ xb_2.out (fun _ => ?_); clear hK K
    try simp only [Act.put, qsA, qsZ, qsS]
    refine oneH 2 rfl fun K hK => ?_
    have cs_ : (w2607).cell? ⟨w.heap.size, 1, none⟩ = some (.slice A n k) := Blk.cell (ba_1.out) 1
    go_simp
    clear cs_
    refine hK.out _ _ xb_2.out (fun _ => ?_); clear hK K
    try simp only [Act.put, qsA, qsZ, qsS]
    refine oneH 3 rfl fun K hK => ?_
    refine wp_append_lit2 (.tmp 24) (.tmp 26) rfl (w.heap.size + 1 + 1 + 1) g2541 (OWL.out) rfl A n k ws (RdB.below RA0.out (bel_4.out)) hn4_ rfl (Nat.succ_le_of_lt (Blk.lt (bz_3.out))) ?_
    intro Ai ci w2614 hown5_ hg5_ hwh5_
    have NE2 := Lib.hid (fun (e : (Value.slice Ai n ci).ownBlock = some g2605) => show False from hwh5_.elim (fun h => NEN.out (h.symm.trans e)) (fun h => absurd (Blk.lt (nb_2613.out)) (by have h9 := Option.some.inj (h.symm.trans e); omega)))
    have k2615 := Lib.hid (blk_grown (ba_1.out) hg5_ (fun e => by have h_ := (World.ownsRow.lt (OWL.out) _ e).1; omega))
    have k2616 := Lib.hid (blk_grown (xb_2.out) hg5_ (fun e => by have h_ := (World.ownsRow.lt (OWL.out) _ e).1; omega))
    have k2617 := Lib.hid (blk_grown (bz_3.out) hg5_ (fun e => by have h_ := (World.ownsRow.lt (OWL.out) _ e).1; omega))
    have k2618 := Lib.hid (blk_grown (nb_2613.out) hg5_ (fun e => NEN.out e))
    have k2619 := Lib.hid (Below.grown (bel_4.out) hg5_ (Below.size (bel_4.out)) (fun q e => by have h_ := (World.ownsRow.lt (OWL.out) q e).1; omega))
    clear NEN; have NEN := NE2; clear NE2
    have OWA := Lib.hid hown5_
    clear hown5_ hg5_ hwh5_
    refine hK.out _ _ k2616.out (fun _ => ?_); clear hK K
    try simp only [Act.put, qsA, qsZ, qsS]
    refine oneH 6 rfl fun K hK => ?_
    have hcell_ := cells_add (cs := bcells [⟨f, t, mm, ib⟩]) (show Blk _ _ _ (bcells [⟨f, t, mm, ib⟩]).toArray from k2618.out)
    have hbz_ := Nat.succ_le_of_lt (Blk.lt (k2617.out))
    refine wp_append_own _ (.tmp 27) (.tmp 29) 22 rfl (w.heap.size + 1 + 1 + 1) 30 i0 _ 4 32 Tryz.underlying22 HI.out HZ0.out HZ1.out HZ2.out rfl (by omega) _ _ _ rfl (OWA.out) ⟨g2605, 0, none⟩ 1 1 (bcells [⟨f, t, mm, ib⟩]) rfl rfl hcell_ (bcells_one _) (by unfold maxLen; omega) (by omega) hbz_ ?_
    intro v5 w2620 hown5_ hg5_ _
    obtain ⟨A5, c5, rfl, -⟩ := own_form hown5_
    have k2621 := Lib.hid (blk_grown (k2615.out) hg5_ (fun e => by have h_ := (World.ownsRow.lt (OWA.out) _ e).1; omega))
    have k2622 := Lib.hid (blk_grown (k2616.out) hg5_ (fun e => by have h_ := (World.ownsRow.lt (OWA.out) _ e).1; omega))
    have k2623 := Lib.hid (blk_grown (k2617.out) hg5_ (fun e => by have h_ := (World.ownsRow.lt (OWA.out) _ e).1; omega))
    have k2624 := Lib.hid (Below.grown (k2619.out) hg5_ (Below.size (k2619.out)) (fun q e => by have h_ := (World.ownsRow.lt (OWA.out) q e).1; omega))
    have OW5 := Lib.hid (show World.ownsRow w2620 (w.heap.size + 1 + 1 + 1) 30 4 (.slice A5 (n + 1) c5) (n + 1) (bcells (ws ++ [⟨f, t, mm, ib⟩])) from by rw [bcells_append]; exact hown5_)
    clear hown5_ hg5_ hcell_ hbz_
    refine hK.out _ _ k2622.out (fun _ => ?_); clear hK K
    try simp only [Act.put, qsA, qsZ, qsS]
    refine' twH 7 k2622.out ?_
    try simp only [Act.put, qsA, qsZ, qsS]
    refine oneH 8 rfl fun K hK => ?_
    have v0_ : (w2620).cell? ⟨w.heap.size, 1, none⟩ = some (.slice A n k) := Blk.cell (k2621.out) 1
    have f0_ : (w2620).frozen? ⟨w.heap.size, 1, none⟩ = false := Blk.frozen (k2621.out) 1
    have hlt_ := Blk.lt (k2623.out)
    go_simp
    have k2626 := Lib.hid (Blk.set_ (k2621.out) 1 (.slice A5 (n + 1) c5))
    have k2627 := Lib.hid (Blk.far (k2622.out) (p := ⟨w.heap.size, 1, none⟩) (by dsimp only; omega) (.slice A5 (n + 1) c5))
    have k2628 := Lib.hid (Blk.far (k2623.out) (p := ⟨w.heap.size, 1, none⟩) (by dsimp only; omega) (.slice A5 (n + 1) c5))
    have k2629 := Lib.hid (Below.setCell (k2624.out) (p := ⟨w.heap.size, 1, none⟩) (by dsimp only; omega) (.slice A5 (n + 1) c5))
    have k2630 := Lib.hid (own_far (OW5.out) (a := ⟨w.heap.size, 1, none⟩) (fun e => by have h_ := (World.ownsRow.lt (OW5.out) _ e).1; dsimp only at h_; omega) (.slice A5 (n + 1) c5))
    obtain ⟨w2631, hw2632⟩ : ∃ w', w' = (w2620).setCell ⟨w.heap.size, 1, none⟩ (.slice A5 (n + 1) c5) := ⟨_, rfl⟩
    rw [← hw2632] at k2626 k2627 k2628 k2629 k2630
    rw [← hw2632]
    clear hw2632 v0_ f0_ hlt_
    refine hK.out _ _ k2627.out (fun _ => ?_); clear hK K
    try simp only [Act.put, qsA, qsZ, qsS]
    refine wpAnyH_done (by kernel_rfl) ?_ _
    go_wp2
    go_meet
    exact ⟨A5, c5, k2630.out, k2626.out, k2628.out, k2629.out⟩
   exact AllReadyH.nil
  refine rdH rfl (fun K hK => ?_) ?_
  · -- 2: load
   have cs_ : (w2537).cell? ⟨w.heap.size, 1, none⟩ = some (.slice A n k) := Blk.cell (ba_1.out) 1
   go_simp
   clear cs_
   refine hK.out _ _ xb_2.out (fun _ => ?_); clear hK K
   try simp only [Act.put, qsA, qsZ, qsS]
   refine wpAnyH_ready (rs := [0, 5]) (by kernel_rfl) (by simp) ?_
   refine rdH rfl (fun K hK => ?_) ?_
   · -- 0: buildSlice
    go_simp
    have how_ := World.ownsRow_lit (w2537) (e := 30) (size := 4) #[] 0 (Nat.le_refl _) (by unfold maxLen; omega) rfl
    have how_ := owns_base how_ (show (w.heap.size + 1 + 1 + 1) ≤ _ from Nat.succ_le_of_lt (Blk.lt (bz_3.out)))
    have lb2637 := Lib.hid (bel_4.out.size)
    have ne2638 := Lib.hid (Nat.ne_of_lt (Blk.lt ba_1.out))
    have ne2639 := Lib.hid (Nat.ne_of_lt (Blk.lt xb_2.out))
    have ne2640 := Lib.hid (Nat.ne_of_lt (Blk.lt bz_3.out))
    obtain ⟨o_, ho_⟩ : ∃ o, o = (.cells #[] 30 : Obj) := ⟨_, rfl⟩
    replace bel_4 := bA bel_4 o_
    replace ba_1 := kA ba_1 o_
    replace xb_2 := kA xb_2 o_
    replace bz_3 := kA bz_3 o_
    subst ho_
    have gl_2641 := Lib.hid (Blk.new (w2537) 30 #[])
    obtain ⟨g2633, hg2634⟩ : ∃ g, g = (w2537).heap.size := ⟨_, rfl⟩
    obtain ⟨w2635, hw2636⟩ : ∃ w', w' = (w2537).alloc (.cells #[] 30) := ⟨_, rfl⟩
    rw [← hw2636] at bel_4 ba_1 xb_2 bz_3 gl_2641 how_
    rw [← hg2634] at lb2637 ne2638 ne2639 ne2640 gl_2641 how_
    rw [← hg2634, ← hw2636]
    clear hg2634 hw2636
    have OWL := Lib.hid how_; clear how_
    refine hK.out _ _ xb_2.out (fun _ => ?_); clear hK K
    try simp only [Act.put, qsA, qsZ, qsS]
    refine wpAnyH_ready (rs := [3, 5]) (by kernel_rfl) (by simp) ?_
    refine rdH rfl (fun K hK => ?_) ?_
    · -- 3: call
     refine wp_append_lit2 (.tmp 24) (.tmp 26) rfl (w.heap.size + 1 + 1 + 1) g2633 (OWL.out) rfl A n k ws (RdB.below RA0.out (bel_4.out)) hn4_ rfl (Nat.succ_le_of_lt (Blk.lt (bz_3.out))) ?_
     intro Ai ci w2642 hown5_ hg5_ hwh5_
     have k2643 := Lib.hid (blk_grown (ba_1.out) hg5_ (fun e => by have h_ := (World.ownsRow.lt (OWL.out) _ e).1; omega))
     have k2644 := Lib.hid (blk_grown (xb_2.out) hg5_ (fun e => by have h_ := (World.ownsRow.lt (OWL.out) _ e).1; omega))
     have k2645 := Lib.hid (blk_grown (bz_3.out) hg5_ (fun e => by have h_ := (World.ownsRow.lt (OWL.out) _ e).1; omega))
     have k2646 := Lib.hid (Below.grown (bel_4.out) hg5_ (Below.size (bel_4.out)) (fun q e => by have h_ := (World.ownsRow.lt (OWL.out) q e).1; omega))
     have OWA := Lib.hid hown5_
     clear hown5_ hg5_ hwh5_
     refine hK.out _ _ k2644.out (fun _ => ?_); clear hK K
     try simp only [Act.put, qsA, qsZ, qsS]
     refine oneH 5 rfl fun K hK => ?_
     go_simp
     have hnl_ := fun y h => (World.ownsRow.lt (OWA.out) y h).2
     have lb2651 := Lib.hid (k2646.out.size)
     have ne2652 := Lib.hid (Nat.ne_of_lt (Blk.lt k2643.out))
     have ne2653 := Lib.hid (Nat.ne_of_lt (Blk.lt k2644.out))
     have ne2654 := Lib.hid (Nat.ne_of_lt (Blk.lt k2645.out))
     obtain ⟨o_, ho_⟩ : ∃ o, o = (.cells #[.int .i64 f, .int .i64 t, .int .i64 mm, .int .i64 ib] 30 : Obj) := ⟨_, rfl⟩
     replace k2646 := bA k2646 o_
     replace k2643 := kA k2643 o_
     replace k2644 := kA k2644 o_
     replace k2645 := kA k2645 o_
     replace OWA := Lib.hid (World.ownsRow.alloc (OWA.out) (o_))
     subst ho_
     have nb_2655 := Lib.hid (Blk.new (w2642) 30 #[.int .i64 f, .int .i64 t, .int .i64 mm, .int .i64 ib])
     obtain ⟨g2647, hg2648⟩ : ∃ g, g = (w2642).heap.size := ⟨_, rfl⟩
     obtain ⟨w2649, hw2650⟩ : ∃ w', w' = (w2642).alloc (.cells #[.int .i64 f, .int .i64 t, .int .i64 mm, .int .i64 ib] 30) := ⟨_, rfl⟩
     rw [← hw2650] at k2646 k2643 k2644 k2645 OWA nb_2655
     rw [← hg2648] at lb2651 ne2652 ne2653 ne2654 nb_2655 hnl_
     rw [← hg2648, ← hw2650]
     clear hg2648 hw2650
     have NEN := Lib.hid (fun (e : (Value.slice Ai n ci).ownBlock = some g2647) => Nat.lt_irrefl _ (hnl_ _ e)); clear hnl_
     refine hK.out _ _ k2644.out (fun _ => ?_); clear hK K
     try simp only [Act.put, qsA, qsZ, qsS]
     refine oneH 6 rfl fun K hK => ?_
     have hcell_ := cells_add (cs := bcells [⟨f, t, mm, ib⟩]) (show Blk _ _ _ (bcells [⟨f, t, mm, ib⟩]).toArray from nb_2655.out)
     have hbz_ := Nat.succ_le_of_lt (Blk.lt (k2645.out))
     refine wp_append_own _ (.tmp 27) (.tmp 29) 22 rfl (w.heap.size + 1 + 1 + 1) 30 i0 _ 4 32 Tryz.underlying22 HI.out HZ0.out HZ1.out HZ2.out rfl (by omega) _ _ _ rfl (OWA.out) ⟨g2647, 0, none⟩ 1 1 (bcells [⟨f, t, mm, ib⟩]) rfl rfl hcell_ (bcells_one _) (by unfold maxLen; omega) (by omega) hbz_ ?_
     intro v5 w2656 hown5_ hg5_ _
     obtain ⟨A5, c5, rfl, -⟩ := own_form hown5_
     have k2657 := Lib.hid (blk_grown (k2643.out) hg5_ (fun e => by have h_ := (World.ownsRow.lt (OWA.out) _ e).1; omega))
     have k2658 := Lib.hid (blk_grown (k2644.out) hg5_ (fun e => by have h_ := (World.ownsRow.lt (OWA.out) _ e).1; omega))
     have k2659 := Lib.hid (blk_grown (k2645.out) hg5_ (fun e => by have h_ := (World.ownsRow.lt (OWA.out) _ e).1; omega))
     have k2660 := Lib.hid (Below.grown (k2646.out) hg5_ (Below.size (k2646.out)) (fun q e => by have h_ := (World.ownsRow.lt (OWA.out) q e).1; omega))
     have OW5 := Lib.hid (show World.ownsRow w2656 (w.heap.size + 1 + 1 + 1) 30 4 (.slice A5 (n + 1) c5) (n + 1) (bcells (ws ++ [⟨f, t, mm, ib⟩])) from by rw [bcells_append]; exact hown5_)
     clear hown5_ hg5_ hcell_ hbz_
     refine hK.out _ _ k2658.out (fun _ => ?_); clear hK K
     try simp only [Act.put, qsA, qsZ, qsS]
     refine' twH 7 k2658.out ?_
     try simp only [Act.put, qsA, qsZ, qsS]
     refine oneH 8 rfl fun K hK => ?_
     have v0_ : (w2656).cell? ⟨w.heap.size, 1, none⟩ = some (.slice A n k) := Blk.cell (k2657.out) 1
     have f0_ : (w2656).frozen? ⟨w.heap.size, 1, none⟩ = false := Blk.frozen (k2657.out) 1
     have hlt_ := Blk.lt (k2659.out)
     go_simp
     have k2662 := Lib.hid (Blk.set_ (k2657.out) 1 (.slice A5 (n + 1) c5))
     have k2663 := Lib.hid (Blk.far (k2658.out) (p := ⟨w.heap.size, 1, none⟩) (by dsimp only; omega) (.slice A5 (n + 1) c5))
     have k2664 := Lib.hid (Blk.far (k2659.out) (p := ⟨w.heap.size, 1, none⟩) (by dsimp only; omega) (.slice A5 (n + 1) c5))
     have k2665 := Lib.hid (Below.setCell (k2660.out) (p := ⟨w.heap.size, 1, none⟩) (by dsimp only; omega) (.slice A5 (n + 1) c5))
     have k2666 := Lib.hid (own_far (OW5.out) (a := ⟨w.heap.size, 1, none⟩) (fun e => by have h_ := (World.ownsRow.lt (OW5.out) _ e).1; dsimp only at h_; omega) (.slice A5 (n + 1) c5))
     obtain ⟨w2667, hw2668⟩ : ∃ w', w' = (w2656).setCell ⟨w.heap.size, 1, none⟩ (.slice A5 (n + 1) c5) := ⟨_, rfl⟩
     rw [← hw2668] at k2662 k2663 k2664 k2665 k2666
     rw [← hw2668]
     clear hw2668 v0_ f0_ hlt_
     refine hK.out _ _ k2663.out (fun _ => ?_); clear hK K
     try simp only [Act.put, qsA, qsZ, qsS]
     refine wpAnyH_done (by kernel_rfl) ?_ _
     go_wp2
     go_meet
     exact ⟨A5, c5, k2666.out, k2662.out, k2664.out, k2665.out⟩
    refine rdH rfl (fun K hK => ?_) ?_
    · -- 5: buildSlice
     go_simp
     have hnl_ := fun y h => (World.ownsRow.lt (OWL.out) y h).2
     have lb2673 := Lib.hid (bel_4.out.size)
     have ne2674 := Lib.hid (Nat.ne_of_lt (Blk.lt ba_1.out))
     have ne2675 := Lib.hid (Nat.ne_of_lt (Blk.lt xb_2.out))
     have ne2676 := Lib.hid (Nat.ne_of_lt (Blk.lt bz_3.out))
     obtain ⟨o_, ho_⟩ : ∃ o, o = (.cells #[.int .i64 f, .int .i64 t, .int .i64 mm, .int .i64 ib] 30 : Obj) := ⟨_, rfl⟩
     replace bel_4 := bA bel_4 o_
     replace ba_1 := kA ba_1 o_
     replace xb_2 := kA xb_2 o_
     replace bz_3 := kA bz_3 o_
     replace OWL := Lib.hid (World.ownsRow.alloc (OWL.out) (o_))
     subst ho_
     have nb_2677 := Lib.hid (Blk.new (w2635) 30 #[.int .i64 f, .int .i64 t, .int .i64 mm, .int .i64 ib])
     obtain ⟨g2669, hg2670⟩ : ∃ g, g = (w2635).heap.size := ⟨_, rfl⟩
     obtain ⟨w2671, hw2672⟩ : ∃ w', w' = (w2635).alloc (.cells #[.int .i64 f, .int .i64 t, .int .i64 mm, .int .i64 ib] 30) := ⟨_, rfl⟩
     rw [← hw2672] at bel_4 ba_1 xb_2 bz_3 OWL nb_2677
     rw [← hg2670] at lb2673 ne2674 ne2675 ne2676 nb_2677 hnl_
     rw [← hg2670, ← hw2672]
     clear hg2670 hw2672
     have NEN := Lib.hid (fun (e : (Value.slice (some ⟨g2633, 0, none⟩) 0 0).ownBlock = some g2669) => Nat.lt_irrefl _ (hnl_ _ e)); clear hnl_
     refine hK.out _ _ xb_2.out (fun _ => ?_); clear hK K
     try simp only [Act.put, qsA, qsZ, qsS]
     refine oneH 3 rfl fun K hK => ?_
     refine wp_append_lit2 (.tmp 24) (.tmp 26) rfl (w.heap.size + 1 + 1 + 1) g2633 (OWL.out) rfl A n k ws (RdB.below RA0.out (bel_4.out)) hn4_ rfl (Nat.succ_le_of_lt (Blk.lt (bz_3.out))) ?_
     intro Ai ci w2678 hown5_ hg5_ hwh5_
     have NE2 := Lib.hid (fun (e : (Value.slice Ai n ci).ownBlock = some g2669) => show False from hwh5_.elim (fun h => NEN.out (h.symm.trans e)) (fun h => absurd (Blk.lt (nb_2677.out)) (by have h9 := Option.some.inj (h.symm.trans e); omega)))
     have k2679 := Lib.hid (blk_grown (ba_1.out) hg5_ (fun e => by have h_ := (World.ownsRow.lt (OWL.out) _ e).1; omega))
     have k2680 := Lib.hid (blk_grown (xb_2.out) hg5_ (fun e => by have h_ := (World.ownsRow.lt (OWL.out) _ e).1; omega))
     have k2681 := Lib.hid (blk_grown (bz_3.out) hg5_ (fun e => by have h_ := (World.ownsRow.lt (OWL.out) _ e).1; omega))
     have k2682 := Lib.hid (blk_grown (nb_2677.out) hg5_ (fun e => NEN.out e))
     have k2683 := Lib.hid (Below.grown (bel_4.out) hg5_ (Below.size (bel_4.out)) (fun q e => by have h_ := (World.ownsRow.lt (OWL.out) q e).1; omega))
     clear NEN; have NEN := NE2; clear NE2
     have OWA := Lib.hid hown5_
     clear hown5_ hg5_ hwh5_
     refine hK.out _ _ k2680.out (fun _ => ?_); clear hK K
     try simp only [Act.put, qsA, qsZ, qsS]
     refine oneH 6 rfl fun K hK => ?_
     have hcell_ := cells_add (cs := bcells [⟨f, t, mm, ib⟩]) (show Blk _ _ _ (bcells [⟨f, t, mm, ib⟩]).toArray from k2682.out)
     have hbz_ := Nat.succ_le_of_lt (Blk.lt (k2681.out))
     refine wp_append_own _ (.tmp 27) (.tmp 29) 22 rfl (w.heap.size + 1 + 1 + 1) 30 i0 _ 4 32 Tryz.underlying22 HI.out HZ0.out HZ1.out HZ2.out rfl (by omega) _ _ _ rfl (OWA.out) ⟨g2669, 0, none⟩ 1 1 (bcells [⟨f, t, mm, ib⟩]) rfl rfl hcell_ (bcells_one _) (by unfold maxLen; omega) (by omega) hbz_ ?_
     intro v5 w2684 hown5_ hg5_ _
     obtain ⟨A5, c5, rfl, -⟩ := own_form hown5_
     have k2685 := Lib.hid (blk_grown (k2679.out) hg5_ (fun e => by have h_ := (World.ownsRow.lt (OWA.out) _ e).1; omega))
     have k2686 := Lib.hid (blk_grown (k2680.out) hg5_ (fun e => by have h_ := (World.ownsRow.lt (OWA.out) _ e).1; omega))
     have k2687 := Lib.hid (blk_grown (k2681.out) hg5_ (fun e => by have h_ := (World.ownsRow.lt (OWA.out) _ e).1; omega))
     have k2688 := Lib.hid (Below.grown (k2683.out) hg5_ (Below.size (k2683.out)) (fun q e => by have h_ := (World.ownsRow.lt (OWA.out) q e).1; omega))
     have OW5 := Lib.hid (show World.ownsRow w2684 (w.heap.size + 1 + 1 + 1) 30 4 (.slice A5 (n + 1) c5) (n + 1) (bcells (ws ++ [⟨f, t, mm, ib⟩])) from by rw [bcells_append]; exact hown5_)
     clear hown5_ hg5_ hcell_ hbz_
     refine hK.out _ _ k2686.out (fun _ => ?_); clear hK K
     try simp only [Act.put, qsA, qsZ, qsS]
     refine' twH 7 k2686.out ?_
     try simp only [Act.put, qsA, qsZ, qsS]
     refine oneH 8 rfl fun K hK => ?_
     have v0_ : (w2684).cell? ⟨w.heap.size, 1, none⟩ = some (.slice A n k) := Blk.cell (k2685.out) 1
     have f0_ : (w2684).frozen? ⟨w.heap.size, 1, none⟩ = false := Blk.frozen (k2685.out) 1
     have hlt_ := Blk.lt (k2687.out)
     go_simp
     have k2690 := Lib.hid (Blk.set_ (k2685.out) 1 (.slice A5 (n + 1) c5))
     have k2691 := Lib.hid (Blk.far (k2686.out) (p := ⟨w.heap.size, 1, none⟩) (by dsimp only; omega) (.slice A5 (n + 1) c5))
     have k2692 := Lib.hid (Blk.far (k2687.out) (p := ⟨w.heap.size, 1, none⟩) (by dsimp only; omega) (.slice A5 (n + 1) c5))
     have k2693 := Lib.hid (Below.setCell (k2688.out) (p := ⟨w.heap.size, 1, none⟩) (by dsimp only; omega) (.slice A5 (n + 1) c5))
     have k2694 := Lib.hid (own_far (OW5.out) (a := ⟨w.heap.size, 1, none⟩) (fun e => by have h_ := (World.ownsRow.lt (OW5.out) _ e).1; dsimp only at h_; omega) (.slice A5 (n + 1) c5))
     obtain ⟨w2695, hw2696⟩ : ∃ w', w' = (w2684).setCell ⟨w.heap.size, 1, none⟩ (.slice A5 (n + 1) c5) := ⟨_, rfl⟩
     rw [← hw2696] at k2690 k2691 k2692 k2693 k2694
     rw [← hw2696]
     clear hw2696 v0_ f0_ hlt_
     refine hK.out _ _ k2691.out (fun _ => ?_); clear hK K
     try simp only [Act.put, qsA, qsZ, qsS]
     refine wpAnyH_done (by kernel_rfl) ?_ _
     go_wp2
     go_meet
     exact ⟨A5, c5, k2694.out, k2690.out, k2692.out, k2693.out⟩
    exact AllReadyH.nil
   refine rdH rfl (fun K hK => ?_) ?_
   · -- 5: buildSlice
    go_simp
    have lb2701 := Lib.hid (bel_4.out.size)
    have ne2702 := Lib.hid (Nat.ne_of_lt (Blk.lt ba_1.out))
    have ne2703 := Lib.hid (Nat.ne_of_lt (Blk.lt xb_2.out))
    have ne2704 := Lib.hid (Nat.ne_of_lt (Blk.lt bz_3.out))
    obtain ⟨o_, ho_⟩ : ∃ o, o = (.cells #[.int .i64 f, .int .i64 t, .int .i64 mm, .int .i64 ib] 30 : Obj) := ⟨_, rfl⟩
    replace bel_4 := bA bel_4 o_
    replace ba_1 := kA ba_1 o_
    replace xb_2 := kA xb_2 o_
    replace bz_3 := kA bz_3 o_
    subst ho_
    have nb_2705 := Lib.hid (Blk.new (w2537) 30 #[.int .i64 f, .int .i64 t, .int .i64 mm, .int .i64 ib])
    obtain ⟨g2697, hg2698⟩ : ∃ g, g = (w2537).heap.size := ⟨_, rfl⟩
    obtain ⟨w2699, hw2700⟩ : ∃ w', w' = (w2537).alloc (.cells #[.int .i64 f, .int .i64 t, .int .i64 mm, .int .i64 ib] 30) := ⟨_, rfl⟩
    rw [← hw2700] at bel_4 ba_1 xb_2 bz_3 nb_2705
    rw [← hg2698] at lb2701 ne2702 ne2703 ne2704 nb_2705
    rw [← hg2698, ← hw2700]
    clear hg2698 hw2700
    refine hK.out _ _ xb_2.out (fun _ => ?_); clear hK K
    try simp only [Act.put, qsA, qsZ, qsS]
    refine oneH 0 rfl fun K hK => ?_
    go_simp
    have how_ := World.ownsRow_lit (w2699) (e := 30) (size := 4) #[] 0 (Nat.le_refl _) (by unfold maxLen; omega) rfl
    have how_ := owns_base how_ (show (w.heap.size + 1 + 1 + 1) ≤ _ from Nat.succ_le_of_lt (Blk.lt (bz_3.out)))
    have lb2710 := Lib.hid (bel_4.out.size)
    have ne2711 := Lib.hid (Nat.ne_of_lt (Blk.lt ba_1.out))
    have ne2712 := Lib.hid (Nat.ne_of_lt (Blk.lt xb_2.out))
    have ne2713 := Lib.hid (Nat.ne_of_lt (Blk.lt bz_3.out))
    have ne2714 := Lib.hid (Nat.ne_of_lt (Blk.lt nb_2705.out))
    obtain ⟨o_, ho_⟩ : ∃ o, o = (.cells #[] 30 : Obj) := ⟨_, rfl⟩
    replace bel_4 := bA bel_4 o_
    replace ba_1 := kA ba_1 o_
    replace xb_2 := kA xb_2 o_
    replace bz_3 := kA bz_3 o_
    replace nb_2705 := kA nb_2705 o_
    subst ho_
    have gl_2715 := Lib.hid (Blk.new (w2699) 30 #[])
    obtain ⟨g2706, hg2707⟩ : ∃ g, g = (w2699).heap.size := ⟨_, rfl⟩
    obtain ⟨w2708, hw2709⟩ : ∃ w', w' = (w2699).alloc (.cells #[] 30) := ⟨_, rfl⟩
    rw [← hw2709] at bel_4 ba_1 xb_2 bz_3 nb_2705 gl_2715 how_
    rw [← hg2707] at lb2710 ne2711 ne2712 ne2713 ne2714 gl_2715 how_
    rw [← hg2707, ← hw2709]
    clear hg2707 hw2709
    have OWL := Lib.hid how_; clear how_
    have NEN := Lib.hid (fun (e : (Value.slice (some ⟨g2706, 0, none⟩) 0 0).ownBlock = some g2697) => ne2714.out (Option.some.inj e).symm)
    refine hK.out _ _ xb_2.out (fun _ => ?_); clear hK K
    try simp only [Act.put, qsA, qsZ, qsS]
    refine oneH 3 rfl fun K hK => ?_
    refine wp_append_lit2 (.tmp 24) (.tmp 26) rfl (w.heap.size + 1 + 1 + 1) g2706 (OWL.out) rfl A n k ws (RdB.below RA0.out (bel_4.out)) hn4_ rfl (Nat.succ_le_of_lt (Blk.lt (bz_3.out))) ?_
    intro Ai ci w2716 hown5_ hg5_ hwh5_
    have NE2 := Lib.hid (fun (e : (Value.slice Ai n ci).ownBlock = some g2697) => show False from hwh5_.elim (fun h => NEN.out (h.symm.trans e)) (fun h => absurd (Blk.lt (nb_2705.out)) (by have h9 := Option.some.inj (h.symm.trans e); omega)))
    have k2717 := Lib.hid (blk_grown (ba_1.out) hg5_ (fun e => by have h_ := (World.ownsRow.lt (OWL.out) _ e).1; omega))
    have k2718 := Lib.hid (blk_grown (xb_2.out) hg5_ (fun e => by have h_ := (World.ownsRow.lt (OWL.out) _ e).1; omega))
    have k2719 := Lib.hid (blk_grown (bz_3.out) hg5_ (fun e => by have h_ := (World.ownsRow.lt (OWL.out) _ e).1; omega))
    have k2720 := Lib.hid (blk_grown (nb_2705.out) hg5_ (fun e => NEN.out e))
    have k2721 := Lib.hid (Below.grown (bel_4.out) hg5_ (Below.size (bel_4.out)) (fun q e => by have h_ := (World.ownsRow.lt (OWL.out) q e).1; omega))
    clear NEN; have NEN := NE2; clear NE2
    have OWA := Lib.hid hown5_
    clear hown5_ hg5_ hwh5_
    refine hK.out _ _ k2718.out (fun _ => ?_); clear hK K
    try simp only [Act.put, qsA, qsZ, qsS]
    refine oneH 6 rfl fun K hK => ?_
    have hcell_ := cells_add (cs := bcells [⟨f, t, mm, ib⟩]) (show Blk _ _ _ (bcells [⟨f, t, mm, ib⟩]).toArray from k2720.out)
    have hbz_ := Nat.succ_le_of_lt (Blk.lt (k2719.out))
    refine wp_append_own _ (.tmp 27) (.tmp 29) 22 rfl (w.heap.size + 1 + 1 + 1) 30 i0 _ 4 32 Tryz.underlying22 HI.out HZ0.out HZ1.out HZ2.out rfl (by omega) _ _ _ rfl (OWA.out) ⟨g2697, 0, none⟩ 1 1 (bcells [⟨f, t, mm, ib⟩]) rfl rfl hcell_ (bcells_one _) (by unfold maxLen; omega) (by omega) hbz_ ?_
    intro v5 w2722 hown5_ hg5_ _
    obtain ⟨A5, c5, rfl, -⟩ := own_form hown5_
    have k2723 := Lib.hid (blk_grown (k2717.out) hg5_ (fun e => by have h_ := (World.ownsRow.lt (OWA.out) _ e).1; omega))
    have k2724 := Lib.hid (blk_grown (k2718.out) hg5_ (fun e => by have h_ := (World.ownsRow.lt (OWA.out) _ e).1; omega))
    have k2725 := Lib.hid (blk_grown (k2719.out) hg5_ (fun e => by have h_ := (World.ownsRow.lt (OWA.out) _ e).1; omega))
    have k2726 := Lib.hid (Below.grown (k2721.out) hg5_ (Below.size (k2721.out)) (fun q e => by have h_ := (World.ownsRow.lt (OWA.out) q e).1; omega))
    have OW5 := Lib.hid (show World.ownsRow w2722 (w.heap.size + 1 + 1 + 1) 30 4 (.slice A5 (n + 1) c5) (n + 1) (bcells (ws ++ [⟨f, t, mm, ib⟩])) from by rw [bcells_append]; exact hown5_)
    clear hown5_ hg5_ hcell_ hbz_
    refine hK.out _ _ k2724.out (fun _ => ?_); clear hK K
    try simp only [Act.put, qsA, qsZ, qsS]
    refine' twH 7 k2724.out ?_
    try simp only [Act.put, qsA, qsZ, qsS]
    refine oneH 8 rfl fun K hK => ?_
    have v0_ : (w2722).cell? ⟨w.heap.size, 1, none⟩ = some (.slice A n k) := Blk.cell (k2723.out) 1
    have f0_ : (w2722).frozen? ⟨w.heap.size, 1, none⟩ = false := Blk.frozen (k2723.out) 1
    have hlt_ := Blk.lt (k2725.out)
    go_simp
    have k2728 := Lib.hid (Blk.set_ (k2723.out) 1 (.slice A5 (n + 1) c5))
    have k2729 := Lib.hid (Blk.far (k2724.out) (p := ⟨w.heap.size, 1, none⟩) (by dsimp only; omega) (.slice A5 (n + 1) c5))
    have k2730 := Lib.hid (Blk.far (k2725.out) (p := ⟨w.heap.size, 1, none⟩) (by dsimp only; omega) (.slice A5 (n + 1) c5))
    have k2731 := Lib.hid (Below.setCell (k2726.out) (p := ⟨w.heap.size, 1, none⟩) (by dsimp only; omega) (.slice A5 (n + 1) c5))
    have k2732 := Lib.hid (own_far (OW5.out) (a := ⟨w.heap.size, 1, none⟩) (fun e => by have h_ := (World.ownsRow.lt (OW5.out) _ e).1; dsimp only at h_; omega) (.slice A5 (n + 1) c5))
    obtain ⟨w2733, hw2734⟩ : ∃ w', w' = (w2722).setCell ⟨w.heap.size, 1, none⟩ (.slice A5 (n + 1) c5) := ⟨_, rfl⟩
    rw [← hw2734] at k2728 k2729 k2730 k2731 k2732
    rw [← hw2734]
    clear hw2734 v0_ f0_ hlt_
    refine hK.out _ _ k2729.out (fun _ => ?_); clear hK K
    try simp only [Act.put, qsA, qsZ, qsS]
    refine wpAnyH_done (by kernel_rfl) ?_ _
    go_wp2
    go_meet
    exact ⟨A5, c5, k2732.out, k2728.out, k2730.out, k2731.out⟩
   exact AllReadyH.nil
  refine rdH rfl (fun K hK => ?_) ?_
  · -- 5: buildSlice
   go_simp
   have lb2739 := Lib.hid (bel_4.out.size)
   have ne2740 := Lib.hid (Nat.ne_of_lt (Blk.lt ba_1.out))
   have ne2741 := Lib.hid (Nat.ne_of_lt (Blk.lt xb_2.out))
   have ne2742 := Lib.hid (Nat.ne_of_lt (Blk.lt bz_3.out))
   obtain ⟨o_, ho_⟩ : ∃ o, o = (.cells #[.int .i64 f, .int .i64 t, .int .i64 mm, .int .i64 ib] 30 : Obj) := ⟨_, rfl⟩
   replace bel_4 := bA bel_4 o_
   replace ba_1 := kA ba_1 o_
   replace xb_2 := kA xb_2 o_
   replace bz_3 := kA bz_3 o_
   subst ho_
   have nb_2743 := Lib.hid (Blk.new (w2537) 30 #[.int .i64 f, .int .i64 t, .int .i64 mm, .int .i64 ib])
   obtain ⟨g2735, hg2736⟩ : ∃ g, g = (w2537).heap.size := ⟨_, rfl⟩
   obtain ⟨w2737, hw2738⟩ : ∃ w', w' = (w2537).alloc (.cells #[.int .i64 f, .int .i64 t, .int .i64 mm, .int .i64 ib] 30) := ⟨_, rfl⟩
   rw [← hw2738] at bel_4 ba_1 xb_2 bz_3 nb_2743
   rw [← hg2736] at lb2739 ne2740 ne2741 ne2742 nb_2743
   rw [← hg2736, ← hw2738]
   clear hg2736 hw2738
   refine hK.out _ _ xb_2.out (fun _ => ?_); clear hK K
   try simp only [Act.put, qsA, qsZ, qsS]
   refine wpAnyH_ready (rs := [0, 2]) (by kernel_rfl) (by simp) ?_
   refine rdH rfl (fun K hK => ?_) ?_
   · -- 0: buildSlice
    go_simp
    have how_ := World.ownsRow_lit (w2737) (e := 30) (size := 4) #[] 0 (Nat.le_refl _) (by unfold maxLen; omega) rfl
    have how_ := owns_base how_ (show (w.heap.size + 1 + 1 + 1) ≤ _ from Nat.succ_le_of_lt (Blk.lt (bz_3.out)))
    have lb2748 := Lib.hid (bel_4.out.size)
    have ne2749 := Lib.hid (Nat.ne_of_lt (Blk.lt ba_1.out))
    have ne2750 := Lib.hid (Nat.ne_of_lt (Blk.lt xb_2.out))
    have ne2751 := Lib.hid (Nat.ne_of_lt (Blk.lt bz_3.out))
    have ne2752 := Lib.hid (Nat.ne_of_lt (Blk.lt nb_2743.out))
    obtain ⟨o_, ho_⟩ : ∃ o, o = (.cells #[] 30 : Obj) := ⟨_, rfl⟩
    replace bel_4 := bA bel_4 o_
    replace ba_1 := kA ba_1 o_
    replace xb_2 := kA xb_2 o_
    replace bz_3 := kA bz_3 o_
    replace nb_2743 := kA nb_2743 o_
    subst ho_
    have gl_2753 := Lib.hid (Blk.new (w2737) 30 #[])
    obtain ⟨g2744, hg2745⟩ : ∃ g, g = (w2737).heap.size := ⟨_, rfl⟩
    obtain ⟨w2746, hw2747⟩ : ∃ w', w' = (w2737).alloc (.cells #[] 30) := ⟨_, rfl⟩
    rw [← hw2747] at bel_4 ba_1 xb_2 bz_3 nb_2743 gl_2753 how_
    rw [← hg2745] at lb2748 ne2749 ne2750 ne2751 ne2752 gl_2753 how_
    rw [← hg2745, ← hw2747]
    clear hg2745 hw2747
    have OWL := Lib.hid how_; clear how_
    have NEN := Lib.hid (fun (e : (Value.slice (some ⟨g2744, 0, none⟩) 0 0).ownBlock = some g2735) => ne2752.out (Option.some.inj e).symm)
    refine hK.out _ _ xb_2.out (fun _ => ?_); clear hK K
    try simp only [Act.put, qsA, qsZ, qsS]
    refine oneH 2 rfl fun K hK => ?_
    have cs_ : (w2746).cell? ⟨w.heap.size, 1, none⟩ = some (.slice A n k) := Blk.cell (ba_1.out) 1
    go_simp
    clear cs_
    refine hK.out _ _ xb_2.out (fun _ => ?_); clear hK K
    try simp only [Act.put, qsA, qsZ, qsS]
    refine oneH 3 rfl fun K hK => ?_
    refine wp_append_lit2 (.tmp 24) (.tmp 26) rfl (w.heap.size + 1 + 1 + 1) g2744 (OWL.out) rfl A n k ws (RdB.below RA0.out (bel_4.out)) hn4_ rfl (Nat.succ_le_of_lt (Blk.lt (bz_3.out))) ?_
    intro Ai ci w2754 hown5_ hg5_ hwh5_
    have NE2 := Lib.hid (fun (e : (Value.slice Ai n ci).ownBlock = some g2735) => show False from hwh5_.elim (fun h => NEN.out (h.symm.trans e)) (fun h => absurd (Blk.lt (nb_2743.out)) (by have h9 := Option.some.inj (h.symm.trans e); omega)))
    have k2755 := Lib.hid (blk_grown (ba_1.out) hg5_ (fun e => by have h_ := (World.ownsRow.lt (OWL.out) _ e).1; omega))
    have k2756 := Lib.hid (blk_grown (xb_2.out) hg5_ (fun e => by have h_ := (World.ownsRow.lt (OWL.out) _ e).1; omega))
    have k2757 := Lib.hid (blk_grown (bz_3.out) hg5_ (fun e => by have h_ := (World.ownsRow.lt (OWL.out) _ e).1; omega))
    have k2758 := Lib.hid (blk_grown (nb_2743.out) hg5_ (fun e => NEN.out e))
    have k2759 := Lib.hid (Below.grown (bel_4.out) hg5_ (Below.size (bel_4.out)) (fun q e => by have h_ := (World.ownsRow.lt (OWL.out) q e).1; omega))
    clear NEN; have NEN := NE2; clear NE2
    have OWA := Lib.hid hown5_
    clear hown5_ hg5_ hwh5_
    refine hK.out _ _ k2756.out (fun _ => ?_); clear hK K
    try simp only [Act.put, qsA, qsZ, qsS]
    refine oneH 6 rfl fun K hK => ?_
    have hcell_ := cells_add (cs := bcells [⟨f, t, mm, ib⟩]) (show Blk _ _ _ (bcells [⟨f, t, mm, ib⟩]).toArray from k2758.out)
    have hbz_ := Nat.succ_le_of_lt (Blk.lt (k2757.out))
    refine wp_append_own _ (.tmp 27) (.tmp 29) 22 rfl (w.heap.size + 1 + 1 + 1) 30 i0 _ 4 32 Tryz.underlying22 HI.out HZ0.out HZ1.out HZ2.out rfl (by omega) _ _ _ rfl (OWA.out) ⟨g2735, 0, none⟩ 1 1 (bcells [⟨f, t, mm, ib⟩]) rfl rfl hcell_ (bcells_one _) (by unfold maxLen; omega) (by omega) hbz_ ?_
    intro v5 w2760 hown5_ hg5_ _
    obtain ⟨A5, c5, rfl, -⟩ := own_form hown5_
    have k2761 := Lib.hid (blk_grown (k2755.out) hg5_ (fun e => by have h_ := (World.ownsRow.lt (OWA.out) _ e).1; omega))
    have k2762 := Lib.hid (blk_grown (k2756.out) hg5_ (fun e => by have h_ := (World.ownsRow.lt (OWA.out) _ e).1; omega))
    have k2763 := Lib.hid (blk_grown (k2757.out) hg5_ (fun e => by have h_ := (World.ownsRow.lt (OWA.out) _ e).1; omega))
    have k2764 := Lib.hid (Below.grown (k2759.out) hg5_ (Below.size (k2759.out)) (fun q e => by have h_ := (World.ownsRow.lt (OWA.out) q e).1; omega))
    have OW5 := Lib.hid (show World.ownsRow w2760 (w.heap.size + 1 + 1 + 1) 30 4 (.slice A5 (n + 1) c5) (n + 1) (bcells (ws ++ [⟨f, t, mm, ib⟩])) from by rw [bcells_append]; exact hown5_)
    clear hown5_ hg5_ hcell_ hbz_
    refine hK.out _ _ k2762.out (fun _ => ?_); clear hK K
    try simp only [Act.put, qsA, qsZ, qsS]
    refine' twH 7 k2762.out ?_
    try simp only [Act.put, qsA, qsZ, qsS]
    refine oneH 8 rfl fun K hK => ?_
    have v0_ : (w2760).cell? ⟨w.heap.size, 1, none⟩ = some (.slice A n k) := Blk.cell (k2761.out) 1
    have f0_ : (w2760).frozen? ⟨w.heap.size, 1, none⟩ = false := Blk.frozen (k2761.out) 1
    have hlt_ := Blk.lt (k2763.out)
    go_simp
    have k2766 := Lib.hid (Blk.set_ (k2761.out) 1 (.slice A5 (n + 1) c5))
    have k2767 := Lib.hid (Blk.far (k2762.out) (p := ⟨w.heap.size, 1, none⟩) (by dsimp only; omega) (.slice A5 (n + 1) c5))
    have k2768 := Lib.hid (Blk.far (k2763.out) (p := ⟨w.heap.size, 1, none⟩) (by dsimp only; omega) (.slice A5 (n + 1) c5))
    have k2769 := Lib.hid (Below.setCell (k2764.out) (p := ⟨w.heap.size, 1, none⟩) (by dsimp only; omega) (.slice A5 (n + 1) c5))
    have k2770 := Lib.hid (own_far (OW5.out) (a := ⟨w.heap.size, 1, none⟩) (fun e => by have h_ := (World.ownsRow.lt (OW5.out) _ e).1; dsimp only at h_; omega) (.slice A5 (n + 1) c5))
    obtain ⟨w2771, hw2772⟩ : ∃ w', w' = (w2760).setCell ⟨w.heap.size, 1, none⟩ (.slice A5 (n + 1) c5) := ⟨_, rfl⟩
    rw [← hw2772] at k2766 k2767 k2768 k2769 k2770
    rw [← hw2772]
    clear hw2772 v0_ f0_ hlt_
    refine hK.out _ _ k2767.out (fun _ => ?_); clear hK K
    try simp only [Act.put, qsA, qsZ, qsS]
    refine wpAnyH_done (by kernel_rfl) ?_ _
    go_wp2
    go_meet
    exact ⟨A5, c5, k2770.out, k2766.out, k2768.out, k2769.out⟩
   refine rdH rfl (fun K hK => ?_) ?_
   · -- 2: load
    have cs_ : (w2737).cell? ⟨w.heap.size, 1, none⟩ = some (.slice A n k) := Blk.cell (ba_1.out) 1
    go_simp
    clear cs_
    refine hK.out _ _ xb_2.out (fun _ => ?_); clear hK K
    try simp only [Act.put, qsA, qsZ, qsS]
    refine oneH 0 rfl fun K hK => ?_
    go_simp
    have how_ := World.ownsRow_lit (w2737) (e := 30) (size := 4) #[] 0 (Nat.le_refl _) (by unfold maxLen; omega) rfl
    have how_ := owns_base how_ (show (w.heap.size + 1 + 1 + 1) ≤ _ from Nat.succ_le_of_lt (Blk.lt (bz_3.out)))
    have lb2777 := Lib.hid (bel_4.out.size)
    have ne2778 := Lib.hid (Nat.ne_of_lt (Blk.lt ba_1.out))
    have ne2779 := Lib.hid (Nat.ne_of_lt (Blk.lt xb_2.out))
    have ne2780 := Lib.hid (Nat.ne_of_lt (Blk.lt bz_3.out))
    have ne2781 := Lib.hid (Nat.ne_of_lt (Blk.lt nb_2743.out))
    obtain ⟨o_, ho_⟩ : ∃ o, o = (.cells #[] 30 : Obj) := ⟨_, rfl⟩
    replace bel_4 := bA bel_4 o_
    replace ba_1 := kA ba_1 o_
    replace xb_2 := kA xb_2 o_
    replace bz_3 := kA bz_3 o_
    replace nb_2743 := kA nb_2743 o_
    subst ho_
    have gl_2782 := Lib.hid (Blk.new (w2737) 30 #[])
    obtain ⟨g2773, hg2774⟩ : ∃ g, g = (w2737).heap.size := ⟨_, rfl⟩
    obtain ⟨w2775, hw2776⟩ : ∃ w', w' = (w2737).alloc (.cells #[] 30) := ⟨_, rfl⟩
    rw [← hw2776] at bel_4 ba_1 xb_2 bz_3 nb_2743 gl_2782 how_
    rw [← hg2774] at lb2777 ne2778 ne2779 ne2780 ne2781 gl_2782 how_
    rw [← hg2774, ← hw2776]
    clear hg2774 hw2776
    have OWL := Lib.hid how_; clear how_
    have NEN := Lib.hid (fun (e : (Value.slice (some ⟨g2773, 0, none⟩) 0 0).ownBlock = some g2735) => ne2781.out (Option.some.inj e).symm)
    refine hK.out _ _ xb_2.out (fun _ => ?_); clear hK K
    try simp only [Act.put, qsA, qsZ, qsS]
    refine oneH 3 rfl fun K hK => ?_
    refine wp_append_lit2 (.tmp 24) (.tmp 26) rfl (w.heap.size + 1 + 1 + 1) g2773 (OWL.out) rfl A n k ws (RdB.below RA0.out (bel_4.out)) hn4_ rfl (Nat.succ_le_of_lt (Blk.lt (bz_3.out))) ?_
    intro Ai ci w2783 hown5_ hg5_ hwh5_
    have NE2 := Lib.hid (fun (e : (Value.slice Ai n ci).ownBlock = some g2735) => show False from hwh5_.elim (fun h => NEN.out (h.symm.trans e)) (fun h => absurd (Blk.lt (nb_2743.out)) (by have h9 := Option.some.inj (h.symm.trans e); omega)))
    have k2784 := Lib.hid (blk_grown (ba_1.out) hg5_ (fun e => by have h_ := (World.ownsRow.lt (OWL.out) _ e).1; omega))
    have k2785 := Lib.hid (blk_grown (xb_2.out) hg5_ (fun e => by have h_ := (World.ownsRow.lt (OWL.out) _ e).1; omega))
    have k2786 := Lib.hid (blk_grown (bz_3.out) hg5_ (fun e => by have h_ := (World.ownsRow.lt (OWL.out) _ e).1; omega))
    have k2787 := Lib.hid (blk_grown (nb_2743.out) hg5_ (fun e => NEN.out e))
    have k2788 := Lib.hid (Below.grown (bel_4.out) hg5_ (Below.size (bel_4.out)) (fun q e => by have h_ := (World.ownsRow.lt (OWL.out) q e).1; omega))
    clear NEN; have NEN := NE2; clear NE2
    have OWA := Lib.hid hown5_
    clear hown5_ hg5_ hwh5_
    refine hK.out _ _ k2785.out (fun _ => ?_); clear hK K
    try simp only [Act.put, qsA, qsZ, qsS]
    refine oneH 6 rfl fun K hK => ?_
    have hcell_ := cells_add (cs := bcells [⟨f, t, mm, ib⟩]) (show Blk _ _ _ (bcells [⟨f, t, mm, ib⟩]).toArray from k2787.out)
    have hbz_ := Nat.succ_le_of_lt (Blk.lt (k2786.out))
    refine wp_append_own _ (.tmp 27) (.tmp 29) 22 rfl (w.heap.size + 1 + 1 + 1) 30 i0 _ 4 32 Tryz.underlying22 HI.out HZ0.out HZ1.out HZ2.out rfl (by omega) _ _ _ rfl (OWA.out) ⟨g2735, 0, none⟩ 1 1 (bcells [⟨f, t, mm, ib⟩]) rfl rfl hcell_ (bcells_one _) (by unfold maxLen; omega) (by omega) hbz_ ?_
    intro v5 w2789 hown5_ hg5_ _
    obtain ⟨A5, c5, rfl, -⟩ := own_form hown5_
    have k2790 := Lib.hid (blk_grown (k2784.out) hg5_ (fun e => by have h_ := (World.ownsRow.lt (OWA.out) _ e).1; omega))
    have k2791 := Lib.hid (blk_grown (k2785.out) hg5_ (fun e => by have h_ := (World.ownsRow.lt (OWA.out) _ e).1; omega))
    have k2792 := Lib.hid (blk_grown (k2786.out) hg5_ (fun e => by have h_ := (World.ownsRow.lt (OWA.out) _ e).1; omega))
    have k2793 := Lib.hid (Below.grown (k2788.out) hg5_ (Below.size (k2788.out)) (fun q e => by have h_ := (World.ownsRow.lt (OWA.out) q e).1; omega))
    have OW5 := Lib.hid (show World.ownsRow w2789 (w.heap.size + 1 + 1 + 1) 30 4 (.slice A5 (n + 1) c5) (n + 1) (bcells (ws ++ [⟨f, t, mm, ib⟩])) from by rw [bcells_append]; exact hown5_)
    clear hown5_ hg5_ hcell_ hbz_
    refine hK.out _ _ k2791.out (fun _ => ?_); clear hK K
    try simp only [Act.put, qsA, qsZ, qsS]
    refine' twH 7 k2791.out ?_
    try simp only [Act.put, qsA, qsZ, qsS]
    refine oneH 8 rfl fun K hK => ?_
    have v0_ : (w2789).cell? ⟨w.heap.size, 1, none⟩ = some (.slice A n k) := Blk.cell (k2790.out) 1
    have f0_ : (w2789).frozen? ⟨w.heap.size, 1, none⟩ = false := Blk.frozen (k2790.out) 1
    have hlt_ := Blk.lt (k2792.out)
    go_simp
    have k2795 := Lib.hid (Blk.set_ (k2790.out) 1 (.slice A5 (n + 1) c5))
    have k2796 := Lib.hid (Blk.far (k2791.out) (p := ⟨w.heap.size, 1, none⟩) (by dsimp only; omega) (.slice A5 (n + 1) c5))
    have k2797 := Lib.hid (Blk.far (k2792.out) (p := ⟨w.heap.size, 1, none⟩) (by dsimp only; omega) (.slice A5 (n + 1) c5))
    have k2798 := Lib.hid (Below.setCell (k2793.out) (p := ⟨w.heap.size, 1, none⟩) (by dsimp only; omega) (.slice A5 (n + 1) c5))
    have k2799 := Lib.hid (own_far (OW5.out) (a := ⟨w.heap.size, 1, none⟩) (fun e => by have h_ := (World.ownsRow.lt (OW5.out) _ e).1; dsimp only at h_; omega) (.slice A5 (n + 1) c5))
    obtain ⟨w2800, hw2801⟩ : ∃ w', w' = (w2789).setCell ⟨w.heap.size, 1, none⟩ (.slice A5 (n + 1) c5) := ⟨_, rfl⟩
    rw [← hw2801] at k2795 k2796 k2797 k2798 k2799
    rw [← hw2801]
    clear hw2801 v0_ f0_ hlt_
    refine hK.out _ _ k2796.out (fun _ => ?_); clear hK K
    try simp only [Act.put, qsA, qsZ, qsS]
    refine wpAnyH_done (by kernel_rfl) ?_ _
    go_wp2
    go_meet
    exact ⟨A5, c5, k2799.out, k2795.out, k2797.out, k2798.out⟩
   exact AllReadyH.nil
  exact AllReadyH.nil
 case rest =>
  obtain ⟨A5, c5, kow, kba, kbz, kbel⟩ := hcut
  clear bel_4 ba_1 xb_2 bz_3
  have krn := (OwnB.rd (show OwnB wc (w.heap.size + 1 + 1 + 1) A5 (n + 1) c5 (ws ++ [⟨f, t, mm, ib⟩]) from kow)).1; have kro := RdB.below RB0.out kbel; clear kow
  have rn_5001 := Lib.hid (krn)
  have ro_5002 := Lib.hid (kro)
  have ba_5003 := Lib.hid (kba)
  have bz_5004 := Lib.hid (kbz)
  have bel_5005 := Lib.hid (kbel)
  clear krn kro kba kbz kbel
  have hn4_ := HN4.out; have hm4_ := HM4.out
  obtain ⟨z_5006, z_5007, z_5008⟩ := at3 ba_5003
  obtain ⟨z_5009, z_5010, z_5011⟩ := at3 bz_5004
  have hc := rCheckOutline_any c A5 B (n + 1) c5 m j (ws ++ [⟨f, t, mm, ib⟩]) ts _ rn_5001.out ro_5002.out (by unfold maxLen; omega) hm
  rw [E2.out] at hc
  try dsimp only at hc
  have HC := Lib.hid hc; clear hc
  go_wp2_with fail
  refine HC.out.mono ?_
  rintro e w_5012 ⟨rfl, hb⟩
  clear HC
  clear z_5006 z_5007 z_5008 z_5009 z_5010 z_5011
  have hb_5013 := Lib.hid hb
  clear hb
  replace ba_5003 := kH ba_5003 hb_5013
  obtain ⟨z_5014, z_5015, z_5016⟩ := at3 ba_5003
  replace bz_5004 := kH bz_5004 hb_5013
  obtain ⟨z_5017, z_5018, z_5019⟩ := at3 bz_5004
  have fz_5020 : (w_5012).frozen? ⟨w.heap.size + 1 + 1, 0, none⟩ = false := Blk.frozen bz_5004.out 0
  have fz_5021 : (w_5012).frozen? ⟨w.heap.size + 1 + 1, 1, none⟩ = false := Blk.frozen bz_5004.out 1
  have fz_5022 : (w_5012).frozen? ⟨w.heap.size + 1 + 1, 2, none⟩ = false := Blk.frozen bz_5004.out 2
  replace bel_5005 := bH bel_5005 hb_5013
  replace rn_5001 := rH rn_5001 hb_5013
  replace ro_5002 := rH ro_5002 hb_5013
  by_cases hq : q = 0
  · subst hq
    have HK := Lib.hid (And.intro bel_5005.out (And.intro bz_5004.out (And.intro rn_5001.out ro_5002.out)))
    go_wp2
    obtain ⟨bel_, bz_, rn_, ro_⟩ := HK.out
    have hlb_ := Blk.lt bz_
    refine bodyPost_ret (v := .tuple #[.agg #[.int .i64 c, .slice A5 (n + 1) c5, .slice B m j], .int .i64 0]) (by simp [results, Tryz.results19, go_sem, z_5014, z_5015, z_5016, z_5017, z_5018, z_5019, fz_5020, fz_5021, fz_5022]) rfl ?_
    exact ⟨A5, n + 1, c5, B, m, j, rfl, rdB_setN (rdB_setN (rdB_setN (rn_) ⟨w.heap.size + 1 + 1, 0, none⟩ (.int .i64 c) (bz_) (by intro j x; rcases j with _ | _ | j <;> simp)) ⟨w.heap.size + 1 + 1, 1, none⟩ (.slice A5 (n + 1) c5) (Blk.set_ (bz_) 0 (.int .i64 c)) (by intro j x; rcases j with _ | _ | j <;> simp)) ⟨w.heap.size + 1 + 1, 2, none⟩ (.slice B m j) (Blk.set_ (Blk.set_ (bz_) 0 (.int .i64 c)) 1 (.slice A5 (n + 1) c5)) (by intro j x; rcases j with _ | _ | j <;> simp), rdB_setN (rdB_setN (rdB_setN (ro_) ⟨w.heap.size + 1 + 1, 0, none⟩ (.int .i64 c) (bz_) (by intro j x; rcases j with _ | _ | j <;> simp)) ⟨w.heap.size + 1 + 1, 1, none⟩ (.slice A5 (n + 1) c5) (Blk.set_ (bz_) 0 (.int .i64 c)) (by intro j x; rcases j with _ | _ | j <;> simp)) ⟨w.heap.size + 1 + 1, 2, none⟩ (.slice B m j) (Blk.set_ (Blk.set_ (bz_) 0 (.int .i64 c)) 1 (.slice A5 (n + 1) c5)) (by intro j x; rcases j with _ | _ | j <;> simp), by unfold maxLen; omega, hm, (by have hsz_ := Below.size bel_; repeat' (first | with_reducible exact bel_ | with_reducible exact Below.refl _ _ | with_reducible refine Below.alloc ?_ ?_ _ | with_reducible refine Below.setCell ?_ ?_ _ | with_reducible refine Below.drew ?_ | with_reducible refine below_setRow ?_ ?_ _ | omega | (simp; done) | (simp; omega)))⟩
  · have hne : (q != 0) = true := by simpa using hq
    have HQ := Lib.hid hq; clear hq
    have hlb_ := Blk.lt bz_5004.out
    have HK := Lib.hid (bel_5005.out)
    go_wp2
    have bel_ := HK.out
    refine bodyPost_ret (v := .tuple #[.agg #[.int .i64 0, .slice none 0 0, .slice none 0 0], .int .i64 q]) (by simp [results, Tryz.results19, go_sem, z_5014, z_5015, z_5016, z_5017, z_5018, z_5019, fz_5020, fz_5021, fz_5022]) rfl ?_
    exact ⟨none, 0, 0, none, 0, 0, by first | rfl | rw [if_neg HQ.out], by first | exact RdB.nil_ _ | (rw [if_neg HQ.out]; exact RdB.nil_ _), by first | exact RdB.nil_ _ | (rw [if_neg HQ.out]; exact RdB.nil_ _), by unfold maxLen; omega, by unfold maxLen; omega, (by have hsz_ := Below.size bel_; repeat' (first | with_reducible exact bel_ | with_reducible exact Below.refl _ _ | with_reducible refine Below.alloc ?_ ?_ _ | with_reducible refine Below.setCell ?_ ?_ _ | with_reducible refine Below.drew ?_ | with_reducible refine below_setRow ?_ ?_ _ | omega | (simp; done) | (simp; omega)))⟩
theorem rWith3_any (c : Int) (A B : Option Addr) (n k m j : Nat) (ws ts : List Bnd) (w : World) (h1 : RdB w A n k ws) (h2 : RdB w B m j ts) (hn : n ≤ maxLen) (hm : m ≤ maxLen) (u : Bool) (f t mm ib : Int) : Calls Tryz.prog 19 #[.agg #[.int .i64 c, .slice A n k, .slice B m j], .bool u, .agg #[.int .i64 f, .int .i64 t, .int .i64 mm, .int .i64 ib]] w (RetO (withE u ⟨c, ws, ts⟩ ⟨f, t, mm, ib⟩) (withO u ⟨c, ws, ts⟩ ⟨f, t, mm, ib⟩) w) := by
 unfold withE
 by_cases h0 : chkO ⟨c, ws, ts⟩ = 0
 · rw [if_neg (by simpa using h0)]
   obtain ⟨-, -, k1, k2⟩ := chkO_ok h0
   have l1 := (chk_ok k1).2.2.1
   have l2 := (chk_ok k2).2.2.1
   cases u
   · exact rWith_w c A B n k m j ws ts w h1 h2 hn hm f t mm ib (Lib.hid l1) (Lib.hid l2) _ (Lib.hid h0) (Lib.hid rfl)
   · exact rWith_t c A B n k m j ws ts w h1 h2 hn hm f t mm ib (Lib.hid l1) (Lib.hid l2) _ (Lib.hid h0) (Lib.hid rfl)
 · rw [if_pos h0]
   exact rWith_err u c A B n k m j ws ts w h1 h2 hn hm f t mm ib _ (by simpa using h0) (Lib.hid h0) _ (Lib.hid rfl)
end Go.Proofs.YtaoanagmgheicaaGreat
