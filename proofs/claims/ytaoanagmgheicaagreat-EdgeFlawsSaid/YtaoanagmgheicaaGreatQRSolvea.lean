import Derived.Deep.DeepCutAuto
import Derived.Laws.AppendOwnNone
import Derived.Lib.SmallJoins
import Derived.Maps.OwnIn
import Derived.Shelf.SlIterI.Nil
import Derived.Shelf.Slices.Reverse
import Derived.Shelf.SortM.Plain
import Derived.Shelf.SortM.SortNone
import Derived.Sort.OwnSortedInts
import Derived.Test.YtaoanagmgheicaaGreatQCloseda
import Derived.Test.YtaoanagmgheicaaGreatQClosed
import Derived.Test.YtaoanagmgheicaaGreatQRef
import Derived.Test.YtaoanagmgheicaaGreatQSumsa
set_option maxHeartbeats 4000000
set_option linter.unusedSimpArgs false
set_option linter.unusedVariables false
namespace Go.Proofs.YtaoanagmgheicaaGreat
open Go.RowKit
def OkP (p : Nat) (l : List Bnd) : Prop := ∀ c ∈ l, 0 ≤ c.f ∧ c.f < p ∧ 0 ≤ c.t ∧ c.t < p ∧ c.f ≠ c.t ∧ -100000000 ≤ c.m ∧ c.m ≤ 100000000
theorem okP_of {p : Int} {l : List Bnd} (hk : chk p l = 0) : OkP p.toNat l := fun c hc => by have := edges60 hk c hc; omega
def solL (l : List Bnd) (p : Nat) : List Int := ((settle l p zeros).map (·.take p)).getD []
theorem at_repl {p : Nat} {x : Int} {v : Nat} (hv : v < p) : at_ (List.replicate p x) v = x := by
 simp [at_, List.getD_eq_getElem?_getD, hv]
theorem at_take {x : List Int} {v n : Nat} (hv : v < n) : at_ (x.take n) v = at_ x v := by
 simp [at_, List.getD_eq_getElem?_getD, List.getElem?_take, hv]
theorem rsolve_eq {p : Nat} {l : List Bnd} (hp1 : 1 ≤ p) (hp : p ≤ 60) (he : OkP p l) : rsums 1000000000 l (p + 1) (List.replicate p 0) = (settle l p zeros).map (·.take p) := by
 have hg : ∀ c ∈ l, c.f.toNat < p ∧ c.t.toNat < p := fun c hc => by have := he c hc; omega
 cases hz : settle l p zeros with
 | some z =>
  obtain ⟨hst, hzz, hl, hle⟩ := stable_settle hg (by rw [zeros_length]; omega) hz
  rw [zeros_length] at hl
  obtain ⟨k, -, e, hfix⟩ := settle_some hz
  have hlim := limit_soon (l := l) (x := zeros) hp1 hg (by rw [zeros_length]; omega) (fun v => by rw [at_zeros]; unfold Inf; omega) (n := k) (by rw [← e]; exact hfix)
  rw [← e] at hlim
  have h0 : ∀ v, at_ z v ≤ 0 := fun v => by have := hle v; rw [at_zeros] at this; exact this
  obtain ⟨y, h1, h2, h3⟩ := rsums_eq (far := 1000000000) (l := l) (p := p) (x := zeros) (y := List.replicate p 0) hp1 hg (by rw [zeros_length]; omega) (by simp) (fun v hv => by rw [at_repl hv, at_zeros]; unfold conv Inf; rw [if_neg (by omega)]) (fun k v _ _ _ => by have := rounds_le0 l zeros v k; rw [at_zeros] at this; omega) (by unfold Inf; omega) (by rw [hlim]; exact hzz)
  rw [h1, Option.map_some]
  congr 1
  apply ext_at (by rw [h2, List.length_take]; omega)
  intro v hv
  rw [h2] at hv
  rw [h3 v hv, hlim, at_take hv]
  unfold conv
  rw [if_neg (by have := h0 v; unfold Inf; omega)]
 | none =>
  cases hr : rsums 1000000000 l (p + 1) (List.replicate p 0) with
  | none => rfl
  | some y =>
   exfalso
   obtain ⟨k, -, e, hfix⟩ := rsums_some hr
   have hlen : y.length = p := by rw [e, rrounds_length, List.length_replicate]
   have hle : ∀ k v, at_ (rrounds 1000000000 l k (List.replicate p 0)) v ≤ 0 := by
    intro k
    induction k with
    | zero =>
     intro v
     by_cases hv : v < p
     · show at_ (List.replicate p 0) v ≤ 0; rw [at_repl hv]; exact Int.le_refl _
     · show at_ (List.replicate p 0) v ≤ 0; rw [at_out (by simp; omega)]; exact Int.le_refl _
    | succ k ih => intro v; exact Int.le_trans (rfold_le _ _ _ _) (ih v)
   have h0 : ∀ v, at_ y v ≤ 0 := fun v => by rw [e]; exact hle k v
   have hst : Stable l y := fun c hc _ => by
    have := rfold_edge 1000000000 (c := c) (A := at_ y c.f.toNat) (by have := h0 c.f.toNat; omega) l y hc (Int.le_refl _) (by rw [hlen]; exact (hg c hc).2)
    have hf : l.foldl (rrelax 1000000000) y = y := hfix
    rw [hf] at this
    exact this
   obtain ⟨h, -⟩ := settle_of_stable (p := p) (x := zeros) (y := y) hp1 hg (by rw [zeros_length]; omega) (fun v => by rw [at_zeros]; unfold Inf; omega) hst (fun v => by rw [at_zeros]; exact h0 v)
   rw [hz] at h
   cases h
end Go.Proofs.YtaoanagmgheicaaGreat
set_option linter.unusedSimpArgs false
set_option linter.unusedVariables false
namespace Go.Proofs.YtaoanagmgheicaaGreat
open Go.RowKit
theorem wp_make_ints {w : World} {o : Oper} {a : Act} {K : Act → World → Prop} {Q : Exit → Act → World → Prop}
 (l c : Operand) (hop : o.op = Op.makeSlice 31 l c) (L C : Int) (n : Nat) (hl : a.eval l = .int .i64 L) (hc : a.eval c = .int .i64 C) (hL : L = (n : Int)) (hC : C = (n : Int)) (hn : n ≤ 100000)
 (hK : K (a.put o.dst (.slice (some ⟨w.heap.size, 0, none⟩) n n)) (w.alloc (.cells (arr (List.replicate n 0)) 3))) : o.wp Tryz.prog a w K Q := by
 subst hL hC
 obtain ⟨i, hi, hz, hs, hb⟩ := info_parts (show (Tryz.prog.info? 3).map (fun i => (i.zero, i.size, i.bytes)) = some (some (.int .i64 0), 1, 8) by kernel_rfl)
 have hrun := run_make_row (P := Tryz.prog) 31 3 i _ Tryz.underlying31 hi hz hs rfl .i64 .i64 n (by rw [hb]; omega) (by omega) w
 rw [made_arr] at hrun
 unfold Oper.wp
 simp [execOp, hop, hl, hc, hrun, Result.andThen]
 exact hK
theorem bd_repl {p : Nat} {x : Int} (h1 : -1000000000000 ≤ x) (h2 : x ≤ 1000000000000) : Bd 0 (List.replicate p x) := fun v hv => by
 rw [List.length_replicate] at hv
 rw [at_repl hv]; omega
theorem sums_solve (p : Nat) (A : Option Addr) (n c g : Nat) (l : List Bnd) (w : World) (hr : RdB w A n c l) (hn400 : n ≤ 402) (hp1 : 1 ≤ p) (hp : p ≤ 60) (he : OkP p l) (hq : RdI w (some ⟨g, 0, none⟩) p p (List.replicate p 0)) :
 Calls Tryz.prog 158 #[.agg #[.int .i64 (p : Int), .slice A n c], .slice (some ⟨g, 0, none⟩) p p, .int .i64 1000000000] w (RetB (solL l p) (settle l p zeros).isSome w) := by
 have h := sums_any p 1000000000 A (some ⟨g, 0, none⟩) n c p p l (List.replicate p 0) w hr hn400 he hp1 hp hq (by simp) (bd_repl (by omega) (by omega)) (by omega) (by omega)
 rw [rsolve_eq hp1 hp he] at h
 unfold solL
 cases hz : settle l p zeros <;> rw [hz] at h <;> exact h
set_option maxRecDepth 100000 in
theorem rsolve_any (p : Nat) (A : Option Addr) (n c : Nat) (l : List Bnd) (w : World) (hr : RdB w A n c l) (hn400 : n ≤ 402) (hp1 : 1 ≤ p) (hp : p ≤ 60) (he : OkP p l) :
 Calls Tryz.prog 151 #[.agg #[.int .i64 (p : Int), .slice A n c]] w (RetB (solL l p) (settle l p zeros).isSome w) := by
 have HE := Lib.hid he; clear he
 have hB : Below w.heap.size w (w.alloc (.cells #[.int .i64 (p : Int), .slice A n c] 46)) := (Below.refl _ w).alloc (Nat.le_refl _) _
 have B0 := Lib.hid (Blk.drew (Blk.new w 46 #[.int .i64 (p : Int), .slice A n c]))
 have RD := Lib.hid (RdB.drew (hr.below hB))
 have BE := Lib.hid (Below.drew hB)
 clear hr
 go_enter Tryz.func151, Tryz.ntmps151
 go_wp2_with fail
 generalize w.alloc (.cells #[.int .i64 (p : Int), .slice A n c] 46) = W0 at *
 refine wp_region_held_drew (S := (fun W' => Blk W' w.heap.size 46 #[.int .i64 (p : Int), .slice A n c])) (by kernel_rfl) B0.out (fun _ => ?_)
 obtain ⟨w240, hw241⟩ : ∃ w', w' = W0.drew := ⟨_, rfl⟩
 rw [← hw241] at B0 BE RD
 rw [← hw241]
 clear hw241
 refine' tkH 0 B0.out ?hyR242 ?_
 case hyR242 => (rintro W' hS0; have hc0 := Blk.nth hS0 0; have hc1 := Blk.nth hS0 1; clear hS0; go_simp; try with_reducible rfl)
 refine' twH 1 B0.out ?_
 refine' tkH 2 B0.out ?hyR244 ?_
 case hyR244 => (rintro W' hS0; have hc0 := Blk.nth hS0 0; clear hS0; go_simp; try with_reducible rfl)
 try simp only [Act.put, qsA, qsZ, qsS]
 refine oneH 3 rfl fun K hK => ?_
 refine wp_make_ints _ _ rfl _ _ p rfl rfl rfl rfl (by omega) ?_
 have ne249 := Lib.hid (Nat.ne_of_lt (Blk.lt B0.out))
 have lb250 := Lib.hid (BE.out.size)
 obtain ⟨o_, ho_⟩ : ∃ o, o = (.cells (arr (List.replicate p 0)) 3 : Obj) := ⟨_, rfl⟩
 replace B0 := kA B0 o_
 replace BE := bA BE o_
 replace RD := rA RD o_
 subst ho_
 have mk_251 := Lib.hid (Blk.new (w240) 3 (arr (List.replicate p 0)))
 obtain ⟨g245, hg246⟩ : ∃ g, g = (w240).heap.size := ⟨_, rfl⟩
 obtain ⟨w247, hw248⟩ : ∃ w', w' = (w240).alloc (.cells (arr (List.replicate p 0)) 3) := ⟨_, rfl⟩
 rw [← hw248] at B0 BE RD mk_251
 rw [← hg246] at ne249 lb250 mk_251
 rw [← hg246, ← hw248]
 clear hg246 hw248
 refine hK.out _ _ B0.out (fun _ => ?_); clear hK K
 try simp only [Act.put, qsA, qsZ, qsS]
 refine oneH 4 rfl fun K hK => ?_
 have hq_ := (OwnI.rd (own_of_blk (base := 0) (n := p) mk_251.out (Nat.zero_le _) (by simp) (by unfold maxLen; omega))).1
 go_simp
 go_at_call 158
 refine (sums_solve p A n c g245 l _ RD.out hn400 hp1 hp HE.out hq_).mono ?_
 rintro e w252 ⟨A2, n2, c2, rfl, ho, hb253⟩
 dsimp only
 have HO := Lib.hid (owns_base ho (BE.out.size)); clear ho hq_
 replace hb253 := Lib.hid hb253
 replace B0 := kH B0 hb253
 refine hK.out _ _ B0.out (fun _ => ?_); clear hK K
 try simp only [Act.put, qsA, qsZ, qsS]
 refine' twH 5 B0.out ?_
 refine' twH 6 B0.out ?_
 refine' twH 7 B0.out ?_
 refine' twH 8 B0.out ?_
 try simp only [Act.put, qsA, qsZ, qsS]
 refine wpAnyH_done (by kernel_rfl) ?_ _
 replace BE := bH BE hb253
 go_wp2
 go_ret2
 exact ⟨A2, n2, c2, rfl, HO.out, BE.out⟩
set_option maxRecDepth 100000 in
theorem rSolve_no (P : Int) (A : Option Addr) (n k : Nat) (l : List Bnd) (w : World) (hr : RdB w A n k l) (hn : n ≤ maxLen) (q : Int) (hq : (q != 0) = true) (E0 : Hid (chk P l = q)) :
 Calls Tryz.prog 126 #[.agg #[.int .i64 P, .slice A n k]] w (RetI ([], false, q) w) := by
 go_enter Tryz.func126, Tryz.ntmps126
 have bel_1 := Lib.hid (show Below w.heap.size w w from Below.refl _ w)
 have rd_2 := Lib.hid (hr)
 clear hr
 obtain ⟨o_, ho_⟩ : ∃ o, o = ((.cells #[.int .i64 P, .slice A n k] 46) : Obj) := ⟨_, rfl⟩
 replace bel_1 := bA bel_1 o_
 replace rd_2 := rA rd_2 o_
 subst ho_
 have srd_3 := Lib.hid (Blk.new w 46 #[.int .i64 P, .slice A n k])
 have hc := rCheckSystem_any P A n k l _ rd_2.out hn
 rw [E0.out] at hc
 try dsimp only at hc
 have HC := Lib.hid hc; clear hc
 go_wp2_with fail
 refine HC.out.mono ?_
 rintro e w_4 ⟨rfl, hb⟩
 clear HC
 have hb_5 := Lib.hid hb
 clear hb
 replace srd_3 := kH srd_3 hb_5
 have z_6 : (w_4).cell? ⟨w.heap.size, 0, none⟩ = some (.int .i64 P) := Blk.cell srd_3.out 0
 have z_7 : (w_4).cell? ⟨w.heap.size, 1, none⟩ = some (.slice A n k) := Blk.cell srd_3.out 1
 go_wp2
 go_ret3
 replace bel_1 := bH bel_1 hb_5
 exact ⟨none, 0, 0, rfl, OwnI.nil_ _ _, bel_1.out⟩
set_option maxRecDepth 100000 in
theorem rSolve_yes (p : Nat) (A : Option Addr) (n k : Nat) (l : List Bnd) (w : World) (hr : RdB w A n k l) (hn : n ≤ maxLen) (hn4 : n ≤ 402) (hp1 : 1 ≤ p) (hp : p ≤ 60) (HE : Hid (OkP p l)) (E0 : Hid (chk p l = 0)) :
 Calls Tryz.prog 126 #[.agg #[.int .i64 (p : Int), .slice A n k]] w (RetI (solL l p, (settle l p zeros).isSome, 0) w) := by
 go_enter Tryz.func126, Tryz.ntmps126
 have bel_1 := Lib.hid (show Below w.heap.size w w from Below.refl _ w)
 have rd_2 := Lib.hid (hr)
 clear hr
 obtain ⟨o_, ho_⟩ : ∃ o, o = ((.cells #[.int .i64 (p : Int), .slice A n k] 46) : Obj) := ⟨_, rfl⟩
 replace bel_1 := bA bel_1 o_
 replace rd_2 := rA rd_2 o_
 subst ho_
 have srd_3 := Lib.hid (Blk.new w 46 #[.int .i64 (p : Int), .slice A n k])
 have hc := rCheckSystem_any p A n k l _ rd_2.out hn
 rw [E0.out] at hc
 try dsimp only at hc
 have HC := Lib.hid hc; clear hc
 go_wp2_with fail
 refine HC.out.mono ?_
 rintro e w_4 ⟨rfl, hb⟩
 clear HC
 have hb_5 := Lib.hid hb
 clear hb
 replace srd_3 := kH srd_3 hb_5
 have z_6 : (w_4).cell? ⟨w.heap.size, 0, none⟩ = some (.int .i64 (p : Int)) := Blk.cell srd_3.out 0
 have z_7 : (w_4).cell? ⟨w.heap.size, 1, none⟩ = some (.slice A n k) := Blk.cell srd_3.out 1
 go_wp2_with fail
 replace rd_2 := rH rd_2 hb_5
 have hc := rsolve_any p A n k l _ rd_2.out hn4 hp1 hp HE.out
 unfold RetB at hc
 have HC := Lib.hid hc; clear hc
 refine HC.out.mono ?_
 rintro e w9 ⟨A2, n2, c2, rfl, ho, hb⟩
 clear HC
 replace bel_1 := bH bel_1 hb_5
 have HO := Lib.hid (owns_base ho (bel_1.out.size))
 clear z_6 z_7
 have hb_8 := Lib.hid hb
 clear ho hb
 go_wp2
 go_ret3
 replace bel_1 := bH bel_1 hb_8
 exact ⟨A2, n2, c2, rfl, HO.out, bel_1.out⟩
theorem solveV_eq {p : Nat} {l : List Bnd} (hk : chk p l = 0) : solveV p l = (solL l p, (settle l p zeros).isSome, 0) := by
 have hg : gcode p l [] = 0 := by unfold gcode; simp [hk]
 unfold solveV solL
 rw [if_pos hg, Int.toNat_natCast]
 cases settle l p zeros <;> rfl
theorem rSolve_any (P : Int) (A : Option Addr) (n k : Nat) (l : List Bnd) (w : World) (hr : RdB w A n k l) (hn : n ≤ maxLen) : Calls Tryz.prog 126 #[.agg #[.int .i64 P, .slice A n k]] w (RetI (solveV P l) w) := by
 by_cases hk : chk P l = 0
 · obtain ⟨hp1, hp2, hlen, -⟩ := chk_ok hk
   have he := okP_of hk
   obtain ⟨p, rfl⟩ := Int.eq_ofNat_of_zero_le (show 0 ≤ P by omega)
   rw [Int.toNat_natCast] at he
   rw [solveV_eq hk]
   exact rSolve_yes p A n k l w hr hn (by have := hr.len; omega) (by omega) (by omega) (Lib.hid he) (Lib.hid hk)
 · have hg : ¬ gcode P l [] = 0 := by unfold gcode; rw [if_neg hk]; exact hk
   have hv : solveV P l = ([], false, chk P l) := by unfold solveV; rw [if_neg hg]; unfold gcode; rw [if_neg hk]
   rw [hv]
   exact rSolve_no P A n k l w hr hn (chk P l) (by simpa using hk) (Lib.hid rfl)
end Go.Proofs.YtaoanagmgheicaaGreat
