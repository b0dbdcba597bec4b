import Derived.Test.YtjjmifcjailpaaaGreatTClosed
import Derived.Test.YtjjmifcjailpaaaGreatTRWalkac
import Derived.Deep.DeepCutAuto
import Derived.Deep.OwnRows
import Derived.Great.BuildSlice
import Derived.Laws.AppendOwnNone
import Derived.Lib.SmallJoins
import Derived.Maps.OwnIn
import Derived.RangeFuncNested
import Derived.Shelf.SlIterI.Nil
import Derived.Shelf.Slices.Reverse
import Derived.Shelf.SortM.Plain
import Derived.Shelf.SortM.SortNone
import Derived.Sort.OwnSortedInts
import Derived.Test.YtjjmifcjailpaaaGreatTMem
import Derived.Test.YtjjmifcjailpaaaGreatTRefacd
import Derived.Deep.AppendLies
import Derived.Test.YtjjmifcjailpaaaGreatTEPub
import Derived.Test.YtjjmifcjailpaaaGreatTERefCacd
set_option maxHeartbeats 4000000
set_option linter.unusedSimpArgs false
set_option linter.unusedVariables false
namespace Go.Proofs.YtjjmifcjailpaaaGreat
open Go.RowKit
def frL (l : List Bnd) (x : List Int) : List Int := x.map (fun i => (bnd l i).f)
def toL (l : List Bnd) (x : List Int) : List Int := x.map (fun i => (bnd l i).t)
def lastT (l : List Bnd) (x : List Int) : Int := (bnd l (at_ x (x.length - 1))).t
theorem bnd_of {l : List Bnd} {i : Int} {b : Bnd} (h : l[i.toNat]? = some b) : bnd l i = b := by unfold bnd; rw [List.getD_eq_getElem?_getD, h]; rfl
def qNe (q : Option Int) (f : Int) : Bool := match q with | some t => decide (t ≠ f) | none => false
theorem chainG_in {l : List Bnd} {i : Int} {b : Bnd} {r : List Int} {L : List Bool} {q : Option Int} {s : Int} (h0 : 0 ≤ i) (h : l[i.toNat]? = some b) {g : Bool} (hg : qNe q b.f = g) :
 chainG l (i :: r) L q s = if (atB L b.f.toNat || g) = true then (0, false) else chainG l r (L.set b.f.toNat true) (some b.t) (s + b.m) := by
 have hk := (List.getElem?_eq_some_iff.1 h).1
 subst hg
 rw [chainG, if_pos (by omega)]
 simp only [h]
 cases q <;> rfl
theorem chainG_out {l : List Bnd} {i : Int} {r : List Int} {L : List Bool} {q : Option Int} {s : Int} (h : ¬ (0 ≤ i ∧ i < l.length)) : chainG l (i :: r) L q s = (0, false) := by
 rw [chainG, if_neg (by omega)]
theorem atB_same (L : List Bool) (i : Nat) (h : i < L.length) : atB (L.set i true) i = true := by
 simp [atB, List.getD_eq_getElem?_getD, h]
theorem walkR_chain {l : List Bnd} (hok : OkB l) : ∀ (x F T : List Int) (L : List Bool) (q : Option Int) (s : Int), L.length = 60 → (∀ v : Int, 0 ≤ v → v < 60 → F.contains v = atB L v.toNat) → T.getLast? = q → T.Nodup →
 walkR l x F T s = if (chainG l x L q s).2 = true ∧ (T ++ toL l x).Nodup then chainG l x L q s else (0, false)
 | [], F, T, L, q, s, _, _, _, hT => by
  rw [show toL l [] = [] from rfl, List.append_nil, if_pos ⟨rfl, hT⟩]
  rfl
 | i :: r, F, T, L, q, s, hL, hF, hq, hT => by
  by_cases hi : 0 ≤ i ∧ i < l.length
  · obtain ⟨k, rfl⟩ := Int.eq_ofNat_of_zero_le hi.1
    obtain ⟨b, hb⟩ : ∃ b, l[k]? = some b := ⟨l[k]'(by omega), List.getElem?_eq_getElem _⟩
    obtain ⟨f0, f1, -, -, -, -⟩ := hok b (List.mem_of_getElem? hb)
    have hb' : l[(k : Int).toNat]? = some b := by rw [Int.toNat_natCast]; exact hb
    have hln : qNe q b.f = lastNe T b.f := by rw [← hq]; rfl
    rw [walkR_in hb, chainG_in hi.1 hb' hln, hF b.f f0 f1]
    by_cases hc : (atB L b.f.toNat || lastNe T b.f) = true
    · have hW : (atB L b.f.toNat || T.contains b.t || lastNe T b.f) = true := by
       rw [Bool.or_eq_true] at hc
       rcases hc with h | h
       · rw [h]; rfl
       · rw [h, Bool.or_true]
      rw [if_pos hc, if_pos hW]
      exact (if_neg (fun h => by cases h.1)).symm
    · rw [if_neg hc]
      have htl : toL l ((k : Int) :: r) = b.t :: toL l r := by unfold toL; rw [List.map_cons, bnd_of hb']
      rw [htl]
      by_cases ht : T.contains b.t = true
      · rw [if_pos (show (atB L b.f.toNat || T.contains b.t || lastNe T b.f) = true from by rw [ht]; simp), if_neg (by
         rintro ⟨_, h⟩
         rw [List.nodup_append] at h
         exact h.2.2 b.t (by simpa using ht) b.t (List.mem_cons_self ..) rfl)]
      · have ht' : T.contains b.t = false := by simpa using ht
        simp only [Bool.not_eq_true, Bool.or_eq_false_iff] at hc
        rw [if_neg (show ¬ (atB L b.f.toNat || T.contains b.t || lastNe T b.f) = true from by rw [hc.1, ht', hc.2]; simp)]
        have ih := walkR_chain hok r (F ++ [b.f]) (T ++ [b.t]) (L.set b.f.toNat true) (some b.t) (s + b.m) (by rw [List.length_set]; exact hL) (fun v v0 v1 => by
         by_cases hv : v = b.f
         · subst hv
           rw [atB_same _ _ (by omega)]
           simp
         · rw [atB_set _ _ _ (by omega), ← hF v v0 v1]
           simp [hv]) (by simp) (by
         rw [List.nodup_append]
         exact ⟨hT, by simp, fun a ha c hc2 => by
          rw [List.mem_singleton] at hc2
          subst hc2
          intro e
          subst e
          exact ht (by simpa using ha)⟩)
        rw [ih, List.append_assoc]
        rfl
  · rw [walkR_out hi, chainG_out hi, if_neg (by rintro ⟨h, _⟩; cases h)]
theorem walkR_eq {l : List Bnd} (hok : OkB l) (x : List Int) : walkR l x [] [] 0 = if (chainV l x).2 = true ∧ (toL l x).Nodup then chainV l x else (0, false) := by
 have := walkR_chain hok x [] [] noB none 0 rfl (fun v _ _ => by rw [noB_at]; rfl) rfl List.nodup_nil
 rw [List.nil_append] at this
 exact this
theorem chain_lists {l : List Bnd} (hok : OkB l) : ∀ {x : List Int} {L : List Bool} {q : Option Int} {s z : Int}, L.length = 60 → chainG l x L q s = (z, true) →
 (frL l x).Nodup ∧ (∀ v ∈ frL l x, 0 ≤ v ∧ v < 60 ∧ atB L v.toNat = false) ∧ (x ≠ [] → toL l x = (frL l x).tail ++ [lastT l x]) ∧ (∀ t, q = some t → x ≠ [] → (frL l x).head? = some t)
 | [], _, _, _, _, _, _ => ⟨List.nodup_nil, (by intro v hv; simp [frL] at hv), fun h => absurd rfl h, fun _ _ h => absurd rfl h⟩
 | i :: r, L, q, s, z, hL, h => by
  by_cases hi : 0 ≤ i ∧ i < l.length
  · obtain ⟨k, rfl⟩ := Int.eq_ofNat_of_zero_le hi.1
    obtain ⟨b, hb⟩ : ∃ b, l[k]? = some b := ⟨l[k]'(by omega), List.getElem?_eq_getElem _⟩
    obtain ⟨f0, f1, -, -, -, -⟩ := hok b (List.mem_of_getElem? hb)
    have hb' : l[(k : Int).toNat]? = some b := by rw [Int.toNat_natCast]; exact hb
    obtain ⟨g, hg⟩ : ∃ g, qNe q b.f = g := ⟨_, rfl⟩
    rw [chainG_in hi.1 hb' hg] at h
    by_cases hc : (atB L b.f.toNat || g) = true
    · rw [if_pos hc] at h; injection h with _ h; cases h
    · rw [if_neg hc] at h
      simp only [Bool.not_eq_true, Bool.or_eq_false_iff] at hc
      obtain ⟨h1, h2, h3, h4⟩ := chain_lists hok (by rw [List.length_set]; exact hL) h
      have hfl : frL l ((k : Int) :: r) = b.f :: frL l r := by unfold frL; rw [List.map_cons, bnd_of hb']
      have htl : toL l ((k : Int) :: r) = b.t :: toL l r := by unfold toL; rw [List.map_cons, bnd_of hb']
      rw [hfl, htl]
      refine ⟨?_, ?_, fun _ => ?_, fun t ht _ => ?_⟩
      · rw [List.nodup_cons]
        refine ⟨fun hm => ?_, h1⟩
        have := (h2 _ hm).2.2
        rw [atB_same _ _ (by omega)] at this
        cases this
      · intro v hv
        rcases List.mem_cons.1 hv with rfl | hv
        · exact ⟨f0, f1, hc.1⟩
        · obtain ⟨v0, v1, v2⟩ := h2 v hv
          refine ⟨v0, v1, ?_⟩
          by_cases e : v = b.f
          · subst e; exact hc.1
          · rw [atB_set _ _ _ (by omega)] at v2; exact v2
      · by_cases hr : r = []
        · subst hr
          show [b.t] = [lastT l [(k : Int)]]
          unfold lastT
          rw [show at_ [(k : Int)] ([(k : Int)].length - 1) = (k : Int) from rfl, bnd_of hb']
        · have e1 := h3 hr
          have e2 := h4 _ rfl hr
          have e3 : lastT l ((k : Int) :: r) = lastT l r := by
           unfold lastT
           obtain ⟨j, r', rfl⟩ := List.exists_cons_of_ne_nil hr
           simp [at_]
          rw [e3, e1, List.tail_cons]
          obtain ⟨y, ys, hy⟩ := List.exists_cons_of_ne_nil (show frL l r ≠ [] from by unfold frL; simpa using hr)
          rw [hy] at e2 ⊢
          rw [List.head?_cons] at e2
          injection e2 with e2
          rw [List.tail_cons, e2]
          rfl
      · subst ht
        rw [List.head?_cons]
        rw [← hg] at hc
        unfold qNe at hc
        simp only [ne_eq, decide_eq_false_iff_not, Decidable.not_not] at hc
        rw [hc.2]
  · rw [chainG_out hi] at h; injection h with _ h; cases h
theorem fr_head {l : List Bnd} {x : List Int} (hx : x ≠ []) : frL l x = (bnd l (at_ x 0)).f :: (frL l x).tail := by
 obtain ⟨i, r, rfl⟩ := List.exists_cons_of_ne_nil hx
 rfl
def rcircV (l : List Bnd) (x : List Int) : Bool := (walkR l x [] [] 0).2 && decide (2 ≤ x.length) && decide ((walkR l x [] [] 0).1 < 0) && decide ((bnd l (at_ x 0)).f = lastT l x)
theorem rcirc_eq {p : Int} {l : List Bnd} {x : List Int} (hk : chk p l = 0) : checkCircleV p l x = (rcircV l x, 0) := by
 have hok := okB_of hk
 have hg : gcode p l [] = 0 := by unfold gcode; simp [hk]
 unfold checkCircleV rcircV
 rw [if_pos hg, walkR_eq hok]
 obtain ⟨V, hV⟩ : ∃ V, chainV l x = V := ⟨_, rfl⟩
 obtain ⟨s, ok⟩ := V
 rw [hV]
 cases ok
 · simp
 · by_cases h2 : x.length < 2
   · simp [h2]; omega
   · have hx : x ≠ [] := fun e => by rw [e] at h2; exact h2 (by decide)
     obtain ⟨l1, l2, l3, -⟩ := chain_lists hok rfl (show chainG l x noB none 0 = (s, true) from hV)
     rw [if_neg (by simp), if_neg h2]
     by_cases hcl : lastT l x = (bnd l (at_ x 0)).f
     · have hnd : (toL l x).Nodup := by
        rw [l3 hx, hcl]
        refine ((List.perm_append_singleton _ _).nodup_iff).2 ?_
        rw [← fr_head hx]; exact l1
       rw [if_pos ⟨rfl, hnd⟩]
       unfold lastT at hcl
       simp only [hcl]
       unfold lastT
       simp only [hcl]
       simp
       omega
     · have h3 : ¬ (bnd l (at_ x (x.length - 1))).t = (bnd l (at_ x 0)).f := hcl
       have h4 : ¬ (bnd l (at_ x 0)).f = lastT l x := fun e => hcl e.symm
       simp [h3, h4]
end Go.Proofs.YtjjmifcjailpaaaGreat
set_option linter.unusedSimpArgs false
set_option linter.unusedVariables false
namespace Go.Proofs.YtjjmifcjailpaaaGreat
open Go.RowKit
theorem rdB_drewN {w : World} {A : Option Addr} {n c : Nat} {l : List Bnd} (h : RdB w A n c l) (q : Nat) : RdB (w.drewN q) A n c l := ⟨h.len, h.cap, h.nil, h.cells⟩
theorem rdI_drewN {w : World} {A : Option Addr} {n c : Nat} {l : List Int} (h : RdI w A n c l) (q : Nat) : RdI (w.drewN q) A n c l := ⟨h.len, h.cap, h.nil, h.cells⟩
end Go.Proofs.YtjjmifcjailpaaaGreat
/- What endOf answers, part by part; the code of Keeps. -/
namespace Go.Proofs.YtjjmifcjailpaaaGreat
open Go.RowKit
end Go.Proofs.YtjjmifcjailpaaaGreat
set_option linter.unusedSimpArgs false
set_option linter.unusedVariables false
namespace Go.Proofs.YtjjmifcjailpaaaGreat
open Go.RowKit
theorem walk_idx {l : List Bnd} (hok : OkB l) {x : List Int} {s : Int} (h : walkR l x [] [] 0 = (s, true)) : ∀ i ∈ x, ∃ k b, i = Int.ofNat k ∧ l[k]? = some b := by
 rw [walkR_eq hok] at h
 by_cases hc : (chainV l x).2 = true ∧ (toL l x).Nodup
 · rw [if_pos hc] at h
   exact chainG_ok h
 · rw [if_neg hc] at h; injection h with _ h; cases h
theorem walk_no {l : List Bnd} (hok : OkB l) {x : List Int} (h : (walkR l x [] [] 0).2 = false) : walkR l x [] [] 0 = (0, false) := by
 rw [walkR_eq hok] at h ⊢
 by_cases hc : (chainV l x).2 = true ∧ (toL l x).Nodup
 · rw [if_pos hc] at h; rw [hc.1] at h; cases h
 · rw [if_neg hc]
section
variable (P : Int) (A : Option Addr) (n k : Nat) (l : List Bnd) (w : World) (hr : RdB w A n k l) (hn : n ≤ maxLen) (B : Option Addr) (m d : Nat) (x : List Int)
include P A n k l w hr hn B m d x
set_option maxRecDepth 100000 in
theorem rC_err (hx : RdI w B m d x) (hm : m ≤ 100) (q : Int) (hq : (q != 0) = true) (E0 : Hid (chk P l = q)) :
 Calls Tryz.prog 47 #[.agg #[.int .i64 P, .slice A n k], .slice B m d] w fun e w' => e = .returned (.tuple #[.bool false, .int .i64 q]) ∧ Below w.heap.size w w' := by
 go_enter Tryz.func47, Tryz.ntmps47
 have a0 := Lib.hid (show Below w.heap.size w w from Below.refl _ w)
 have a4 := Lib.hid (hx)
 clear hx
 have a2 := Lib.hid (hr)
 clear hr
 obtain ⟨o_, ho_⟩ : ∃ o, o = ((.cells #[.int .i64 P, .slice A n k] 84) : Obj) := ⟨_, rfl⟩
 replace a0 := bA a0 o_
 replace a4 := iA a4 o_
 replace a2 := rA a2 o_
 subst ho_
 have a1 := Lib.hid (Blk.new w 84 #[.int .i64 P, .slice A n k])
 have hc := rCheckSystem_any P A n k l _ a2.out hn
 rw [E0.out] at hc
 try dsimp only at hc
 have HC := Lib.hid hc; clear hc
 go_wp2_with fail
 refine HC.out.mono ?_
 rintro e a5 ⟨rfl, hb⟩
 clear HC
 have a3 := Lib.hid hb
 clear hb
 replace a1 := kH a1 a3
 have a6 : (a5).cell? ⟨w.heap.size, 0, none⟩ = some (.int .i64 P) := Blk.cell a1.out 0
 have a7 : (a5).cell? ⟨w.heap.size, 1, none⟩ = some (.slice A n k) := Blk.cell a1.out 1
 go_wp2
 go_ret2
 replace a0 := bH a0 a3
 exact ⟨rfl, a0.out⟩
set_option maxRecDepth 100000 in
theorem rC_no (hx : RdI w B m d x) (hm : m ≤ 100) (hn4 : n ≤ 402) (HOK : Hid (OkB l)) (E0 : Hid (chk P l = 0)) (E1 : Hid (walkR l x [] [] 0 = (0, false))) :
 Calls Tryz.prog 47 #[.agg #[.int .i64 P, .slice A n k], .slice B m d] w fun e w' => e = .returned (.tuple #[.bool false, .int .i64 0]) ∧ Below w.heap.size w w' := by
 go_enter Tryz.func47, Tryz.ntmps47
 have a1 := Lib.hid (show Below w.heap.size w w from Below.refl _ w)
 have a4 := Lib.hid (hx)
 clear hx
 have a2 := Lib.hid (hr)
 clear hr
 obtain ⟨o_, ho_⟩ : ∃ o, o = ((.cells #[.int .i64 P, .slice A n k] 84) : Obj) := ⟨_, rfl⟩
 replace a1 := bA a1 o_
 replace a4 := iA a4 o_
 replace a2 := rA a2 o_
 subst ho_
 have a0 := Lib.hid (Blk.new w 84 #[.int .i64 P, .slice A n k])
 have hc := rCheckSystem_any P A n k l _ a2.out hn
 rw [E0.out] at hc
 try dsimp only at hc
 have HC := Lib.hid hc; clear hc
 go_wp2_with fail
 refine HC.out.mono ?_
 rintro e a6 ⟨rfl, hb⟩
 clear HC
 have a3 := Lib.hid hb
 clear hb
 replace a0 := kH a0 a3
 have a8 : (a6).cell? ⟨w.heap.size, 0, none⟩ = some (.int .i64 P) := Blk.cell a0.out 0
 have a9 : (a6).cell? ⟨w.heap.size, 1, none⟩ = some (.slice A n k) := Blk.cell a0.out 1
 replace a2 := rH a2 a3
 replace a4 := iH a4 a3
 have hc := rwalk_any P A B n k m d l x _ a2.out hn4 HOK.out a4.out hm
 rw [E1.out] at hc
 try dsimp only at hc
 have HC := Lib.hid hc; clear hc
 go_wp2_with fail
 refine HC.out.mono ?_
 rintro e a7 ⟨rfl, hb⟩
 clear HC
 clear a8 a9
 have a5 := Lib.hid hb
 clear hb
 replace a0 := kH a0 a5
 have b0 : (a7).cell? ⟨w.heap.size, 0, none⟩ = some (.int .i64 P) := Blk.cell a0.out 0
 have b1 : (a7).cell? ⟨w.heap.size, 1, none⟩ = some (.slice A n k) := Blk.cell a0.out 1
 go_wp2
 go_ret2
 replace a1 := bH (bH a1 a3) a5
 exact ⟨rfl, a1.out⟩
set_option maxRecDepth 100000 in
theorem rC_short (hx : RdI w B m d x) (hm : m ≤ 100) (hn4 : n ≤ 402) (HOK : Hid (OkB l)) (E0 : Hid (chk P l = 0)) (s : Int) (E1 : Hid (walkR l x [] [] 0 = (s, true))) (h2 : m < 2) :
 Calls Tryz.prog 47 #[.agg #[.int .i64 P, .slice A n k], .slice B m d] w fun e w' => e = .returned (.tuple #[.bool false, .int .i64 0]) ∧ Below w.heap.size w w' := by
 go_enter Tryz.func47, Tryz.ntmps47
 have a1 := Lib.hid (show Below w.heap.size w w from Below.refl _ w)
 have a4 := Lib.hid (hx)
 clear hx
 have a2 := Lib.hid (hr)
 clear hr
 obtain ⟨o_, ho_⟩ : ∃ o, o = ((.cells #[.int .i64 P, .slice A n k] 84) : Obj) := ⟨_, rfl⟩
 replace a1 := bA a1 o_
 replace a4 := iA a4 o_
 replace a2 := rA a2 o_
 subst ho_
 have a0 := Lib.hid (Blk.new w 84 #[.int .i64 P, .slice A n k])
 have hc := rCheckSystem_any P A n k l _ a2.out hn
 rw [E0.out] at hc
 try dsimp only at hc
 have HC := Lib.hid hc; clear hc
 go_wp2_with fail
 refine HC.out.mono ?_
 rintro e a6 ⟨rfl, hb⟩
 clear HC
 have a3 := Lib.hid hb
 clear hb
 replace a0 := kH a0 a3
 have a8 : (a6).cell? ⟨w.heap.size, 0, none⟩ = some (.int .i64 P) := Blk.cell a0.out 0
 have a9 : (a6).cell? ⟨w.heap.size, 1, none⟩ = some (.slice A n k) := Blk.cell a0.out 1
 replace a2 := rH a2 a3
 replace a4 := iH a4 a3
 have hc := rwalk_any P A B n k m d l x _ a2.out hn4 HOK.out a4.out hm
 rw [E1.out] at hc
 try dsimp only at hc
 have HC := Lib.hid hc; clear hc
 go_wp2_with fail
 refine HC.out.mono ?_
 rintro e a7 ⟨rfl, hb⟩
 clear HC
 clear a8 a9
 have a5 := Lib.hid hb
 clear hb
 replace a0 := kH a0 a5
 have b0 : (a7).cell? ⟨w.heap.size, 0, none⟩ = some (.int .i64 P) := Blk.cell a0.out 0
 have b1 : (a7).cell? ⟨w.heap.size, 1, none⟩ = some (.slice A n k) := Blk.cell a0.out 1
 go_wp2
 go_ret2
 replace a1 := bH (bH a1 a3) a5
 exact ⟨rfl, a1.out⟩
section
variable (hx : RdI w B (m + 1) d x) (hm : m + 1 ≤ 100) (hn4 : n ≤ 402) (HOK : Hid (OkB l)) (E0 : Hid (chk P l = 0)) (s : Int) (E1 : Hid (walkR l x [] [] 0 = (s, true)))
include hx hm hn4 HOK E0 s E1
set_option maxRecDepth 100000 in
theorem rC_ok0 (h2 : 1 ≤ m) (k0 k1 : Nat) (f0 t0 m0 i0 f1 t1 m1 i1 : Int) (hx0 : x[0]? = some (k0 : Int)) (hx1 : x[m]? = some (k1 : Int)) (hb0 : l[k0]? = some ⟨f0, t0, m0, i0⟩) (hb1 : l[k1]? = some ⟨f1, t1, m1, i1⟩) (hs : decide (s < 0) = false) :
 Calls Tryz.prog 47 #[.agg #[.int .i64 P, .slice A n k], .slice B (m + 1) d] w fun e w' => e = .returned (.tuple #[.bool false, .int .i64 0]) ∧ Below w.heap.size w w' := by
 obtain ⟨bx, ox, hBx⟩ := rdI_some hx hx0
 subst hBx
 obtain ⟨ba, oa, hA⟩ := rdB_some hr hb0
 subst hA
 have hk0 := (List.getElem?_eq_some_iff.1 hb0).1; have hk1 := (List.getElem?_eq_some_iff.1 hb1).1; have hln := hr.len; have hmx := hx.len; have hm0 := (List.getElem?_eq_some_iff.1 hx0).1; have hm1 := (List.getElem?_eq_some_iff.1 hx1).1
 have HX0 := Lib.hid hx0; have HX1 := Lib.hid hx1; have HB0 := Lib.hid hb0; have HB1 := Lib.hid hb1; clear hx0 hx1 hb0 hb1
 go_enter Tryz.func47, Tryz.ntmps47
 have a3 := Lib.hid (show Below w.heap.size w w from Below.refl _ w)
 have a2 := Lib.hid (hx)
 clear hx
 have a1 := Lib.hid (hr)
 clear hr
 obtain ⟨o_, ho_⟩ : ∃ o, o = ((.cells #[.int .i64 P, .slice (some ⟨ba, oa, none⟩) n k] 84) : Obj) := ⟨_, rfl⟩
 replace a3 := bA a3 o_
 replace a2 := iA a2 o_
 replace a1 := rA a1 o_
 subst ho_
 have a0 := Lib.hid (Blk.new w 84 #[.int .i64 P, .slice (some ⟨ba, oa, none⟩) n k])
 have hc := rCheckSystem_any P (some ⟨ba, oa, none⟩) n k l _ a1.out hn
 rw [E0.out] at hc
 try dsimp only at hc
 have HC := Lib.hid hc; clear hc
 go_wp2_with fail
 refine HC.out.mono ?_
 rintro e a9 ⟨rfl, hb⟩
 clear HC
 have a5 := Lib.hid hb
 clear hb
 replace a0 := kH a0 a5
 have b2 : (a9).cell? ⟨w.heap.size, 0, none⟩ = some (.int .i64 P) := Blk.cell a0.out 0
 have b3 : (a9).cell? ⟨w.heap.size, 1, none⟩ = some (.slice (some ⟨ba, oa, none⟩) n k) := Blk.cell a0.out 1
 replace a1 := rH a1 a5
 replace a2 := iH a2 a5
 have hc := rwalk_any P (some ⟨ba, oa, none⟩) (some ⟨bx, ox, none⟩) n k (m + 1) d l x _ a1.out hn4 HOK.out a2.out hm
 rw [E1.out] at hc
 try dsimp only at hc
 have HC := Lib.hid hc; clear hc
 go_wp2_with fail
 refine HC.out.mono ?_
 rintro e a7 ⟨rfl, hb⟩
 clear HC
 clear b2 b3
 have a4 := Lib.hid hb
 clear hb
 replace a0 := kH a0 a4
 have b0 : (a7).cell? ⟨w.heap.size, 0, none⟩ = some (.int .i64 P) := Blk.cell a0.out 0
 have b1 : (a7).cell? ⟨w.heap.size, 1, none⟩ = some (.slice (some ⟨ba, oa, none⟩) n k) := Blk.cell a0.out 1
 go_wp2_with fail
 replace a1 := rH a1 a4
 replace a2 := iH a2 a4
 obtain ⟨p0, p1, p2, p3, pl⟩ := rdB_at a1.out HB0.out; obtain ⟨r0, r1, r2, r3, rl⟩ := rdB_at a1.out HB1.out; obtain ⟨s0, sl⟩ := rdI_at a2.out HX0.out; have s1 := (rdI_at a2.out HX1.out).1
 clear p1 p2 p3 r0 r2 r3
 rw [Nat.add_zero] at s0
 go_quiet (fail)
 clear p0 r1 s0 s1
 replace a3 := bH (bH a3 a5) a4
 clear b0 b1
 have a8 := Lib.hid (bdrewN a3.out nq)
 clear a3
 have b5 := Lib.hid (rdI_drewN a2.out nq)
 clear a2
 have b4 := Lib.hid (rdB_drewN a1.out nq)
 clear a1
 have a6 := Lib.hid (blk_drewN a0.out nq)
 clear a0
 have b6 : ((World.drewN a7 nq)).cell? ⟨w.heap.size, 0, none⟩ = some (.int .i64 P) := Blk.cell a6.out 0
 have b7 : ((World.drewN a7 nq)).cell? ⟨w.heap.size, 1, none⟩ = some (.slice (some ⟨ba, oa, none⟩) n k) := Blk.cell a6.out 1
 go_wp2
 go_ret2
 exact ⟨rfl, a8.out⟩
set_option maxRecDepth 100000 in
theorem rC_ok1 (h2 : 1 ≤ m) (k0 k1 : Nat) (f0 t0 m0 i0 f1 t1 m1 i1 : Int) (hx0 : x[0]? = some (k0 : Int)) (hx1 : x[m]? = some (k1 : Int)) (hb0 : l[k0]? = some ⟨f0, t0, m0, i0⟩) (hb1 : l[k1]? = some ⟨f1, t1, m1, i1⟩) (hs : decide (s < 0) = true) (g1 : (f0 == t1) = false) (g2 : decide (f0 = t1) = false) (g3 : ¬ f0 = t1) :
 Calls Tryz.prog 47 #[.agg #[.int .i64 P, .slice A n k], .slice B (m + 1) d] w fun e w' => e = .returned (.tuple #[.bool false, .int .i64 0]) ∧ Below w.heap.size w w' := by
 obtain ⟨bx, ox, hBx⟩ := rdI_some hx hx0
 subst hBx
 obtain ⟨ba, oa, hA⟩ := rdB_some hr hb0
 subst hA
 have hk0 := (List.getElem?_eq_some_iff.1 hb0).1; have hk1 := (List.getElem?_eq_some_iff.1 hb1).1; have hln := hr.len; have hmx := hx.len; have hm0 := (List.getElem?_eq_some_iff.1 hx0).1; have hm1 := (List.getElem?_eq_some_iff.1 hx1).1
 have HX0 := Lib.hid hx0; have HX1 := Lib.hid hx1; have HB0 := Lib.hid hb0; have HB1 := Lib.hid hb1; clear hx0 hx1 hb0 hb1
 go_enter Tryz.func47, Tryz.ntmps47
 have a3 := Lib.hid (show Below w.heap.size w w from Below.refl _ w)
 have a2 := Lib.hid (hx)
 clear hx
 have a1 := Lib.hid (hr)
 clear hr
 obtain ⟨o_, ho_⟩ : ∃ o, o = ((.cells #[.int .i64 P, .slice (some ⟨ba, oa, none⟩) n k] 84) : Obj) := ⟨_, rfl⟩
 replace a3 := bA a3 o_
 replace a2 := iA a2 o_
 replace a1 := rA a1 o_
 subst ho_
 have a0 := Lib.hid (Blk.new w 84 #[.int .i64 P, .slice (some ⟨ba, oa, none⟩) n k])
 have hc := rCheckSystem_any P (some ⟨ba, oa, none⟩) n k l _ a1.out hn
 rw [E0.out] at hc
 try dsimp only at hc
 have HC := Lib.hid hc; clear hc
 go_wp2_with fail
 refine HC.out.mono ?_
 rintro e a9 ⟨rfl, hb⟩
 clear HC
 have a5 := Lib.hid hb
 clear hb
 replace a0 := kH a0 a5
 have b2 : (a9).cell? ⟨w.heap.size, 0, none⟩ = some (.int .i64 P) := Blk.cell a0.out 0
 have b3 : (a9).cell? ⟨w.heap.size, 1, none⟩ = some (.slice (some ⟨ba, oa, none⟩) n k) := Blk.cell a0.out 1
 replace a1 := rH a1 a5
 replace a2 := iH a2 a5
 have hc := rwalk_any P (some ⟨ba, oa, none⟩) (some ⟨bx, ox, none⟩) n k (m + 1) d l x _ a1.out hn4 HOK.out a2.out hm
 rw [E1.out] at hc
 try dsimp only at hc
 have HC := Lib.hid hc; clear hc
 go_wp2_with fail
 refine HC.out.mono ?_
 rintro e a7 ⟨rfl, hb⟩
 clear HC
 clear b2 b3
 have a4 := Lib.hid hb
 clear hb
 replace a0 := kH a0 a4
 have b0 : (a7).cell? ⟨w.heap.size, 0, none⟩ = some (.int .i64 P) := Blk.cell a0.out 0
 have b1 : (a7).cell? ⟨w.heap.size, 1, none⟩ = some (.slice (some ⟨ba, oa, none⟩) n k) := Blk.cell a0.out 1
 go_wp2_with fail
 replace a1 := rH a1 a4
 replace a2 := iH a2 a4
 obtain ⟨p0, p1, p2, p3, pl⟩ := rdB_at a1.out HB0.out; obtain ⟨r0, r1, r2, r3, rl⟩ := rdB_at a1.out HB1.out; obtain ⟨s0, sl⟩ := rdI_at a2.out HX0.out; have s1 := (rdI_at a2.out HX1.out).1
 clear p1 p2 p3 r0 r2 r3
 rw [Nat.add_zero] at s0
 go_quiet (fail)
 clear p0 r1 s0 s1
 replace a3 := bH (bH a3 a5) a4
 clear b0 b1
 have a8 := Lib.hid (bdrewN a3.out nq)
 clear a3
 have b5 := Lib.hid (rdI_drewN a2.out nq)
 clear a2
 have b4 := Lib.hid (rdB_drewN a1.out nq)
 clear a1
 have a6 := Lib.hid (blk_drewN a0.out nq)
 clear a0
 have b6 : ((World.drewN a7 nq)).cell? ⟨w.heap.size, 0, none⟩ = some (.int .i64 P) := Blk.cell a6.out 0
 have b7 : ((World.drewN a7 nq)).cell? ⟨w.heap.size, 1, none⟩ = some (.slice (some ⟨ba, oa, none⟩) n k) := Blk.cell a6.out 1
 go_wp2
 go_ret2
 exact ⟨rfl, a8.out⟩
set_option maxRecDepth 100000 in
theorem rC_ok2 (h2 : 1 ≤ m) (k0 k1 : Nat) (f0 t0 m0 i0 f1 m1 i1 : Int) (hx0 : x[0]? = some (k0 : Int)) (hx1 : x[m]? = some (k1 : Int)) (hb0 : l[k0]? = some ⟨f0, t0, m0, i0⟩) (hb1 : l[k1]? = some ⟨f1, f0, m1, i1⟩) (hs : decide (s < 0) = true) :
 Calls Tryz.prog 47 #[.agg #[.int .i64 P, .slice A n k], .slice B (m + 1) d] w fun e w' => e = .returned (.tuple #[.bool true, .int .i64 0]) ∧ Below w.heap.size w w' := by
 obtain ⟨bx, ox, hBx⟩ := rdI_some hx hx0
 subst hBx
 obtain ⟨ba, oa, hA⟩ := rdB_some hr hb0
 subst hA
 have hk0 := (List.getElem?_eq_some_iff.1 hb0).1; have hk1 := (List.getElem?_eq_some_iff.1 hb1).1; have hln := hr.len; have hmx := hx.len; have hm0 := (List.getElem?_eq_some_iff.1 hx0).1; have hm1 := (List.getElem?_eq_some_iff.1 hx1).1
 have HX0 := Lib.hid hx0; have HX1 := Lib.hid hx1; have HB0 := Lib.hid hb0; have HB1 := Lib.hid hb1; clear hx0 hx1 hb0 hb1
 go_enter Tryz.func47, Tryz.ntmps47
 have a3 := Lib.hid (show Below w.heap.size w w from Below.refl _ w)
 have a2 := Lib.hid (hx)
 clear hx
 have a1 := Lib.hid (hr)
 clear hr
 obtain ⟨o_, ho_⟩ : ∃ o, o = ((.cells #[.int .i64 P, .slice (some ⟨ba, oa, none⟩) n k] 84) : Obj) := ⟨_, rfl⟩
 replace a3 := bA a3 o_
 replace a2 := iA a2 o_
 replace a1 := rA a1 o_
 subst ho_
 have a0 := Lib.hid (Blk.new w 84 #[.int .i64 P, .slice (some ⟨ba, oa, none⟩) n k])
 have hc := rCheckSystem_any P (some ⟨ba, oa, none⟩) n k l _ a1.out hn
 rw [E0.out] at hc
 try dsimp only at hc
 have HC := Lib.hid hc; clear hc
 go_wp2_with fail
 refine HC.out.mono ?_
 rintro e a9 ⟨rfl, hb⟩
 clear HC
 have a5 := Lib.hid hb
 clear hb
 replace a0 := kH a0 a5
 have b2 : (a9).cell? ⟨w.heap.size, 0, none⟩ = some (.int .i64 P) := Blk.cell a0.out 0
 have b3 : (a9).cell? ⟨w.heap.size, 1, none⟩ = some (.slice (some ⟨ba, oa, none⟩) n k) := Blk.cell a0.out 1
 replace a1 := rH a1 a5
 replace a2 := iH a2 a5
 have hc := rwalk_any P (some ⟨ba, oa, none⟩) (some ⟨bx, ox, none⟩) n k (m + 1) d l x _ a1.out hn4 HOK.out a2.out hm
 rw [E1.out] at hc
 try dsimp only at hc
 have HC := Lib.hid hc; clear hc
 go_wp2_with fail
 refine HC.out.mono ?_
 rintro e a7 ⟨rfl, hb⟩
 clear HC
 clear b2 b3
 have a4 := Lib.hid hb
 clear hb
 replace a0 := kH a0 a4
 have b0 : (a7).cell? ⟨w.heap.size, 0, none⟩ = some (.int .i64 P) := Blk.cell a0.out 0
 have b1 : (a7).cell? ⟨w.heap.size, 1, none⟩ = some (.slice (some ⟨ba, oa, none⟩) n k) := Blk.cell a0.out 1
 go_wp2_with fail
 replace a1 := rH a1 a4
 replace a2 := iH a2 a4
 obtain ⟨p0, p1, p2, p3, pl⟩ := rdB_at a1.out HB0.out; obtain ⟨r0, r1, r2, r3, rl⟩ := rdB_at a1.out HB1.out; obtain ⟨s0, sl⟩ := rdI_at a2.out HX0.out; have s1 := (rdI_at a2.out HX1.out).1
 clear p1 p2 p3 r0 r2 r3
 rw [Nat.add_zero] at s0
 go_quiet (fail)
 clear p0 r1 s0 s1
 replace a3 := bH (bH a3 a5) a4
 clear b0 b1
 have a8 := Lib.hid (bdrewN a3.out nq)
 clear a3
 have b5 := Lib.hid (rdI_drewN a2.out nq)
 clear a2
 have b4 := Lib.hid (rdB_drewN a1.out nq)
 clear a1
 have a6 := Lib.hid (blk_drewN a0.out nq)
 clear a0
 have b6 : ((World.drewN a7 nq)).cell? ⟨w.heap.size, 0, none⟩ = some (.int .i64 P) := Blk.cell a6.out 0
 have b7 : ((World.drewN a7 nq)).cell? ⟨w.heap.size, 1, none⟩ = some (.slice (some ⟨ba, oa, none⟩) n k) := Blk.cell a6.out 1
 go_wp2
 go_ret2
 exact ⟨rfl, a8.out⟩
end
end
end Go.Proofs.YtjjmifcjailpaaaGreat
set_option linter.unusedSimpArgs false
set_option linter.unusedVariables false
namespace Go.Proofs.YtjjmifcjailpaaaGreat
open Go.RowKit
theorem idx_at {l : List Bnd} {x : List Int} (h : ∀ i ∈ x, ∃ k b, i = Int.ofNat k ∧ l[k]? = some b) {j : Nat} (hj : j < x.length) :
 ∃ (k : Nat) (f t m i : Int), x[j]? = some (k : Int) ∧ l[k]? = some ⟨f, t, m, i⟩ ∧ bnd l (at_ x j) = ⟨f, t, m, i⟩ := by
 obtain ⟨k, b, e, hb⟩ := h (x[j]) (List.getElem_mem hj)
 obtain ⟨f, t, m, i⟩ := b
 have hx : x[j]? = some (k : Int) := by rw [List.getElem?_eq_getElem hj, e]; rfl
 refine ⟨k, f, t, m, i, hx, hb, ?_⟩
 rw [show at_ x j = (k : Int) from by simp [at_, hx]]
 exact bnd_of (by rw [Int.toNat_natCast]; exact hb)
theorem rCheckCircle_any (P : Int) (A : Option Addr) (n k : Nat) (l : List Bnd) (w : World) (hr : RdB w A n k l) (hn : n ≤ maxLen) (B : Option Addr) (m d : Nat) (x : List Int) (hx : RdI w B m d x) (hm : m ≤ 100) :
 Calls Tryz.prog 47 #[.agg #[.int .i64 P, .slice A n k], .slice B m d] w fun e w' => e = .returned (.tuple #[.bool (checkCircleV P l x).1, .int .i64 (checkCircleV P l x).2]) ∧ Below w.heap.size w w' := by
 by_cases hk : chk P l = 0
 · obtain ⟨hp1, hp2, hlen, -⟩ := chk_ok hk
   have hok := okB_of hk
   have hn4 : n ≤ 402 := by have := hr.len; omega
   have hxl := hx.len
   rw [rcirc_eq hk]
   unfold rcircV
   obtain ⟨V, hV⟩ : ∃ V, walkR l x [] [] 0 = V := ⟨_, rfl⟩
   obtain ⟨s, t⟩ := V
   cases t
   · have hV0 := walk_no hok (show (walkR l x [] [] 0).2 = false from by rw [hV])
     rw [hV0]
     exact rC_no P A n k l w hr hn B m d x hx hm hn4 (Lib.hid hok) (Lib.hid hk) (Lib.hid hV0)
   · rw [hV]
     by_cases h2 : m < 2
     · have : decide (2 ≤ x.length) = false := decide_eq_false (by omega)
       simp only [this, Bool.and_false, Bool.false_and]
       exact rC_short P A n k l w hr hn B m d x hx hm hn4 (Lib.hid hok) (Lib.hid hk) s (Lib.hid hV) h2
     · have h2' : decide (2 ≤ x.length) = true := decide_eq_true (by omega)
       obtain ⟨m, rfl⟩ : ∃ m', m = m' + 1 := ⟨m - 1, by omega⟩
       have hidx := walk_idx hok hV
       obtain ⟨k0, f0, t0, m0, i0, a1, a2, a3⟩ := idx_at hidx (j := 0) (by omega)
       obtain ⟨k1, f1, t1, m1, i1, c1, c2, c3⟩ := idx_at hidx (j := m) (by omega)
       have hlt : lastT l x = t1 := by unfold lastT; rw [show x.length - 1 = m from by omega, c3]
       simp only [h2', Bool.true_and, a3, hlt]
       by_cases hs : s < 0
       · by_cases hf : f0 = t1
         · subst hf
           simp only [hs, decide_true, Bool.and_self]
           exact rC_ok2 P A n k l w hr hn B m d x hx hm hn4 (Lib.hid hok) (Lib.hid hk) s (Lib.hid hV) (by omega) k0 k1 f0 t0 m0 i0 f1 m1 i1 a1 c1 a2 c2 (decide_eq_true hs)
         · simp only [hf, decide_false, Bool.and_false]
           exact rC_ok1 P A n k l w hr hn B m d x hx hm hn4 (Lib.hid hok) (Lib.hid hk) s (Lib.hid hV) (by omega) k0 k1 f0 t0 m0 i0 f1 t1 m1 i1 a1 c1 a2 c2 (decide_eq_true hs) (beq_eq_false_iff_ne.2 hf) (decide_eq_false hf) hf
       · simp only [hs, decide_false, Bool.false_and]
         exact rC_ok0 P A n k l w hr hn B m d x hx hm hn4 (Lib.hid hok) (Lib.hid hk) s (Lib.hid hV) (by omega) k0 k1 f0 t0 m0 i0 f1 t1 m1 i1 a1 c1 a2 c2 (decide_eq_false hs)
 · have hg : gcode P l [] = chk P l := by unfold gcode; rw [if_neg hk]
   have hv : checkCircleV P l x = (false, chk P l) := by unfold checkCircleV; rw [if_neg (by rw [hg]; exact hk), hg]
   rw [hv]
   exact rC_err P A n k l w hr hn B m d x hx hm _ (by simpa using hk) (Lib.hid rfl)
end Go.Proofs.YtjjmifcjailpaaaGreat
set_option linter.unusedSimpArgs false
set_option linter.unusedVariables false
namespace Go.Proofs.YtjjmifcjailpaaaGreat
open Go.RowKit
theorem rCheckCircle_is (P : Int) (A : Option Addr) (n k : Nat) (l : List Bnd) (w : World) (hr : RdB w A n k l) (hn : n ≤ maxLen) (B : Option Addr) (m d : Nat) (x : List Int) (hx : RdI w B m d x) (hm : m ≤ 100) (V : Bool × Int) (hV : checkCircleV P l x = V) :
 Calls Tryz.prog 47 #[.agg #[.int .i64 P, .slice A n k], .slice B m d] w fun e w' => e = .returned (.tuple #[.bool V.1, .int .i64 V.2]) ∧ Below w.heap.size w w' := by
 subst hV
 exact rCheckCircle_any P A n k l w hr hn B m d x hx hm
end Go.Proofs.YtjjmifcjailpaaaGreat
set_option linter.unusedSimpArgs false
set_option linter.unusedVariables false
namespace Go.Proofs.YtjjmifcjailpaaaGreat
open Go.RowKit
section
variable (c : Int) (A B : Option Addr) (n k m j : Nat) (ws ts : List Bnd) (d : Int) (C D : Option Addr) (n2 k2 m2 j2 : Nat) (ws2 ts2 : List Bnd) (p1 p2 p3 p4 : Int) (w : World) (h1 : RdB w A n k ws) (h2 : RdB w B m j ts) (hn : n ≤ maxLen) (hm : m ≤ maxLen) (h3 : RdB w C n2 k2 ws2) (h4 : RdB w D m2 j2 ts2) (hn2 : n2 ≤ maxLen) (hm2 : m2 ≤ maxLen) (u : Bool) (X : Option Addr) (xn xk : Nat) (x : List Int) (hx : RdI w X xn xk x)
include c A B n k m j ws ts d C D n2 k2 m2 j2 ws2 ts2 p1 p2 p3 p4 w h1 h2 hn hm h3 h4 hn2 hm2 u X xn xk x hx
set_option maxRecDepth 100000 in
theorem rCheckClash_e (hxm : xn ≤ 100) (q : Int) (hq : (q != 0) = true) (E1 : Hid (asked ⟨c, ws, ts⟩ ⟨d, ws2, ts2⟩ ⟨p1, p2, p3, p4⟩ = q)) :
 Calls Tryz.prog 15 #[.agg #[.int .i64 c, .slice A n k, .slice B m j], .agg #[.int .i64 d, .slice C n2 k2, .slice D m2 j2], .agg #[.int .i64 p1, .int .i64 p2, .int .i64 p3, .int .i64 p4], .agg #[.bool u, .slice X xn xk]] w fun e w' => e = .returned (.tuple #[.bool false, .int .i64 q]) ∧ Below w.heap.size w w' := by
  go_enter Tryz.func15, Tryz.ntmps15
  obtain ⟨a2, a3, a4, a5, a0⟩ := ent4 w #[.int .i64 c, .slice A n k, .slice B m j] 24 #[.int .i64 d, .slice C n2 k2, .slice D m2 j2] 24 #[.int .i64 p1, .int .i64 p2, .int .i64 p3, .int .i64 p4] 28 #[.bool u, .slice X xn xk] 40
  have a6 := rI h1 a0
  have a7 := rI h2 a0
  have a8 := rI h3 a0
  have a9 := rI h4 a0
  have c2 := iI hx a0
  clear h1 h2 h3 h4 hx
  obtain ⟨b0, b1, b2⟩ := at3 a2
  obtain ⟨b3, b4, b5⟩ := at3 a3
  obtain ⟨b6, b7, b8, b9⟩ := at4 a4
  obtain ⟨c0, c1⟩ := at2 a5
  have hc := rAsked_any c A B n k m j ws ts d C D n2 k2 m2 j2 ws2 ts2 p1 p2 p3 p4 _ a6.out a7.out hn hm a8.out a9.out hn2 hm2
  rw [E1.out] at hc
  try dsimp only at hc
  have HC := Lib.hid hc; clear hc
  go_wp2_with fail
  refine HC.out.mono ?_
  rintro e c3 ⟨rfl, hb⟩
  clear HC
  clear b0 b1 b2 b3 b4 b5 b6 b7 b8 b9 c0 c1
  have a1 := Lib.hid hb
  clear hb
  replace a2 := kH a2 a1
  obtain ⟨c4, c5, c6⟩ := at3 a2
  replace a3 := kH a3 a1
  obtain ⟨c7, c8, c9⟩ := at3 a3
  replace a4 := kH a4 a1
  obtain ⟨d0, d1, d2, d3⟩ := at4 a4
  replace a5 := kH a5 a1
  obtain ⟨d4, d5⟩ := at2 a5
  go_wp2
  go_ret2
  replace a0 := bH a0 a1
  exact ⟨rfl, a0.out⟩
set_option maxRecDepth 100000 in
theorem rCheckClash_o (hxm : xn ≤ 100) (v1 : Bool) (v2 : Int) (E1 : Hid (asked ⟨c, ws, ts⟩ ⟨d, ws2, ts2⟩ ⟨p1, p2, p3, p4⟩ = 0)) (HQ1 : Hid (chkP ⟨c, ws, ts⟩ ⟨d, ws2, ts2⟩ ⟨p1, p2, p3, p4⟩ = 0)) (HL1 : Hid ((jL u ⟨c, ws, ts⟩ ⟨d, ws2, ts2⟩ ⟨p1, p2, p3, p4⟩).length ≤ 400)) (EV : Hid (checkCircleV (jP u ⟨c, ws, ts⟩ ⟨d, ws2, ts2⟩ ⟨p1, p2, p3, p4⟩) (jL u ⟨c, ws, ts⟩ ⟨d, ws2, ts2⟩ ⟨p1, p2, p3, p4⟩) x = (v1, v2))) :
 Calls Tryz.prog 15 #[.agg #[.int .i64 c, .slice A n k, .slice B m j], .agg #[.int .i64 d, .slice C n2 k2, .slice D m2 j2], .agg #[.int .i64 p1, .int .i64 p2, .int .i64 p3, .int .i64 p4], .agg #[.bool u, .slice X xn xk]] w fun e w' => e = .returned (.tuple #[.bool v1, .int .i64 v2]) ∧ Below w.heap.size w w' := by
  go_enter Tryz.func15, Tryz.ntmps15
  obtain ⟨a0, a1, a2, a3, a4⟩ := ent4 w #[.int .i64 c, .slice A n k, .slice B m j] 24 #[.int .i64 d, .slice C n2 k2, .slice D m2 j2] 24 #[.int .i64 p1, .int .i64 p2, .int .i64 p3, .int .i64 p4] 28 #[.bool u, .slice X xn xk] 40
  have a9 := rI h1 a4
  have b0 := rI h2 a4
  have b1 := rI h3 a4
  have b2 := rI h4 a4
  have a8 := iI hx a4
  clear h1 h2 h3 h4 hx
  obtain ⟨c0, c1, c2⟩ := at3 a0
  obtain ⟨c3, c4, c5⟩ := at3 a1
  obtain ⟨c6, c7, c8, c9⟩ := at4 a2
  obtain ⟨d0, d1⟩ := at2 a3
  have hc := rAsked_any c A B n k m j ws ts d C D n2 k2 m2 j2 ws2 ts2 p1 p2 p3 p4 _ a9.out b0.out hn hm b1.out b2.out hn2 hm2
  rw [E1.out] at hc
  try dsimp only at hc
  have HC := Lib.hid hc; clear hc
  go_wp2_with fail
  refine HC.out.mono ?_
  rintro e d2 ⟨rfl, hb⟩
  clear HC
  clear c0 c1 c2 c3 c4 c5 c6 c7 c8 c9 d0 d1
  have a5 := Lib.hid hb
  clear hb
  replace a0 := kH a0 a5
  obtain ⟨d3, d4, d5⟩ := at3 a0
  replace a1 := kH a1 a5
  obtain ⟨d6, d7, d8⟩ := at3 a1
  replace a2 := kH a2 a5
  obtain ⟨d9, e0, e1, e2⟩ := at4 a2
  replace a3 := kH a3 a5
  obtain ⟨e3, e4⟩ := at2 a3
  go_wp2_with fail
  clear d3 d4 d5 d6 d7 d8 d9 e0 e1 e2 e3 e4
  replace a4 := bD (bH a4 a5)
  replace a9 := rD (rH a9 a5)
  replace b0 := rD (rH b0 a5)
  replace b1 := rD (rH b1 a5)
  replace b2 := rD (rH b2 a5)
  replace a8 := iD (iH a8 a5)
  replace a0 := kD a0
  replace a1 := kD a1
  replace a2 := kD a2
  replace a3 := kD a3
  refine wp_region_held_drew (S := (fun W' => Blk W' (w.heap.size) 24 #[.int .i64 c, .slice A n k, .slice B m j] ∧ Blk W' (w.heap.size + 1) 24 #[.int .i64 d, .slice C n2 k2, .slice D m2 j2] ∧ Blk W' (w.heap.size + 1 + 1) 28 #[.int .i64 p1, .int .i64 p2, .int .i64 p3, .int .i64 p4] ∧ Blk W' (w.heap.size + 1 + 1 + 1) 40 #[.bool u, .slice X xn xk])) (by kernel_rfl) ⟨a0.out, a1.out, a2.out, a3.out⟩ (fun _ => ?_)
  obtain ⟨e5, b3⟩ : ∃ w', w' = (d2.drew) := ⟨_, rfl⟩
  rw [← b3] at a4 a9 b0 b1 b2 a8 a0 a1 a2 a3
  rw [← b3]
  clear b3
  refine' tkH 0 ⟨a0.out, a1.out, a2.out, a3.out⟩ ?b5 ?_
  case b5 => (rintro W' ⟨hS0, hS1, hS2, hS3⟩; have hc0 := Blk.nth hS0 0; have hc1 := Blk.nth hS0 1; have hc2 := Blk.nth hS0 2; clear hS0 hS1 hS2 hS3; go_simp; try with_reducible rfl)
  refine' tkH 1 ⟨a0.out, a1.out, a2.out, a3.out⟩ ?b6 ?_
  case b6 => (rintro W' ⟨hS0, hS1, hS2, hS3⟩; have hc0 := Blk.nth hS1 0; have hc1 := Blk.nth hS1 1; have hc2 := Blk.nth hS1 2; clear hS0 hS1 hS2 hS3; go_simp; try with_reducible rfl)
  refine' tkH 2 ⟨a0.out, a1.out, a2.out, a3.out⟩ ?b7 ?_
  case b7 => (rintro W' ⟨hS0, hS1, hS2, hS3⟩; have hc0 := Blk.nth hS2 0; have hc1 := Blk.nth hS2 1; have hc2 := Blk.nth hS2 2; have hc3 := Blk.nth hS2 3; clear hS0 hS1 hS2 hS3; go_simp; try with_reducible rfl)
  refine' twH 3 ⟨a0.out, a1.out, a2.out, a3.out⟩ ?_
  try simp only [Act.put, qsA, qsZ, qsS]
  refine' tkH 4 ⟨a0.out, a1.out, a2.out, a3.out⟩ ?b8 ?_
  case b8 => (rintro W' ⟨hS0, hS1, hS2, hS3⟩; have hc0 := Blk.nth hS3 0; clear hS0 hS1 hS2 hS3; go_simp; try with_reducible rfl)
  refine' twH 6 ⟨a0.out, a1.out, a2.out, a3.out⟩ ?_
  refine' tkH 7 ⟨a0.out, a1.out, a2.out, a3.out⟩ ?b9 ?_
  case b9 => (rintro W' ⟨hS0, hS1, hS2, hS3⟩; have hc0 := Blk.nth hS3 1; clear hS0 hS1 hS2 hS3; go_simp; try with_reducible rfl)
  try simp only [Act.put, qsA, qsZ, qsS]
  refine oneH 5 rfl fun K hK => ?_
  go_simp
  go_at_call 48
  refine (rjoint_any u c A B n k m j ws ts d C D n2 k2 m2 j2 ws2 ts2 p1 p2 p3 p4 _ a9.out b0.out hn hm b1.out b2.out hn2 hm2 HQ1.out).mono ?_
  rintro e e6 ⟨Ar, nr, kr, rfl, hrl, a6⟩
  dsimp only
  replace a6 := Lib.hid a6
  have b4 := Lib.hid (hrl)
  replace a0 := kH a0 a6
  replace a1 := kH a1 a6
  replace a2 := kH a2 a6
  replace a3 := kH a3 a6
  refine hK.out _ _ ⟨a0.out, a1.out, a2.out, a3.out⟩ (fun _ => ?_); clear hK K
  try simp only [Act.put, qsA, qsZ, qsS]
  refine oneH 8 rfl fun K hK => ?_
  replace a8 := iH a8 a6
  have hl_ : nr ≤ maxLen := by have h1 := (b4.out).len; have h2 := HL1.out; unfold maxLen; omega
  go_simp
  go_at_call 47
  refine (rCheckCircle_is _ Ar nr kr _ _ b4.out hl_ X xn xk x a8.out hxm _ EV.out).mono ?_
  rintro e e7 ⟨rfl, a7⟩
  dsimp only
  replace a7 := Lib.hid a7
  replace a0 := kH a0 a7
  replace a1 := kH a1 a7
  replace a2 := kH a2 a7
  replace a3 := kH a3 a7
  refine hK.out _ _ ⟨a0.out, a1.out, a2.out, a3.out⟩ (fun _ => ?_); clear hK K
  try simp only [Act.put, qsA, qsZ, qsS]
  refine' twH 9 ⟨a0.out, a1.out, a2.out, a3.out⟩ ?_
  refine' twH 10 ⟨a0.out, a1.out, a2.out, a3.out⟩ ?_
  refine' twH 11 ⟨a0.out, a1.out, a2.out, a3.out⟩ ?_
  refine' twH 12 ⟨a0.out, a1.out, a2.out, a3.out⟩ ?_
  try simp only [Act.put, qsA, qsZ, qsS]
  refine wpAnyH_done (by kernel_rfl) ?_ _
  go_wp2
  go_ret2
  replace a4 := bH (bH a4 a6) a7
  exact ⟨rfl, a4.out⟩
theorem rCheckClash_any (hxm : xn ≤ 100) :
 Calls Tryz.prog 15 #[.agg #[.int .i64 c, .slice A n k, .slice B m j], .agg #[.int .i64 d, .slice C n2 k2, .slice D m2 j2], .agg #[.int .i64 p1, .int .i64 p2, .int .i64 p3, .int .i64 p4], .agg #[.bool u, .slice X xn xk]] w fun e w' => e = .returned (.tuple #[.bool (checkClashV u ⟨c, ws, ts⟩ ⟨d, ws2, ts2⟩ ⟨p1, p2, p3, p4⟩ x).1, .int .i64 (checkClashV u ⟨c, ws, ts⟩ ⟨d, ws2, ts2⟩ ⟨p1, p2, p3, p4⟩ x).2]) ∧ Below w.heap.size w w' := by
 unfold checkClashV
 by_cases h : asked ⟨c, ws, ts⟩ ⟨d, ws2, ts2⟩ ⟨p1, p2, p3, p4⟩ = 0
 · rw [if_pos h]
   exact rCheckClash_o c A B n k m j ws ts d C D n2 k2 m2 j2 ws2 ts2 p1 p2 p3 p4 w h1 h2 hn hm h3 h4 hn2 hm2 u X xn xk x hx hxm _ _ (Lib.hid h) (Lib.hid (asked_ok h).1) (Lib.hid (jL_len h u)) (Lib.hid rfl)
 · rw [if_neg h]
   exact rCheckClash_e c A B n k m j ws ts d C D n2 k2 m2 j2 ws2 ts2 p1 p2 p3 p4 w h1 h2 hn hm h3 h4 hn2 hm2 u X xn xk x hx hxm _ (by simpa using h) (Lib.hid rfl)
end
end Go.Proofs.YtjjmifcjailpaaaGreat
