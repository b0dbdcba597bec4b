import Derived.Shelf.SlSortCmp.NoneTotal
import Derived.Test.YtjjmifcjailpaaaGreatTEShared
import Derived.Test.YtjjmifcjailpaaaGreatTEIter
import Derived.Test.YtjjmifcjailpaaaGreatTEWith
import Derived.Test.YtjjmifcjailpaaaGreatTEMax
import Derived.Deep.DeepCutAuto
import Derived.Deep.OwnRows
import Derived.Great.BuildSlice
import Derived.Laws.AppendOwnNone
import Derived.Maps.OwnIn
import Derived.Shelf.SlIterI.Nil
import Derived.Shelf.Slices.Reverse
import Derived.Shelf.SortM.Plain
import Derived.Shelf.SortM.SortNone
import Derived.Sort.OwnSortedInts
import Derived.Test.YtjjmifcjailpaaaGreatTFrom
set_option linter.unusedSimpArgs false
set_option linter.unusedVariables false
namespace Go.Proofs.YtjjmifcjailpaaaGreat
def fW : List Bnd := [⟨0, 1, 12, 1⟩, ⟨1, 0, -10, 1⟩, ⟨1, 2, 22, 2⟩, ⟨2, 1, -20, 2⟩, ⟨2, 3, 5, 3⟩, ⟨3, 2, -5, 3⟩]
def fT : List Bnd := [⟨0, 1, 100, 4⟩, ⟨1, 0, -90, 4⟩, ⟨1, 2, 140, 5⟩, ⟨2, 1, -100, 5⟩]
def sW : List Bnd := [⟨0, 1, 25, 6⟩, ⟨1, 0, -20, 6⟩, ⟨1, 2, 15, 7⟩, ⟨2, 1, -11, 7⟩, ⟨2, 3, 9, 8⟩, ⟨3, 2, -9, 8⟩]
def sT : List Bnd := [⟨0, 1, -95, 9⟩, ⟨1, 0, 120, 9⟩, ⟨1, 2, -20, 10⟩, ⟨2, 1, 30, 10⟩]
def fO : Otl := ⟨3, fW, fT⟩
def sO : Otl := ⟨3, sW, sT⟩
def cO : Otl := ⟨3, sW, sT ++ [⟨0, 1, -101, 11⟩]⟩
theorem jn_meets : meetsV fO sO ⟨0, 2, 0, 2⟩ = (true, 0) := by decide +kernel
theorem jn_not : meetsV fO sO ⟨0, 1, 0, 1⟩ = (false, 0) := by decide +kernel
theorem jn_shared : sharedV fO sO ⟨0, 1, 1, 2⟩ = (11, 12, 0) := by decide +kernel
theorem jn_both : both fO sO = 0 := by decide +kernel
theorem jn_all : allL fO sO (mostN fO sO) = [⟨0, 1, 1, 2⟩, ⟨1, 2, 0, 1⟩, ⟨0, 2, 0, 2⟩] := by decide +kernel
theorem jn_long : longV fO sO = (2, 0) := by decide +kernel
theorem jn_withE : withE true sO ⟨0, 1, -101, 11⟩ = 0 := by decide +kernel
theorem jn_with : withO true sO ⟨0, 1, -101, 11⟩ = cO := by decide +kernel
theorem jn_clash : (clashV fO cO ⟨0, 2, 0, 2⟩).2 = 0 ∧ (clashV fO cO ⟨0, 2, 0, 2⟩).1.2 = (true, true) ∧ (clashV fO cO ⟨0, 2, 0, 2⟩).1.1.length = 2 := by decide +kernel
theorem jn_place : checkPlaceV fO sO ⟨0, 1, 1, 2⟩ [0, 11, 31, 36] [0, 20, 31, 40] [0, 90, 190] [0, -95, -115] = (true, 0) := by decide +kernel
theorem jn_rests : erestsV false fO sO ⟨0, 1, 0, 1⟩ [0, 7] = ([1, 6], 0) := by decide +kernel
end Go.Proofs.YtjjmifcjailpaaaGreat
set_option linter.unusedSimpArgs false
set_option linter.unusedVariables false
namespace Go.Proofs.YtjjmifcjailpaaaGreat
open Go.RowKit
theorem rdB_new (w : World) (L : List Bnd) (n : Nat) (hn : L.length = n) : RdB (w.alloc (.cells (bcells L).toArray 70)) (some ⟨w.heap.size, 0, none⟩) n n L := by
 refine ⟨hn, Nat.le_refl _, (fun h => by cases h), .inr ⟨w.heap.size, 0, rfl, by simp, fun j u hu => ?_⟩⟩
 rw [Nat.zero_add, (Blk.new w 70 (bcells L).toArray).cell j]
 simpa using hu
theorem rdB_newP (w : World) (p : Prg) : RdB (w.alloc (.cells #[.int .i64 p.af, .int .i64 p.at2, .int .i64 p.bf, .int .i64 p.bt] 28)) (some ⟨w.heap.size, 0, none⟩) 1 1 [pB p] := by
 refine ⟨rfl, Nat.le_refl _, (fun h => by cases h), .inr ⟨w.heap.size, 0, rfl, by simp, fun j u hu => ?_⟩⟩
 rw [Nat.zero_add, (Blk.new w 28 #[.int .i64 p.af, .int .i64 p.at2, .int .i64 p.bf, .int .i64 p.bt]).cell j]
 simpa [bcells, Bnd.cells, pB] using hu
set_option maxRecDepth 100000 in
theorem ffirst_any (w : World) : Calls Tryz.prog 32 #[] w fun e w' => ∃ A B, e = .returned (.agg #[.int .i64 3, .slice A 6 6, .slice B 4 4]) ∧ RdB w' A 6 6 fW ∧ RdB w' B 4 4 fT ∧ Below w.heap.size w w' := by
 go_enter Tryz.func32, Tryz.ntmps32
 go_wp2
 have hb0 := (Below.refl w.heap.size w).alloc (Nat.le_refl _) (.cells #[.int .i64 3, .slice (some ⟨w.heap.size + 1, 0, none⟩) 6 6, .slice (some ⟨w.heap.size + 1 + 1, 0, none⟩) 4 4] 24)
 have h1 := rdB_new (w.alloc (.cells #[.int .i64 3, .slice (some ⟨w.heap.size + 1, 0, none⟩) 6 6, .slice (some ⟨w.heap.size + 1 + 1, 0, none⟩) 4 4] 24)) fW 6 rfl
 have h2 := rdB_new ((w.alloc (.cells #[.int .i64 3, .slice (some ⟨w.heap.size + 1, 0, none⟩) 6 6, .slice (some ⟨w.heap.size + 1 + 1, 0, none⟩) 4 4] 24)).alloc (.cells #[.int .i64 0, .int .i64 1, .int .i64 12, .int .i64 1, .int .i64 1, .int .i64 0, .int .i64 (-10), .int .i64 1, .int .i64 1, .int .i64 2, .int .i64 22, .int .i64 2, .int .i64 2, .int .i64 1, .int .i64 (-20), .int .i64 2, .int .i64 2, .int .i64 3, .int .i64 5, .int .i64 3, .int .i64 3, .int .i64 2, .int .i64 (-5), .int .i64 3] 70)) fT 4 rfl
 simp only [World.size_alloc] at h1 h2
 refine bodyPost_ret (v := .agg #[.int .i64 3, .slice (some ⟨w.heap.size + 1, 0, none⟩) 6 6, .slice (some ⟨w.heap.size + 1 + 1, 0, none⟩) 4 4]) (by simp [results, Tryz.results32, go_sem]) rfl ⟨_, _, rfl, h1.alloc _, h2, ?_⟩
 exact (hb0.alloc (by simp) _).alloc (by simp; omega) _
set_option maxRecDepth 100000 in
theorem sfirst_any (w : World) : Calls Tryz.prog 33 #[] w fun e w' => ∃ A B, e = .returned (.agg #[.int .i64 3, .slice A 6 6, .slice B 4 4]) ∧ RdB w' A 6 6 sW ∧ RdB w' B 4 4 sT ∧ Below w.heap.size w w' := by
 go_enter Tryz.func33, Tryz.ntmps33
 go_wp2
 have hb0 := (Below.refl w.heap.size w).alloc (Nat.le_refl _) (.cells #[.int .i64 3, .slice (some ⟨w.heap.size + 1, 0, none⟩) 6 6, .slice (some ⟨w.heap.size + 1 + 1, 0, none⟩) 4 4] 24)
 have h1 := rdB_new (w.alloc (.cells #[.int .i64 3, .slice (some ⟨w.heap.size + 1, 0, none⟩) 6 6, .slice (some ⟨w.heap.size + 1 + 1, 0, none⟩) 4 4] 24)) sW 6 rfl
 have h2 := rdB_new ((w.alloc (.cells #[.int .i64 3, .slice (some ⟨w.heap.size + 1, 0, none⟩) 6 6, .slice (some ⟨w.heap.size + 1 + 1, 0, none⟩) 4 4] 24)).alloc (.cells #[.int .i64 0, .int .i64 1, .int .i64 25, .int .i64 6, .int .i64 1, .int .i64 0, .int .i64 (-20), .int .i64 6, .int .i64 1, .int .i64 2, .int .i64 15, .int .i64 7, .int .i64 2, .int .i64 1, .int .i64 (-11), .int .i64 7, .int .i64 2, .int .i64 3, .int .i64 9, .int .i64 8, .int .i64 3, .int .i64 2, .int .i64 (-9), .int .i64 8] 70)) sT 4 rfl
 simp only [World.size_alloc] at h1 h2
 refine bodyPost_ret (v := .agg #[.int .i64 3, .slice (some ⟨w.heap.size + 1, 0, none⟩) 6 6, .slice (some ⟨w.heap.size + 1 + 1, 0, none⟩) 4 4]) (by simp [results, Tryz.results33, go_sem]) rfl ⟨_, _, rfl, h1.alloc _, h2, ?_⟩
 exact (hb0.alloc (by simp) _).alloc (by simp; omega) _
theorem of_any (a b c d : Int) (w : World) : Calls Tryz.prog 34 #[.int .i64 a, .int .i64 b, .int .i64 c, .int .i64 d] w fun e w' => e = .returned (.agg #[.int .i64 a, .int .i64 b, .int .i64 c, .int .i64 d]) ∧ Below w.heap.size w w' := by
 go_enter Tryz.func34, Tryz.ntmps34
 go_wp2
 refine bodyPost_ret (v := .agg #[.int .i64 a, .int .i64 b, .int .i64 c, .int .i64 d]) (by simp [results, Tryz.results34, go_sem]) rfl ⟨rfl, (by (repeat (first | exact Below.refl _ _ | refine Below.drew ?_ | refine Below.alloc ?_ (by simp) _)))⟩
section
variable (w : World) (A B C D : Option Addr) (h1 : RdB w A 6 6 fW) (h2 : RdB w B 4 4 fT) (h3 : RdB w C 6 6 sW) (h4 : RdB w D 4 4 sT)
include w A B C D h1 h2 h3 h4
theorem j_meets : Calls Tryz.prog 10 #[.agg #[.int .i64 3, .slice A 6 6, .slice B 4 4], .agg #[.int .i64 3, .slice C 6 6, .slice D 4 4], .agg #[.int .i64 0, .int .i64 2, .int .i64 0, .int .i64 2]] w fun e w' => e = .returned (.tuple #[.bool true, .int .i64 0]) ∧ Below w.heap.size w w' := by
 have h := Meets_any 3 A B 6 6 4 4 fW fT 3 C D 6 6 4 4 sW sT 0 2 0 2 w h1 h2 (by unfold maxLen; omega) (by unfold maxLen; omega) h3 h4 (by unfold maxLen; omega) (by unfold maxLen; omega)
 rw [show meetsV ⟨3, fW, fT⟩ ⟨3, sW, sT⟩ ⟨0, 2, 0, 2⟩ = (true, 0) from jn_meets] at h
 exact h
theorem j_not : Calls Tryz.prog 10 #[.agg #[.int .i64 3, .slice A 6 6, .slice B 4 4], .agg #[.int .i64 3, .slice C 6 6, .slice D 4 4], .agg #[.int .i64 0, .int .i64 1, .int .i64 0, .int .i64 1]] w fun e w' => e = .returned (.tuple #[.bool false, .int .i64 0]) ∧ Below w.heap.size w w' := by
 have h := Meets_any 3 A B 6 6 4 4 fW fT 3 C D 6 6 4 4 sW sT 0 1 0 1 w h1 h2 (by unfold maxLen; omega) (by unfold maxLen; omega) h3 h4 (by unfold maxLen; omega) (by unfold maxLen; omega)
 rw [show meetsV ⟨3, fW, fT⟩ ⟨3, sW, sT⟩ ⟨0, 1, 0, 1⟩ = (false, 0) from jn_not] at h
 exact h
theorem j_shared : Calls Tryz.prog 23 #[.agg #[.int .i64 3, .slice A 6 6, .slice B 4 4], .agg #[.int .i64 3, .slice C 6 6, .slice D 4 4], .agg #[.int .i64 0, .int .i64 1, .int .i64 1, .int .i64 2]] w fun e w' => e = .returned (.tuple #[.int .i64 11, .int .i64 12, .int .i64 0]) ∧ Below w.heap.size w w' := by
 have h := Shared_any 3 A B 6 6 4 4 fW fT 3 C D 6 6 4 4 sW sT 0 1 1 2 w h1 h2 (by unfold maxLen; omega) (by unfold maxLen; omega) h3 h4 (by unfold maxLen; omega) (by unfold maxLen; omega)
 rw [show sharedV ⟨3, fW, fT⟩ ⟨3, sW, sT⟩ ⟨0, 1, 1, 2⟩ = (11, 12, 0) from jn_shared] at h
 exact h
theorem j_long : Calls Tryz.prog 27 #[.agg #[.int .i64 3, .slice A 6 6, .slice B 4 4], .agg #[.int .i64 3, .slice C 6 6, .slice D 4 4]] w fun e w' => e = .returned (.tuple #[.int .i64 2, .int .i64 0]) ∧ Below w.heap.size w w' := by
 have h := Longest_any 3 A B 6 6 4 4 fW fT 3 C D 6 6 4 4 sW sT w h1 h2 (by unfold maxLen; omega) (by unfold maxLen; omega) h3 h4 (by unfold maxLen; omega) (by unfold maxLen; omega)
 rw [show longV ⟨3, fW, fT⟩ ⟨3, sW, sT⟩ = (2, 0) from jn_long] at h
 exact h
theorem j_max : Calls Tryz.prog 29 #[.agg #[.int .i64 3, .slice A 6 6, .slice B 4 4], .agg #[.int .i64 3, .slice C 6 6, .slice D 4 4]] w fun e w' => ∃ E c, e = .returned (.tuple #[.slice E 1 c, .int .i64 0]) ∧ RdB w' E 1 c ([⟨0, 2, 0, 2⟩].map pB) ∧ Below w.heap.size w w' := by
 refine (Maximal_any 3 A B 6 6 4 4 fW fT 3 C D 6 6 4 4 sW sT w h1 h2 (by unfold maxLen; omega) (by unfold maxLen; omega) h3 h4 (by unfold maxLen; omega) (by unfold maxLen; omega)).mono ?_
 rintro e w' ⟨L, E, n, c, rfl, hr, hnd, hm, _, hb⟩
 rw [show both ⟨3, fW, fT⟩ ⟨3, sW, sT⟩ = 0 from jn_both]
 have hS : allL ⟨3, fW, fT⟩ ⟨3, sW, sT⟩ (mostN ⟨3, fW, fT⟩ ⟨3, sW, sT⟩) = [⟨0, 1, 1, 2⟩, ⟨1, 2, 0, 1⟩, ⟨0, 2, 0, 2⟩] := jn_all
 have hB : both ⟨3, fW, fT⟩ ⟨3, sW, sT⟩ = 0 := jn_both
 rw [hS] at hm
 have h2 : ∀ p, p ∈ prs (sortY L) ↔ p = ⟨0, 2, 0, 2⟩ := by
  intro p
  rw [hm]
  constructor
  · rintro ⟨_, h, ht⟩
    simp only [List.mem_cons, List.not_mem_nil, or_false] at h
    rcases h with rfl | rfl | rfl
    · exact absurd ht (by decide +kernel)
    · exact absurd ht (by decide +kernel)
    · rfl
  · rintro rfl
    exact ⟨hB, by simp, by decide +kernel⟩
 have h3 : prs (sortY L) = [⟨0, 2, 0, 2⟩] := by
  generalize prs (sortY L) = R at hnd h2
  match R, hnd, h2 with
  | [], _, h2 => exact absurd ((h2 ⟨0, 2, 0, 2⟩).2 rfl) (by simp)
  | [x], _, h2 => rw [(h2 x).1 (by simp)]
  | x :: y :: l, hnd, h2 =>
   have hx := (h2 x).1 (by simp)
   have hy := (h2 y).1 (by simp)
   rw [hx, hy] at hnd
   simp at hnd
 rw [h3] at hr
 obtain rfl : n = 1 := hr.len.symm
 exact ⟨E, c, rfl, hr, hb⟩
end
theorem j_with (w : World) (C D : Option Addr) (h3 : RdB w C 6 6 sW) (h4 : RdB w D 4 4 sT) : Calls Tryz.prog 35 #[.agg #[.int .i64 3, .slice C 6 6, .slice D 4 4], .bool true, .agg #[.int .i64 0, .int .i64 1, .int .i64 (-101), .int .i64 11]] w fun e w' => ∃ E k G l, e = .returned (.tuple #[.agg #[.int .i64 3, .slice E 6 k, .slice G 5 l], .int .i64 0]) ∧ RdB w' E 6 k sW ∧ RdB w' G 5 l (sT ++ [⟨0, 1, -101, 11⟩]) ∧ Below w.heap.size w w' := by
 have h := With_any 3 C D 6 6 4 4 sW sT w h3 h4 (by unfold maxLen; omega) (by unfold maxLen; omega) true 0 1 (-101) 11
 rw [show withE true ⟨3, sW, sT⟩ ⟨0, 1, -101, 11⟩ = 0 from jn_withE, show withO true ⟨3, sW, sT⟩ ⟨0, 1, -101, 11⟩ = cO from jn_with] at h
 refine h.mono ?_
 rintro e w' ⟨E, n, k, G, m, l, rfl, r1, r2, _, _, hb⟩
 rw [if_pos rfl] at r1 r2
 obtain rfl : n = 6 := r1.len.symm
 obtain rfl : m = 5 := r2.len.symm
 exact ⟨E, k, G, l, rfl, r1, r2, hb⟩
theorem j_clash (w : World) (A B : Option Addr) (h1 : RdB w A 6 6 fW) (h2 : RdB w B 4 4 fT) (E : Option Addr) (k : Nat) (G : Option Addr) (l : Nat) (h3 : RdB w E 6 k sW) (h4 : RdB w G 5 l (sT ++ [⟨0, 1, -101, 11⟩])) :
 Calls Tryz.prog 12 #[.agg #[.int .i64 3, .slice A 6 6, .slice B 4 4], .agg #[.int .i64 3, .slice E 6 k, .slice G 5 l], .agg #[.int .i64 0, .int .i64 2, .int .i64 0, .int .i64 2]] w fun e w' => ∃ I c, e = .returned (.tuple #[.agg #[.bool true, .slice I 2 c], .bool true, .int .i64 0]) ∧ Below w.heap.size w w' := by
 have h := Clash_any 3 A B 6 6 4 4 fW fT 3 E G 6 k 5 l sW (sT ++ [⟨0, 1, -101, 11⟩]) 0 2 0 2 w h1 h2 (by unfold maxLen; omega) (by unfold maxLen; omega) h3 h4 (by unfold maxLen; omega) (by unfold maxLen; omega)
 refine h.mono ?_
 obtain ⟨q1, q2, q3⟩ := jn_clash
 change (clashV ⟨3, fW, fT⟩ ⟨3, sW, sT ++ [⟨0, 1, -101, 11⟩]⟩ ⟨0, 2, 0, 2⟩).2 = 0 at q1
 change (clashV ⟨3, fW, fT⟩ ⟨3, sW, sT ++ [⟨0, 1, -101, 11⟩]⟩ ⟨0, 2, 0, 2⟩).1.2 = _ at q2
 change (clashV ⟨3, fW, fT⟩ ⟨3, sW, sT ++ [⟨0, 1, -101, 11⟩]⟩ ⟨0, 2, 0, 2⟩).1.1.length = 2 at q3
 generalize clashV ⟨3, fW, fT⟩ ⟨3, sW, sT ++ [⟨0, 1, -101, 11⟩]⟩ ⟨0, 2, 0, 2⟩ = V at q1 q2 q3
 rintro e w' ⟨I, n, c, rfl, hr, _, hb⟩
 obtain ⟨⟨V1, V2, V3⟩, V4⟩ := V
 dsimp only at q1 q2 q3
 injection q2 with q2 q2'
 subst q1 q2 q2'
 obtain rfl : n = 2 := hr.len.symm.trans q3
 exact ⟨I, c, rfl, hb⟩
section
variable (w : World) (A B C D : Option Addr) (h1 : RdB w A 6 6 fW) (h2 : RdB w B 4 4 fT) (h3 : RdB w C 6 6 sW) (h4 : RdB w D 4 4 sT)
include w A B C D h1 h2 h3 h4
theorem j_place (X Y Z U : Option Addr) (x1 : RdI w X 4 4 [0, 11, 31, 36]) (x2 : RdI w Y 4 4 [0, 20, 31, 40]) (x3 : RdI w Z 3 3 [0, 90, 190]) (x4 : RdI w U 3 3 [0, -95, -115]) :
 Calls Tryz.prog 18 #[.agg #[.int .i64 3, .slice A 6 6, .slice B 4 4], .agg #[.int .i64 3, .slice C 6 6, .slice D 4 4], .agg #[.int .i64 0, .int .i64 1, .int .i64 1, .int .i64 2], .agg #[.slice X 4 4, .slice Y 4 4, .slice Z 3 3, .slice U 3 3]] w fun e w' => e = .returned (.tuple #[.bool true, .int .i64 0]) ∧ Below w.heap.size w w' := by
 have h := CheckPlace_any 3 A B 6 6 4 4 fW fT 3 C D 6 6 4 4 sW sT 0 1 1 2 w h1 h2 (by unfold maxLen; omega) (by unfold maxLen; omega) h3 h4 (by unfold maxLen; omega) (by unfold maxLen; omega) X 4 4 [0, 11, 31, 36] Y 4 4 [0, 20, 31, 40] Z 3 3 [0, 90, 190] U 3 3 [0, -95, -115] x1 (by unfold maxLen; omega) x2 (by unfold maxLen; omega) x3 (by unfold maxLen; omega) x4 (by unfold maxLen; omega)
 rw [show checkPlaceV ⟨3, fW, fT⟩ ⟨3, sW, sT⟩ ⟨0, 1, 1, 2⟩ [0, 11, 31, 36] [0, 20, 31, 40] [0, 90, 190] [0, -95, -115] = (true, 0) from jn_place] at h
 exact h
theorem j_rests (X : Option Addr) (x1 : RdI w X 2 2 [0, 7]) :
 Calls Tryz.prog 20 #[.agg #[.int .i64 3, .slice A 6 6, .slice B 4 4], .agg #[.int .i64 3, .slice C 6 6, .slice D 4 4], .agg #[.int .i64 0, .int .i64 1, .int .i64 0, .int .i64 1], .agg #[.bool false, .slice X 2 2]] w fun e w' => ∃ E c, e = .returned (.tuple #[.slice E 2 c, .int .i64 0]) ∧ RdI w' E 2 c [1, 6] ∧ Below w.heap.size w w' := by
 have h := Rests_any 3 A B 6 6 4 4 fW fT 3 C D 6 6 4 4 sW sT 0 1 0 1 w h1 h2 (by unfold maxLen; omega) (by unfold maxLen; omega) h3 h4 (by unfold maxLen; omega) (by unfold maxLen; omega) false X 2 2 [0, 7] x1 (by omega)
 rw [show erestsV false ⟨3, fW, fT⟩ ⟨3, sW, sT⟩ ⟨0, 1, 0, 1⟩ [0, 7] = ([1, 6], 0) from jn_rests] at h
 refine h.mono ?_
 rintro e w' ⟨E, n, c, rfl, hr, _, hb⟩
 obtain rfl : n = 2 := hr.len.symm
 exact ⟨E, c, rfl, hr, hb⟩
end
end Go.Proofs.YtjjmifcjailpaaaGreat
set_option linter.unusedSimpArgs false
set_option linter.unusedVariables false
namespace Go.Proofs.YtjjmifcjailpaaaGreat
open Go.RowKit
theorem rdI_new (w : World) (L : List Int) (n : Nat) (hn : L.length = n) : RdI (w.alloc (.cells (arr L) 3)) (some ⟨w.heap.size, 0, none⟩) n n L := by
 refine ⟨hn, Nat.le_refl _, (fun h => by cases h), .inr ⟨w.heap.size, 0, rfl, by simp, fun j u hu => ?_⟩⟩
 rw [Nat.zero_add, (Blk.new w 3 (arr L)).cell j]
 simpa [arr] using hu
end Go.Proofs.YtjjmifcjailpaaaGreat
set_option linter.unusedSimpArgs false
set_option linter.unusedVariables false
namespace Go.Proofs.YtjjmifcjailpaaaGreat
open Go.RowKit
def r10ops : Array Oper := #[{ dst := some 74, op := Go.Op.load 24 (Go.Operand.tmp 1), type := 24, pos := "law.go:36", after := #[], guard := none }, { dst := some 75, op := Go.Op.load 24 (Go.Operand.tmp 2), type := 24, pos := "law.go:36", after := #[], guard := none }, { dst := some 76, op := Go.Op.call { callee := Go.Callee.value (Go.Operand.func 34), args := #[Go.Operand.const (Go.Value.int Go.IntKind.i64 0), Go.Operand.const (Go.Value.int Go.IntKind.i64 1), Go.Operand.const (Go.Value.int Go.IntKind.i64 1), Go.Operand.const (Go.Value.int Go.IntKind.i64 2)], argTypes := #[3, 3, 3, 3] }, type := 28, pos := "law.go:36", after := #[], guard := none }, { dst := some 77, op := Go.Op.buildSlice 34 4 #[(0, Go.Operand.const (Go.Value.int Go.IntKind.i64 0)), (1, Go.Operand.const (Go.Value.int Go.IntKind.i64 11)), (2, Go.Operand.const (Go.Value.int Go.IntKind.i64 31)), (3, Go.Operand.const (Go.Value.int Go.IntKind.i64 36))], type := 34, pos := "law.go:36", after := #[], guard := none }, { dst := some 78, op := Go.Op.buildSlice 34 4 #[(0, Go.Operand.const (Go.Value.int Go.IntKind.i64 0)), (1, Go.Operand.const (Go.Value.int Go.IntKind.i64 20)), (2, Go.Operand.const (Go.Value.int Go.IntKind.i64 31)), (3, Go.Operand.const (Go.Value.int Go.IntKind.i64 40))], type := 34, pos := "law.go:36", after := #[], guard := none }, { dst := some 79, op := Go.Op.buildSlice 34 3 #[(0, Go.Operand.const (Go.Value.int Go.IntKind.i64 0)), (1, Go.Operand.const (Go.Value.int Go.IntKind.i64 90)), (2, Go.Operand.const (Go.Value.int Go.IntKind.i64 190))], type := 34, pos := "law.go:36", after := #[], guard := none }, { dst := some 80, op := Go.Op.buildSlice 34 3 #[(0, Go.Operand.const (Go.Value.int Go.IntKind.i64 0)), (1, Go.Operand.const (Go.Value.int Go.IntKind.i64 (-95))), (2, Go.Operand.const (Go.Value.int Go.IntKind.i64 (-115)))], type := 34, pos := "law.go:36", after := #[], guard := none }, { dst := some 81, op := Go.Op.build 36 #[(0, Go.Operand.tmp 77), (1, Go.Operand.tmp 78), (2, Go.Operand.tmp 79), (3, Go.Operand.tmp 80)], type := 36, pos := "law.go:36", after := #[{ on := 3, ground := Go.Ground.data }, { on := 4, ground := Go.Ground.data }, { on := 5, ground := Go.Ground.data }, { on := 6, ground := Go.Ground.data }], guard := none }, { dst := some 82, op := Go.Op.call { callee := Go.Callee.value (Go.Operand.func 18), args := #[Go.Operand.tmp 74, Go.Operand.tmp 75, Go.Operand.tmp 76, Go.Operand.tmp 81], argTypes := #[24, 24, 28, 36] }, type := 32, pos := "law.go:36", after := #[{ on := 0, ground := Go.Ground.data }, { on := 1, ground := Go.Ground.data }, { on := 2, ground := Go.Ground.data }, { on := 7, ground := Go.Ground.data }, { on := 2, ground := Go.Ground.chain }], guard := none }, { dst := some 73, op := Go.Op.move (Go.Operand.tmp 82), type := 32, pos := "law.go:36", after := #[{ on := 8, ground := Go.Ground.data }], guard := none }, { dst := some 83, op := Go.Op.extract (Go.Operand.tmp 73) 0, type := 4, pos := "law.go:36", after := #[{ on := 9, ground := Go.Ground.data }], guard := none }, { dst := some 84, op := Go.Op.extract (Go.Operand.tmp 73) 1, type := 31, pos := "law.go:36", after := #[{ on := 9, ground := Go.Ground.data }, { on := 12, ground := Go.Ground.gcOnly Go.Departure.lateStores }], guard := none }, { dst := some 19, op := Go.Op.assign (Go.Operand.tmp 83), type := 4, pos := "law.go:36", after := #[{ on := 10, ground := Go.Ground.data }, { on := 8, ground := Go.Ground.chain }, { on := 0, ground := Go.Ground.phase }, { on := 1, ground := Go.Ground.phase }, { on := 2, ground := Go.Ground.phase }, { on := 3, ground := Go.Ground.phase }, { on := 4, ground := Go.Ground.phase }, { on := 5, ground := Go.Ground.phase }, { on := 6, ground := Go.Ground.phase }, { on := 7, ground := Go.Ground.phase }, { on := 8, ground := Go.Ground.phase }, { on := 9, ground := Go.Ground.phase }, { on := 10, ground := Go.Ground.phase }, { on := 11, ground := Go.Ground.textOnly Go.Departure.lateStores }], guard := none }, { dst := some 20, op := Go.Op.assign (Go.Operand.tmp 84), type := 31, pos := "law.go:36", after := #[{ on := 11, ground := Go.Ground.data }, { on := 12, ground := Go.Ground.chain }, { on := 0, ground := Go.Ground.phase }, { on := 1, ground := Go.Ground.phase }, { on := 2, ground := Go.Ground.phase }, { on := 3, ground := Go.Ground.phase }, { on := 4, ground := Go.Ground.phase }, { on := 5, ground := Go.Ground.phase }, { on := 6, ground := Go.Ground.phase }, { on := 7, ground := Go.Ground.phase }, { on := 8, ground := Go.Ground.phase }, { on := 9, ground := Go.Ground.phase }, { on := 10, ground := Go.Ground.phase }, { on := 11, ground := Go.Ground.phase }, { on := 12, ground := Go.Ground.phase }], guard := none }]
set_option maxRecDepth 100000 in
set_option maxHeartbeats 8000000 in
theorem joined_r10 {Q : Exit → Act → World → Prop} {s0 s3 s4 s5 s6 s7 s8 s9 s10 s11 s12 s13 s14 s15 s16 s17 s18 s19 s20 s21 s22 s23 s24 s25 s26 s27 s28 s29 s30 s31 s32 s33 s34 s35 s36 s37 s38 s39 s40 s41 s42 s43 s44 s45 s46 s47 s48 s49 s50 s51 s52 s53 s54 s55 s56 s57 s58 s59 s60 s61 s62 s63 s64 s65 s66 s67 s68 s69 s70 s71 s72 s73 s74 s75 s76 s77 s78 s79 s80 s81 s82 s83 s84 s85 s86 s87 s88 s89 s90 s91 s92 s93 s94 s95 s96 s97 s98 s99 s100 s101 s102 s103 s104 s105 s106 s107 s108 s109 s110 s111 s112 s113 s114 s115 s116 s117 s118 s119 s120 s121 s122 s123 s124 s125 s126 s127 s128 s129 s130 s131 s132 s133 s134 s135 s136 s137 s138 s139 s140 s141 s142 s143 s144 s145 s146 s147 s148 s149 s150 s151 s152 s153 s154 s155 s156 s157 s158 s159 s160 s161 s162 s163 s164 s165 s166 s167 s168 s169 s170 s171 : Value} {ds : List Deferred} {Ba Bb : Nat} (A B C D : Option Addr) (J : World → Prop) (hJa : ∀ (W : World) (o : Obj), J W → J (W.alloc o)) (hJb : ∀ W W' : World, J W → Below W.heap.size W W' → J W')
 (hJ : ∀ W : World, J W → Blk W Ba 24 #[.int .i64 3, .slice A 6 6, .slice B 4 4] ∧ Blk W Bb 24 #[.int .i64 3, .slice C 6 6, .slice D 4 4] ∧ RdB W A 6 6 fW ∧ RdB W B 4 4 fT ∧ RdB W C 6 6 sW ∧ RdB W D 4 4 sT) (hQp : ∀ (c : List PanicEntry) (a : Act) (d : Nat) (v : Value) (w : World), Q (.panic c) (a.put (some d) v) w → Q (.panic c) a w)
 (fin : ∀ (u73 u74 u75 u76 u77 u78 u79 u80 u81 u82 u83 u84 : Value) (W : World), J W → Q .normal ({ tmps := #[s0, .pointer (some ⟨Ba, 0, none⟩), .pointer (some ⟨Bb, 0, none⟩), s3, s4, s5, s6, s7, s8, s9, s10, s11, s12, s13, s14, s15, s16, s17, s18, .bool true, .int .i64 0, s21, s22, s23, s24, s25, s26, s27, s28, s29, s30, s31, s32, s33, s34, s35, s36, s37, s38, s39, s40, s41, s42, s43, s44, s45, s46, s47, s48, s49, s50, s51, s52, s53, s54, s55, s56, s57, s58, s59, s60, s61, s62, s63, s64, s65, s66, s67, s68, s69, s70, s71, s72, u73, u74, u75, u76, u77, u78, u79, u80, u81, u82, u83, u84, s85, s86, s87, s88, s89, s90, s91, s92, s93, s94, s95, s96, s97, s98, s99, s100, s101, s102, s103, s104, s105, s106, s107, s108, s109, s110, s111, s112, s113, s114, s115, s116, s117, s118, s119, s120, s121, s122, s123, s124, s125, s126, s127, s128, s129, s130, s131, s132, s133, s134, s135, s136, s137, s138, s139, s140, s141, s142, s143, s144, s145, s146, s147, s148, s149, s150, s151, s152, s153, s154, s155, s156, s157, s158, s159, s160, s161, s162, s163, s164, s165, s166, s167, s168, s169, s170, s171], defers := ds }) W) (W0 : World) (hj0 : J W0) :
 wpAnyH Tryz.prog .any r10ops Q J 14 (Array.replicate 14 false) ({ tmps := #[s0, .pointer (some ⟨Ba, 0, none⟩), .pointer (some ⟨Bb, 0, none⟩), s3, s4, s5, s6, s7, s8, s9, s10, s11, s12, s13, s14, s15, s16, s17, s18, s19, s20, s21, s22, s23, s24, s25, s26, s27, s28, s29, s30, s31, s32, s33, s34, s35, s36, s37, s38, s39, s40, s41, s42, s43, s44, s45, s46, s47, s48, s49, s50, s51, s52, s53, s54, s55, s56, s57, s58, s59, s60, s61, s62, s63, s64, s65, s66, s67, s68, s69, s70, s71, s72, s73, s74, s75, s76, s77, s78, s79, s80, s81, s82, s83, s84, s85, s86, s87, s88, s89, s90, s91, s92, s93, s94, s95, s96, s97, s98, s99, s100, s101, s102, s103, s104, s105, s106, s107, s108, s109, s110, s111, s112, s113, s114, s115, s116, s117, s118, s119, s120, s121, s122, s123, s124, s125, s126, s127, s128, s129, s130, s131, s132, s133, s134, s135, s136, s137, s138, s139, s140, s141, s142, s143, s144, s145, s146, s147, s148, s149, s150, s151, s152, s153, s154, s155, s156, s157, s158, s159, s160, s161, s162, s163, s164, s165, s166, s167, s168, s169, s170, s171], defers := ds }) W0 := by
 obtain ⟨FR, hFR⟩ : ∃ FR : Value → Value → Value → Value → Value → Act, FR = fun v76 v77 v78 v79 v80 => { tmps := #[s0, .pointer (some ⟨Ba, 0, none⟩), .pointer (some ⟨Bb, 0, none⟩), s3, s4, s5, s6, s7, s8, s9, s10, s11, s12, s13, s14, s15, s16, s17, s18, s19, s20, s21, s22, s23, s24, s25, s26, s27, s28, s29, s30, s31, s32, s33, s34, s35, s36, s37, s38, s39, s40, s41, s42, s43, s44, s45, s46, s47, s48, s49, s50, s51, s52, s53, s54, s55, s56, s57, s58, s59, s60, s61, s62, s63, s64, s65, s66, s67, s68, s69, s70, s71, s72, s73, .agg #[.int .i64 3, .slice A 6 6, .slice B 4 4], .agg #[.int .i64 3, .slice C 6 6, .slice D 4 4], v76, v77, v78, v79, v80, s81, s82, s83, s84, s85, s86, s87, s88, s89, s90, s91, s92, s93, s94, s95, s96, s97, s98, s99, s100, s101, s102, s103, s104, s105, s106, s107, s108, s109, s110, s111, s112, s113, s114, s115, s116, s117, s118, s119, s120, s121, s122, s123, s124, s125, s126, s127, s128, s129, s130, s131, s132, s133, s134, s135, s136, s137, s138, s139, s140, s141, s142, s143, s144, s145, s146, s147, s148, s149, s150, s151, s152, s153, s154, s155, s156, s157, s158, s159, s160, s161, s162, s163, s164, s165, s166, s167, s168, s169, s170, s171], defers := ds } := ⟨_, rfl⟩
 have x_ : ∀ (a0 a1 a2 a3 : Nat) (W : World), J W → RdI W (some ⟨a0, 0, none⟩) 4 4 [0, 11, 31, 36] → RdI W (some ⟨a1, 0, none⟩) 4 4 [0, 20, 31, 40] → RdI W (some ⟨a2, 0, none⟩) 3 3 [0, 90, 190] → RdI W (some ⟨a3, 0, none⟩) 3 3 [0, -95, -115] → wpAnyH Tryz.prog .any r10ops Q J 7 #[true, true, true, true, true, true, true, false, false, false, false, false, false, false] (FR (.agg #[.int .i64 0, .int .i64 1, .int .i64 1, .int .i64 2]) (.slice (some ⟨a0, 0, none⟩) 4 4) (.slice (some ⟨a1, 0, none⟩) 4 4) (.slice (some ⟨a2, 0, none⟩) 3 3) (.slice (some ⟨a3, 0, none⟩) 3 3)) W := by
  intro a0 a1 a2 a3 W hj f3 f4 f5 f6
  rw [hFR]
  dsimp only
  clear hFR FR
  have HJ := Lib.hid hj
  have F3 := Lib.hid f3; have F4 := Lib.hid f4; have F5 := Lib.hid f5; have F6 := Lib.hid f6; clear hj f3 f4 f5 f6
  refine' twH 7 HJ.out ?_ (hQ := fun _ _ _ h => hQp _ _ _ _ _ h)
  try simp only [Act.put, qsA, qsZ, qsS]
  refine oneH 8 rfl fun K hK => ?_
  obtain ⟨_, _, r1, r2, r3, r4⟩ := hJ _ HJ.out
  have hc := j_place _ A B C D r1 r2 r3 r4 _ _ _ _ F3.out F4.out F5.out F6.out
  clear r1 r2 r3 r4
  have HC := Lib.hid hc; clear hc
  go_simp
  go_at_call 18
  refine (HC.out).mono ?_
  rintro e W2 ⟨rfl, hb⟩
  dsimp only
  have a4 := Lib.hid (hJb _ _ HJ.out hb)
  refine hK.out _ _ a4.out (fun _ => ?_); clear hK K
  try simp only [Act.put, qsA, qsZ, qsS]
  refine' twH 9 a4.out ?_ (hQ := fun _ _ _ h => hQp _ _ _ _ _ h)
  refine' twH 10 a4.out ?_ (hQ := fun _ _ _ h => hQp _ _ _ _ _ h)
  refine' twH 11 a4.out ?_ (hQ := fun _ _ _ h => hQp _ _ _ _ _ h)
  refine' twH 12 a4.out ?_ (hQ := fun _ _ _ h => hQp _ _ _ _ _ h)
  try simp only [Act.put, qsA, qsZ, qsS]
  refine' twH 13 a4.out ?_ (hQ := fun _ _ _ h => hQp _ _ _ _ _ h)
  try simp only [Act.put, qsA, qsZ, qsS]
  refine wpAnyH_done (by kernel_rfl) ?_ _
  exact fin _ _ _ _ _ _ _ _ _ _ _ _ _ a4.out
 have a6 := Lib.hid x_; clear x_
 have x_ : ∀ (a0 a1 a2 : Nat) (W : World), J W → RdI W (some ⟨a0, 0, none⟩) 4 4 [0, 11, 31, 36] → RdI W (some ⟨a1, 0, none⟩) 4 4 [0, 20, 31, 40] → RdI W (some ⟨a2, 0, none⟩) 3 3 [0, 90, 190] → wpAnyH Tryz.prog .any r10ops Q J 8 #[true, true, true, true, true, true, false, false, false, false, false, false, false, false] (FR (.agg #[.int .i64 0, .int .i64 1, .int .i64 1, .int .i64 2]) (.slice (some ⟨a0, 0, none⟩) 4 4) (.slice (some ⟨a1, 0, none⟩) 4 4) (.slice (some ⟨a2, 0, none⟩) 3 3) (s80)) W := by
  intro a0 a1 a2 W hj f3 f4 f5
  rw [hFR]
  dsimp only
  refine wpAnyH_ready (rs := [6]) (by kernel_rfl) (by simp) ?_
  refine rdH rfl (fun K hK => ?_) ?_
  · go_simp
    have h := a6.out a0 a1 a2 W.heap.size (W.alloc (.cells #[.int .i64 0, .int .i64 (-95), .int .i64 (-115)] 3)) (hJa _ _ hj) (f3.alloc _) (f4.alloc _) (f5.alloc _) (rdI_new W [0, -95, -115] 3 rfl)
    rw [hFR] at h
    refine hK.out _ _ (hJa _ _ hj) (fun _ => ?_)
    try simp only [Act.put, List.setIfInBounds_toArray, List.set_cons_zero, List.set_cons_succ]
    exact h
  exact AllReadyH.nil
 have a7 := Lib.hid x_; clear x_
 have x_ : ∀ (a0 a1 a3 : Nat) (W : World), J W → RdI W (some ⟨a0, 0, none⟩) 4 4 [0, 11, 31, 36] → RdI W (some ⟨a1, 0, none⟩) 4 4 [0, 20, 31, 40] → RdI W (some ⟨a3, 0, none⟩) 3 3 [0, -95, -115] → wpAnyH Tryz.prog .any r10ops Q J 8 #[true, true, true, true, true, false, true, false, false, false, false, false, false, false] (FR (.agg #[.int .i64 0, .int .i64 1, .int .i64 1, .int .i64 2]) (.slice (some ⟨a0, 0, none⟩) 4 4) (.slice (some ⟨a1, 0, none⟩) 4 4) (s79) (.slice (some ⟨a3, 0, none⟩) 3 3)) W := by
  intro a0 a1 a3 W hj f3 f4 f6
  rw [hFR]
  dsimp only
  refine wpAnyH_ready (rs := [5]) (by kernel_rfl) (by simp) ?_
  refine rdH rfl (fun K hK => ?_) ?_
  · go_simp
    have h := a6.out a0 a1 W.heap.size a3 (W.alloc (.cells #[.int .i64 0, .int .i64 90, .int .i64 190] 3)) (hJa _ _ hj) (f3.alloc _) (f4.alloc _) (rdI_new W [0, 90, 190] 3 rfl) (f6.alloc _)
    rw [hFR] at h
    refine hK.out _ _ (hJa _ _ hj) (fun _ => ?_)
    try simp only [Act.put, List.setIfInBounds_toArray, List.set_cons_zero, List.set_cons_succ]
    exact h
  exact AllReadyH.nil
 have a8 := Lib.hid x_; clear x_
 have x_ : ∀ (a0 a2 a3 : Nat) (W : World), J W → RdI W (some ⟨a0, 0, none⟩) 4 4 [0, 11, 31, 36] → RdI W (some ⟨a2, 0, none⟩) 3 3 [0, 90, 190] → RdI W (some ⟨a3, 0, none⟩) 3 3 [0, -95, -115] → wpAnyH Tryz.prog .any r10ops Q J 8 #[true, true, true, true, false, true, true, false, false, false, false, false, false, false] (FR (.agg #[.int .i64 0, .int .i64 1, .int .i64 1, .int .i64 2]) (.slice (some ⟨a0, 0, none⟩) 4 4) (s78) (.slice (some ⟨a2, 0, none⟩) 3 3) (.slice (some ⟨a3, 0, none⟩) 3 3)) W := by
  intro a0 a2 a3 W hj f3 f5 f6
  rw [hFR]
  dsimp only
  refine wpAnyH_ready (rs := [4]) (by kernel_rfl) (by simp) ?_
  refine rdH rfl (fun K hK => ?_) ?_
  · go_simp
    have h := a6.out a0 W.heap.size a2 a3 (W.alloc (.cells #[.int .i64 0, .int .i64 20, .int .i64 31, .int .i64 40] 3)) (hJa _ _ hj) (f3.alloc _) (rdI_new W [0, 20, 31, 40] 4 rfl) (f5.alloc _) (f6.alloc _)
    rw [hFR] at h
    refine hK.out _ _ (hJa _ _ hj) (fun _ => ?_)
    try simp only [Act.put, List.setIfInBounds_toArray, List.set_cons_zero, List.set_cons_succ]
    exact h
  exact AllReadyH.nil
 have a9 := Lib.hid x_; clear x_
 have x_ : ∀ (a1 a2 a3 : Nat) (W : World), J W → RdI W (some ⟨a1, 0, none⟩) 4 4 [0, 20, 31, 40] → RdI W (some ⟨a2, 0, none⟩) 3 3 [0, 90, 190] → RdI W (some ⟨a3, 0, none⟩) 3 3 [0, -95, -115] → wpAnyH Tryz.prog .any r10ops Q J 8 #[true, true, true, false, true, true, true, false, false, false, false, false, false, false] (FR (.agg #[.int .i64 0, .int .i64 1, .int .i64 1, .int .i64 2]) (s77) (.slice (some ⟨a1, 0, none⟩) 4 4) (.slice (some ⟨a2, 0, none⟩) 3 3) (.slice (some ⟨a3, 0, none⟩) 3 3)) W := by
  intro a1 a2 a3 W hj f4 f5 f6
  rw [hFR]
  dsimp only
  refine wpAnyH_ready (rs := [3]) (by kernel_rfl) (by simp) ?_
  refine rdH rfl (fun K hK => ?_) ?_
  · go_simp
    have h := a6.out W.heap.size a1 a2 a3 (W.alloc (.cells #[.int .i64 0, .int .i64 11, .int .i64 31, .int .i64 36] 3)) (hJa _ _ hj) (rdI_new W [0, 11, 31, 36] 4 rfl) (f4.alloc _) (f5.alloc _) (f6.alloc _)
    rw [hFR] at h
    refine hK.out _ _ (hJa _ _ hj) (fun _ => ?_)
    try simp only [Act.put, List.setIfInBounds_toArray, List.set_cons_zero, List.set_cons_succ]
    exact h
  exact AllReadyH.nil
 have b0 := Lib.hid x_; clear x_
 have x_ : ∀ (a0 a1 a2 a3 : Nat) (W : World), J W → RdI W (some ⟨a0, 0, none⟩) 4 4 [0, 11, 31, 36] → RdI W (some ⟨a1, 0, none⟩) 4 4 [0, 20, 31, 40] → RdI W (some ⟨a2, 0, none⟩) 3 3 [0, 90, 190] → RdI W (some ⟨a3, 0, none⟩) 3 3 [0, -95, -115] → wpAnyH Tryz.prog .any r10ops Q J 8 #[true, true, false, true, true, true, true, false, false, false, false, false, false, false] (FR s76 (.slice (some ⟨a0, 0, none⟩) 4 4) (.slice (some ⟨a1, 0, none⟩) 4 4) (.slice (some ⟨a2, 0, none⟩) 3 3) (.slice (some ⟨a3, 0, none⟩) 3 3)) W := by
  intro a0 a1 a2 a3 W hj f3 f4 f5 f6
  rw [hFR]
  dsimp only
  have HJ := Lib.hid hj
  have F3 := Lib.hid f3; have F4 := Lib.hid f4; have F5 := Lib.hid f5; have F6 := Lib.hid f6; clear hj f3 f4 f5 f6
  refine' twH 7 HJ.out ?_ (hQ := fun _ _ _ h => hQp _ _ _ _ _ h)
  try simp only [Act.put, qsA, qsZ, qsS]
  refine oneH 2 rfl fun K hK => ?_
  go_simp
  go_at_call 34
  refine (of_any 0 1 1 2 _).mono ?_
  rintro e W1 ⟨rfl, hb⟩
  dsimp only
  have d2 := Lib.hid (hJb _ _ HJ.out hb)
  replace F3 := Lib.hid (RdI.below F3.out hb)
  replace F4 := Lib.hid (RdI.below F4.out hb)
  replace F5 := Lib.hid (RdI.below F5.out hb)
  replace F6 := Lib.hid (RdI.below F6.out hb)
  clear hb HJ
  have HJ := d2
  refine hK.out _ _ d2.out (fun _ => ?_); clear hK K
  try simp only [Act.put, qsA, qsZ, qsS]
  refine oneH 8 rfl fun K hK => ?_
  obtain ⟨_, _, r1, r2, r3, r4⟩ := hJ _ HJ.out
  have hc := j_place _ A B C D r1 r2 r3 r4 _ _ _ _ F3.out F4.out F5.out F6.out
  clear r1 r2 r3 r4
  have HC := Lib.hid hc; clear hc
  go_simp
  go_at_call 18
  refine (HC.out).mono ?_
  rintro e W2 ⟨rfl, hb⟩
  dsimp only
  have a5 := Lib.hid (hJb _ _ HJ.out hb)
  refine hK.out _ _ a5.out (fun _ => ?_); clear hK K
  try simp only [Act.put, qsA, qsZ, qsS]
  refine' twH 9 a5.out ?_ (hQ := fun _ _ _ h => hQp _ _ _ _ _ h)
  refine' twH 10 a5.out ?_ (hQ := fun _ _ _ h => hQp _ _ _ _ _ h)
  refine' twH 11 a5.out ?_ (hQ := fun _ _ _ h => hQp _ _ _ _ _ h)
  refine' twH 12 a5.out ?_ (hQ := fun _ _ _ h => hQp _ _ _ _ _ h)
  try simp only [Act.put, qsA, qsZ, qsS]
  refine' twH 13 a5.out ?_ (hQ := fun _ _ _ h => hQp _ _ _ _ _ h)
  try simp only [Act.put, qsA, qsZ, qsS]
  refine wpAnyH_done (by kernel_rfl) ?_ _
  exact fin _ _ _ _ _ _ _ _ _ _ _ _ _ a5.out
 have b1 := Lib.hid x_; clear x_
 have x_ : ∀ (a0 a1 : Nat) (W : World), J W → RdI W (some ⟨a0, 0, none⟩) 4 4 [0, 11, 31, 36] → RdI W (some ⟨a1, 0, none⟩) 4 4 [0, 20, 31, 40] → wpAnyH Tryz.prog .any r10ops Q J 9 #[true, true, true, true, true, false, false, false, false, false, false, false, false, false] (FR (.agg #[.int .i64 0, .int .i64 1, .int .i64 1, .int .i64 2]) (.slice (some ⟨a0, 0, none⟩) 4 4) (.slice (some ⟨a1, 0, none⟩) 4 4) (s79) (s80)) W := by
  intro a0 a1 W hj f3 f4
  rw [hFR]
  dsimp only
  refine wpAnyH_ready (rs := [5, 6]) (by kernel_rfl) (by simp) ?_
  refine rdH rfl (fun K hK => ?_) ?_
  · go_simp
    have h := a7.out a0 a1 W.heap.size (W.alloc (.cells #[.int .i64 0, .int .i64 90, .int .i64 190] 3)) (hJa _ _ hj) (f3.alloc _) (f4.alloc _) (rdI_new W [0, 90, 190] 3 rfl)
    rw [hFR] at h
    refine hK.out _ _ (hJa _ _ hj) (fun _ => ?_)
    try simp only [Act.put, List.setIfInBounds_toArray, List.set_cons_zero, List.set_cons_succ]
    exact h
  refine rdH rfl (fun K hK => ?_) ?_
  · go_simp
    have h := a8.out a0 a1 W.heap.size (W.alloc (.cells #[.int .i64 0, .int .i64 (-95), .int .i64 (-115)] 3)) (hJa _ _ hj) (f3.alloc _) (f4.alloc _) (rdI_new W [0, -95, -115] 3 rfl)
    rw [hFR] at h
    refine hK.out _ _ (hJa _ _ hj) (fun _ => ?_)
    try simp only [Act.put, List.setIfInBounds_toArray, List.set_cons_zero, List.set_cons_succ]
    exact h
  exact AllReadyH.nil
 have b2 := Lib.hid x_; clear x_
 have x_ : ∀ (a0 a2 : Nat) (W : World), J W → RdI W (some ⟨a0, 0, none⟩) 4 4 [0, 11, 31, 36] → RdI W (some ⟨a2, 0, none⟩) 3 3 [0, 90, 190] → wpAnyH Tryz.prog .any r10ops Q J 9 #[true, true, true, true, false, true, false, false, false, false, false, false, false, false] (FR (.agg #[.int .i64 0, .int .i64 1, .int .i64 1, .int .i64 2]) (.slice (some ⟨a0, 0, none⟩) 4 4) (s78) (.slice (some ⟨a2, 0, none⟩) 3 3) (s80)) W := by
  intro a0 a2 W hj f3 f5
  rw [hFR]
  dsimp only
  refine wpAnyH_ready (rs := [4, 6]) (by kernel_rfl) (by simp) ?_
  refine rdH rfl (fun K hK => ?_) ?_
  · go_simp
    have h := a7.out a0 W.heap.size a2 (W.alloc (.cells #[.int .i64 0, .int .i64 20, .int .i64 31, .int .i64 40] 3)) (hJa _ _ hj) (f3.alloc _) (rdI_new W [0, 20, 31, 40] 4 rfl) (f5.alloc _)
    rw [hFR] at h
    refine hK.out _ _ (hJa _ _ hj) (fun _ => ?_)
    try simp only [Act.put, List.setIfInBounds_toArray, List.set_cons_zero, List.set_cons_succ]
    exact h
  refine rdH rfl (fun K hK => ?_) ?_
  · go_simp
    have h := a9.out a0 a2 W.heap.size (W.alloc (.cells #[.int .i64 0, .int .i64 (-95), .int .i64 (-115)] 3)) (hJa _ _ hj) (f3.alloc _) (f5.alloc _) (rdI_new W [0, -95, -115] 3 rfl)
    rw [hFR] at h
    refine hK.out _ _ (hJa _ _ hj) (fun _ => ?_)
    try simp only [Act.put, List.setIfInBounds_toArray, List.set_cons_zero, List.set_cons_succ]
    exact h
  exact AllReadyH.nil
 have b3 := Lib.hid x_; clear x_
 have x_ : ∀ (a0 a3 : Nat) (W : World), J W → RdI W (some ⟨a0, 0, none⟩) 4 4 [0, 11, 31, 36] → RdI W (some ⟨a3, 0, none⟩) 3 3 [0, -95, -115] → wpAnyH Tryz.prog .any r10ops Q J 9 #[true, true, true, true, false, false, true, false, false, false, false, false, false, false] (FR (.agg #[.int .i64 0, .int .i64 1, .int .i64 1, .int .i64 2]) (.slice (some ⟨a0, 0, none⟩) 4 4) (s78) (s79) (.slice (some ⟨a3, 0, none⟩) 3 3)) W := by
  intro a0 a3 W hj f3 f6
  rw [hFR]
  dsimp only
  refine wpAnyH_ready (rs := [4, 5]) (by kernel_rfl) (by simp) ?_
  refine rdH rfl (fun K hK => ?_) ?_
  · go_simp
    have h := a8.out a0 W.heap.size a3 (W.alloc (.cells #[.int .i64 0, .int .i64 20, .int .i64 31, .int .i64 40] 3)) (hJa _ _ hj) (f3.alloc _) (rdI_new W [0, 20, 31, 40] 4 rfl) (f6.alloc _)
    rw [hFR] at h
    refine hK.out _ _ (hJa _ _ hj) (fun _ => ?_)
    try simp only [Act.put, List.setIfInBounds_toArray, List.set_cons_zero, List.set_cons_succ]
    exact h
  refine rdH rfl (fun K hK => ?_) ?_
  · go_simp
    have h := a9.out a0 W.heap.size a3 (W.alloc (.cells #[.int .i64 0, .int .i64 90, .int .i64 190] 3)) (hJa _ _ hj) (f3.alloc _) (rdI_new W [0, 90, 190] 3 rfl) (f6.alloc _)
    rw [hFR] at h
    refine hK.out _ _ (hJa _ _ hj) (fun _ => ?_)
    try simp only [Act.put, List.setIfInBounds_toArray, List.set_cons_zero, List.set_cons_succ]
    exact h
  exact AllReadyH.nil
 have b4 := Lib.hid x_; clear x_
 have x_ : ∀ (a1 a2 : Nat) (W : World), J W → RdI W (some ⟨a1, 0, none⟩) 4 4 [0, 20, 31, 40] → RdI W (some ⟨a2, 0, none⟩) 3 3 [0, 90, 190] → wpAnyH Tryz.prog .any r10ops Q J 9 #[true, true, true, false, true, true, false, false, false, false, false, false, false, false] (FR (.agg #[.int .i64 0, .int .i64 1, .int .i64 1, .int .i64 2]) (s77) (.slice (some ⟨a1, 0, none⟩) 4 4) (.slice (some ⟨a2, 0, none⟩) 3 3) (s80)) W := by
  intro a1 a2 W hj f4 f5
  rw [hFR]
  dsimp only
  refine wpAnyH_ready (rs := [3, 6]) (by kernel_rfl) (by simp) ?_
  refine rdH rfl (fun K hK => ?_) ?_
  · go_simp
    have h := a7.out W.heap.size a1 a2 (W.alloc (.cells #[.int .i64 0, .int .i64 11, .int .i64 31, .int .i64 36] 3)) (hJa _ _ hj) (rdI_new W [0, 11, 31, 36] 4 rfl) (f4.alloc _) (f5.alloc _)
    rw [hFR] at h
    refine hK.out _ _ (hJa _ _ hj) (fun _ => ?_)
    try simp only [Act.put, List.setIfInBounds_toArray, List.set_cons_zero, List.set_cons_succ]
    exact h
  refine rdH rfl (fun K hK => ?_) ?_
  · go_simp
    have h := b0.out a1 a2 W.heap.size (W.alloc (.cells #[.int .i64 0, .int .i64 (-95), .int .i64 (-115)] 3)) (hJa _ _ hj) (f4.alloc _) (f5.alloc _) (rdI_new W [0, -95, -115] 3 rfl)
    rw [hFR] at h
    refine hK.out _ _ (hJa _ _ hj) (fun _ => ?_)
    try simp only [Act.put, List.setIfInBounds_toArray, List.set_cons_zero, List.set_cons_succ]
    exact h
  exact AllReadyH.nil
 have b5 := Lib.hid x_; clear x_
 have x_ : ∀ (a1 a3 : Nat) (W : World), J W → RdI W (some ⟨a1, 0, none⟩) 4 4 [0, 20, 31, 40] → RdI W (some ⟨a3, 0, none⟩) 3 3 [0, -95, -115] → wpAnyH Tryz.prog .any r10ops Q J 9 #[true, true, true, false, true, false, true, false, false, false, false, false, false, false] (FR (.agg #[.int .i64 0, .int .i64 1, .int .i64 1, .int .i64 2]) (s77) (.slice (some ⟨a1, 0, none⟩) 4 4) (s79) (.slice (some ⟨a3, 0, none⟩) 3 3)) W := by
  intro a1 a3 W hj f4 f6
  rw [hFR]
  dsimp only
  refine wpAnyH_ready (rs := [3, 5]) (by kernel_rfl) (by simp) ?_
  refine rdH rfl (fun K hK => ?_) ?_
  · go_simp
    have h := a8.out W.heap.size a1 a3 (W.alloc (.cells #[.int .i64 0, .int .i64 11, .int .i64 31, .int .i64 36] 3)) (hJa _ _ hj) (rdI_new W [0, 11, 31, 36] 4 rfl) (f4.alloc _) (f6.alloc _)
    rw [hFR] at h
    refine hK.out _ _ (hJa _ _ hj) (fun _ => ?_)
    try simp only [Act.put, List.setIfInBounds_toArray, List.set_cons_zero, List.set_cons_succ]
    exact h
  refine rdH rfl (fun K hK => ?_) ?_
  · go_simp
    have h := b0.out a1 W.heap.size a3 (W.alloc (.cells #[.int .i64 0, .int .i64 90, .int .i64 190] 3)) (hJa _ _ hj) (f4.alloc _) (rdI_new W [0, 90, 190] 3 rfl) (f6.alloc _)
    rw [hFR] at h
    refine hK.out _ _ (hJa _ _ hj) (fun _ => ?_)
    try simp only [Act.put, List.setIfInBounds_toArray, List.set_cons_zero, List.set_cons_succ]
    exact h
  exact AllReadyH.nil
 have b6 := Lib.hid x_; clear x_
 have x_ : ∀ (a2 a3 : Nat) (W : World), J W → RdI W (some ⟨a2, 0, none⟩) 3 3 [0, 90, 190] → RdI W (some ⟨a3, 0, none⟩) 3 3 [0, -95, -115] → wpAnyH Tryz.prog .any r10ops Q J 9 #[true, true, true, false, false, true, true, false, false, false, false, false, false, false] (FR (.agg #[.int .i64 0, .int .i64 1, .int .i64 1, .int .i64 2]) (s77) (s78) (.slice (some ⟨a2, 0, none⟩) 3 3) (.slice (some ⟨a3, 0, none⟩) 3 3)) W := by
  intro a2 a3 W hj f5 f6
  rw [hFR]
  dsimp only
  refine wpAnyH_ready (rs := [3, 4]) (by kernel_rfl) (by simp) ?_
  refine rdH rfl (fun K hK => ?_) ?_
  · go_simp
    have h := a9.out W.heap.size a2 a3 (W.alloc (.cells #[.int .i64 0, .int .i64 11, .int .i64 31, .int .i64 36] 3)) (hJa _ _ hj) (rdI_new W [0, 11, 31, 36] 4 rfl) (f5.alloc _) (f6.alloc _)
    rw [hFR] at h
    refine hK.out _ _ (hJa _ _ hj) (fun _ => ?_)
    try simp only [Act.put, List.setIfInBounds_toArray, List.set_cons_zero, List.set_cons_succ]
    exact h
  refine rdH rfl (fun K hK => ?_) ?_
  · go_simp
    have h := b0.out W.heap.size a2 a3 (W.alloc (.cells #[.int .i64 0, .int .i64 20, .int .i64 31, .int .i64 40] 3)) (hJa _ _ hj) (rdI_new W [0, 20, 31, 40] 4 rfl) (f5.alloc _) (f6.alloc _)
    rw [hFR] at h
    refine hK.out _ _ (hJa _ _ hj) (fun _ => ?_)
    try simp only [Act.put, List.setIfInBounds_toArray, List.set_cons_zero, List.set_cons_succ]
    exact h
  exact AllReadyH.nil
 have b7 := Lib.hid x_; clear x_
 have x_ : ∀ (a0 a1 a2 : Nat) (W : World), J W → RdI W (some ⟨a0, 0, none⟩) 4 4 [0, 11, 31, 36] → RdI W (some ⟨a1, 0, none⟩) 4 4 [0, 20, 31, 40] → RdI W (some ⟨a2, 0, none⟩) 3 3 [0, 90, 190] → wpAnyH Tryz.prog .any r10ops Q J 9 #[true, true, false, true, true, true, false, false, false, false, false, false, false, false] (FR s76 (.slice (some ⟨a0, 0, none⟩) 4 4) (.slice (some ⟨a1, 0, none⟩) 4 4) (.slice (some ⟨a2, 0, none⟩) 3 3) (s80)) W := by
  intro a0 a1 a2 W hj f3 f4 f5
  rw [hFR]
  dsimp only
  refine wpAnyH_ready (rs := [2, 6]) (by kernel_rfl) (by simp) ?_
  refine rdH rfl (fun K hK => ?_) ?_
  · go_simp
    go_at_call 34
    refine (of_any 0 1 1 2 _).mono ?_
    rintro e W1 ⟨rfl, hb⟩
    dsimp only
    have h := a7.out a0 a1 a2 W1 (hJb _ _ hj hb) (f3.below hb) (f4.below hb) (f5.below hb)
    rw [hFR] at h
    refine hK.out _ _ (hJb _ _ hj hb) (fun _ => ?_)
    try simp only [Act.put, List.setIfInBounds_toArray, List.set_cons_zero, List.set_cons_succ]
    exact h
  refine rdH rfl (fun K hK => ?_) ?_
  · go_simp
    have h := b1.out a0 a1 a2 W.heap.size (W.alloc (.cells #[.int .i64 0, .int .i64 (-95), .int .i64 (-115)] 3)) (hJa _ _ hj) (f3.alloc _) (f4.alloc _) (f5.alloc _) (rdI_new W [0, -95, -115] 3 rfl)
    rw [hFR] at h
    refine hK.out _ _ (hJa _ _ hj) (fun _ => ?_)
    try simp only [Act.put, List.setIfInBounds_toArray, List.set_cons_zero, List.set_cons_succ]
    exact h
  exact AllReadyH.nil
 have b8 := Lib.hid x_; clear x_
 have x_ : ∀ (a0 a1 a3 : Nat) (W : World), J W → RdI W (some ⟨a0, 0, none⟩) 4 4 [0, 11, 31, 36] → RdI W (some ⟨a1, 0, none⟩) 4 4 [0, 20, 31, 40] → RdI W (some ⟨a3, 0, none⟩) 3 3 [0, -95, -115] → wpAnyH Tryz.prog .any r10ops Q J 9 #[true, true, false, true, true, false, true, false, false, false, false, false, false, false] (FR s76 (.slice (some ⟨a0, 0, none⟩) 4 4) (.slice (some ⟨a1, 0, none⟩) 4 4) (s79) (.slice (some ⟨a3, 0, none⟩) 3 3)) W := by
  intro a0 a1 a3 W hj f3 f4 f6
  rw [hFR]
  dsimp only
  refine wpAnyH_ready (rs := [2, 5]) (by kernel_rfl) (by simp) ?_
  refine rdH rfl (fun K hK => ?_) ?_
  · go_simp
    go_at_call 34
    refine (of_any 0 1 1 2 _).mono ?_
    rintro e W1 ⟨rfl, hb⟩
    dsimp only
    have h := a8.out a0 a1 a3 W1 (hJb _ _ hj hb) (f3.below hb) (f4.below hb) (f6.below hb)
    rw [hFR] at h
    refine hK.out _ _ (hJb _ _ hj hb) (fun _ => ?_)
    try simp only [Act.put, List.setIfInBounds_toArray, List.set_cons_zero, List.set_cons_succ]
    exact h
  refine rdH rfl (fun K hK => ?_) ?_
  · go_simp
    have h := b1.out a0 a1 W.heap.size a3 (W.alloc (.cells #[.int .i64 0, .int .i64 90, .int .i64 190] 3)) (hJa _ _ hj) (f3.alloc _) (f4.alloc _) (rdI_new W [0, 90, 190] 3 rfl) (f6.alloc _)
    rw [hFR] at h
    refine hK.out _ _ (hJa _ _ hj) (fun _ => ?_)
    try simp only [Act.put, List.setIfInBounds_toArray, List.set_cons_zero, List.set_cons_succ]
    exact h
  exact AllReadyH.nil
 have b9 := Lib.hid x_; clear x_
 have x_ : ∀ (a0 a2 a3 : Nat) (W : World), J W → RdI W (some ⟨a0, 0, none⟩) 4 4 [0, 11, 31, 36] → RdI W (some ⟨a2, 0, none⟩) 3 3 [0, 90, 190] → RdI W (some ⟨a3, 0, none⟩) 3 3 [0, -95, -115] → wpAnyH Tryz.prog .any r10ops Q J 9 #[true, true, false, true, false, true, true, false, false, false, false, false, false, false] (FR s76 (.slice (some ⟨a0, 0, none⟩) 4 4) (s78) (.slice (some ⟨a2, 0, none⟩) 3 3) (.slice (some ⟨a3, 0, none⟩) 3 3)) W := by
  intro a0 a2 a3 W hj f3 f5 f6
  rw [hFR]
  dsimp only
  refine wpAnyH_ready (rs := [2, 4]) (by kernel_rfl) (by simp) ?_
  refine rdH rfl (fun K hK => ?_) ?_
  · go_simp
    go_at_call 34
    refine (of_any 0 1 1 2 _).mono ?_
    rintro e W1 ⟨rfl, hb⟩
    dsimp only
    have h := a9.out a0 a2 a3 W1 (hJb _ _ hj hb) (f3.below hb) (f5.below hb) (f6.below hb)
    rw [hFR] at h
    refine hK.out _ _ (hJb _ _ hj hb) (fun _ => ?_)
    try simp only [Act.put, List.setIfInBounds_toArray, List.set_cons_zero, List.set_cons_succ]
    exact h
  refine rdH rfl (fun K hK => ?_) ?_
  · go_simp
    have h := b1.out a0 W.heap.size a2 a3 (W.alloc (.cells #[.int .i64 0, .int .i64 20, .int .i64 31, .int .i64 40] 3)) (hJa _ _ hj) (f3.alloc _) (rdI_new W [0, 20, 31, 40] 4 rfl) (f5.alloc _) (f6.alloc _)
    rw [hFR] at h
    refine hK.out _ _ (hJa _ _ hj) (fun _ => ?_)
    try simp only [Act.put, List.setIfInBounds_toArray, List.set_cons_zero, List.set_cons_succ]
    exact h
  exact AllReadyH.nil
 have c0 := Lib.hid x_; clear x_
 have x_ : ∀ (a1 a2 a3 : Nat) (W : World), J W → RdI W (some ⟨a1, 0, none⟩) 4 4 [0, 20, 31, 40] → RdI W (some ⟨a2, 0, none⟩) 3 3 [0, 90, 190] → RdI W (some ⟨a3, 0, none⟩) 3 3 [0, -95, -115] → wpAnyH Tryz.prog .any r10ops Q J 9 #[true, true, false, false, true, true, true, false, false, false, false, false, false, false] (FR s76 (s77) (.slice (some ⟨a1, 0, none⟩) 4 4) (.slice (some ⟨a2, 0, none⟩) 3 3) (.slice (some ⟨a3, 0, none⟩) 3 3)) W := by
  intro a1 a2 a3 W hj f4 f5 f6
  rw [hFR]
  dsimp only
  refine wpAnyH_ready (rs := [2, 3]) (by kernel_rfl) (by simp) ?_
  refine rdH rfl (fun K hK => ?_) ?_
  · go_simp
    go_at_call 34
    refine (of_any 0 1 1 2 _).mono ?_
    rintro e W1 ⟨rfl, hb⟩
    dsimp only
    have h := b0.out a1 a2 a3 W1 (hJb _ _ hj hb) (f4.below hb) (f5.below hb) (f6.below hb)
    rw [hFR] at h
    refine hK.out _ _ (hJb _ _ hj hb) (fun _ => ?_)
    try simp only [Act.put, List.setIfInBounds_toArray, List.set_cons_zero, List.set_cons_succ]
    exact h
  refine rdH rfl (fun K hK => ?_) ?_
  · go_simp
    have h := b1.out W.heap.size a1 a2 a3 (W.alloc (.cells #[.int .i64 0, .int .i64 11, .int .i64 31, .int .i64 36] 3)) (hJa _ _ hj) (rdI_new W [0, 11, 31, 36] 4 rfl) (f4.alloc _) (f5.alloc _) (f6.alloc _)
    rw [hFR] at h
    refine hK.out _ _ (hJa _ _ hj) (fun _ => ?_)
    try simp only [Act.put, List.setIfInBounds_toArray, List.set_cons_zero, List.set_cons_succ]
    exact h
  exact AllReadyH.nil
 have c1 := Lib.hid x_; clear x_
 have x_ : ∀ (a0 : Nat) (W : World), J W → RdI W (some ⟨a0, 0, none⟩) 4 4 [0, 11, 31, 36] → wpAnyH Tryz.prog .any r10ops Q J 10 #[true, true, true, true, false, false, false, false, false, false, false, false, false, false] (FR (.agg #[.int .i64 0, .int .i64 1, .int .i64 1, .int .i64 2]) (.slice (some ⟨a0, 0, none⟩) 4 4) (s78) (s79) (s80)) W := by
  intro a0 W hj f3
  rw [hFR]
  dsimp only
  refine wpAnyH_ready (rs := [4, 5, 6]) (by kernel_rfl) (by simp) ?_
  refine rdH rfl (fun K hK => ?_) ?_
  · go_simp
    have h := b2.out a0 W.heap.size (W.alloc (.cells #[.int .i64 0, .int .i64 20, .int .i64 31, .int .i64 40] 3)) (hJa _ _ hj) (f3.alloc _) (rdI_new W [0, 20, 31, 40] 4 rfl)
    rw [hFR] at h
    refine hK.out _ _ (hJa _ _ hj) (fun _ => ?_)
    try simp only [Act.put, List.setIfInBounds_toArray, List.set_cons_zero, List.set_cons_succ]
    exact h
  refine rdH rfl (fun K hK => ?_) ?_
  · go_simp
    have h := b3.out a0 W.heap.size (W.alloc (.cells #[.int .i64 0, .int .i64 90, .int .i64 190] 3)) (hJa _ _ hj) (f3.alloc _) (rdI_new W [0, 90, 190] 3 rfl)
    rw [hFR] at h
    refine hK.out _ _ (hJa _ _ hj) (fun _ => ?_)
    try simp only [Act.put, List.setIfInBounds_toArray, List.set_cons_zero, List.set_cons_succ]
    exact h
  refine rdH rfl (fun K hK => ?_) ?_
  · go_simp
    have h := b4.out a0 W.heap.size (W.alloc (.cells #[.int .i64 0, .int .i64 (-95), .int .i64 (-115)] 3)) (hJa _ _ hj) (f3.alloc _) (rdI_new W [0, -95, -115] 3 rfl)
    rw [hFR] at h
    refine hK.out _ _ (hJa _ _ hj) (fun _ => ?_)
    try simp only [Act.put, List.setIfInBounds_toArray, List.set_cons_zero, List.set_cons_succ]
    exact h
  exact AllReadyH.nil
 have c2 := Lib.hid x_; clear x_
 have x_ : ∀ (a1 : Nat) (W : World), J W → RdI W (some ⟨a1, 0, none⟩) 4 4 [0, 20, 31, 40] → wpAnyH Tryz.prog .any r10ops Q J 10 #[true, true, true, false, true, false, false, false, false, false, false, false, false, false] (FR (.agg #[.int .i64 0, .int .i64 1, .int .i64 1, .int .i64 2]) (s77) (.slice (some ⟨a1, 0, none⟩) 4 4) (s79) (s80)) W := by
  intro a1 W hj f4
  rw [hFR]
  dsimp only
  refine wpAnyH_ready (rs := [3, 5, 6]) (by kernel_rfl) (by simp) ?_
  refine rdH rfl (fun K hK => ?_) ?_
  · go_simp
    have h := b2.out W.heap.size a1 (W.alloc (.cells #[.int .i64 0, .int .i64 11, .int .i64 31, .int .i64 36] 3)) (hJa _ _ hj) (rdI_new W [0, 11, 31, 36] 4 rfl) (f4.alloc _)
    rw [hFR] at h
    refine hK.out _ _ (hJa _ _ hj) (fun _ => ?_)
    try simp only [Act.put, List.setIfInBounds_toArray, List.set_cons_zero, List.set_cons_succ]
    exact h
  refine rdH rfl (fun K hK => ?_) ?_
  · go_simp
    have h := b5.out a1 W.heap.size (W.alloc (.cells #[.int .i64 0, .int .i64 90, .int .i64 190] 3)) (hJa _ _ hj) (f4.alloc _) (rdI_new W [0, 90, 190] 3 rfl)
    rw [hFR] at h
    refine hK.out _ _ (hJa _ _ hj) (fun _ => ?_)
    try simp only [Act.put, List.setIfInBounds_toArray, List.set_cons_zero, List.set_cons_succ]
    exact h
  refine rdH rfl (fun K hK => ?_) ?_
  · go_simp
    have h := b6.out a1 W.heap.size (W.alloc (.cells #[.int .i64 0, .int .i64 (-95), .int .i64 (-115)] 3)) (hJa _ _ hj) (f4.alloc _) (rdI_new W [0, -95, -115] 3 rfl)
    rw [hFR] at h
    refine hK.out _ _ (hJa _ _ hj) (fun _ => ?_)
    try simp only [Act.put, List.setIfInBounds_toArray, List.set_cons_zero, List.set_cons_succ]
    exact h
  exact AllReadyH.nil
 have c3 := Lib.hid x_; clear x_
 have x_ : ∀ (a2 : Nat) (W : World), J W → RdI W (some ⟨a2, 0, none⟩) 3 3 [0, 90, 190] → wpAnyH Tryz.prog .any r10ops Q J 10 #[true, true, true, false, false, true, false, false, false, false, false, false, false, false] (FR (.agg #[.int .i64 0, .int .i64 1, .int .i64 1, .int .i64 2]) (s77) (s78) (.slice (some ⟨a2, 0, none⟩) 3 3) (s80)) W := by
  intro a2 W hj f5
  rw [hFR]
  dsimp only
  refine wpAnyH_ready (rs := [3, 4, 6]) (by kernel_rfl) (by simp) ?_
  refine rdH rfl (fun K hK => ?_) ?_
  · go_simp
    have h := b3.out W.heap.size a2 (W.alloc (.cells #[.int .i64 0, .int .i64 11, .int .i64 31, .int .i64 36] 3)) (hJa _ _ hj) (rdI_new W [0, 11, 31, 36] 4 rfl) (f5.alloc _)
    rw [hFR] at h
    refine hK.out _ _ (hJa _ _ hj) (fun _ => ?_)
    try simp only [Act.put, List.setIfInBounds_toArray, List.set_cons_zero, List.set_cons_succ]
    exact h
  refine rdH rfl (fun K hK => ?_) ?_
  · go_simp
    have h := b5.out W.heap.size a2 (W.alloc (.cells #[.int .i64 0, .int .i64 20, .int .i64 31, .int .i64 40] 3)) (hJa _ _ hj) (rdI_new W [0, 20, 31, 40] 4 rfl) (f5.alloc _)
    rw [hFR] at h
    refine hK.out _ _ (hJa _ _ hj) (fun _ => ?_)
    try simp only [Act.put, List.setIfInBounds_toArray, List.set_cons_zero, List.set_cons_succ]
    exact h
  refine rdH rfl (fun K hK => ?_) ?_
  · go_simp
    have h := b7.out a2 W.heap.size (W.alloc (.cells #[.int .i64 0, .int .i64 (-95), .int .i64 (-115)] 3)) (hJa _ _ hj) (f5.alloc _) (rdI_new W [0, -95, -115] 3 rfl)
    rw [hFR] at h
    refine hK.out _ _ (hJa _ _ hj) (fun _ => ?_)
    try simp only [Act.put, List.setIfInBounds_toArray, List.set_cons_zero, List.set_cons_succ]
    exact h
  exact AllReadyH.nil
 have c4 := Lib.hid x_; clear x_
 have x_ : ∀ (a3 : Nat) (W : World), J W → RdI W (some ⟨a3, 0, none⟩) 3 3 [0, -95, -115] → wpAnyH Tryz.prog .any r10ops Q J 10 #[true, true, true, false, false, false, true, false, false, false, false, false, false, false] (FR (.agg #[.int .i64 0, .int .i64 1, .int .i64 1, .int .i64 2]) (s77) (s78) (s79) (.slice (some ⟨a3, 0, none⟩) 3 3)) W := by
  intro a3 W hj f6
  rw [hFR]
  dsimp only
  refine wpAnyH_ready (rs := [3, 4, 5]) (by kernel_rfl) (by simp) ?_
  refine rdH rfl (fun K hK => ?_) ?_
  · go_simp
    have h := b4.out W.heap.size a3 (W.alloc (.cells #[.int .i64 0, .int .i64 11, .int .i64 31, .int .i64 36] 3)) (hJa _ _ hj) (rdI_new W [0, 11, 31, 36] 4 rfl) (f6.alloc _)
    rw [hFR] at h
    refine hK.out _ _ (hJa _ _ hj) (fun _ => ?_)
    try simp only [Act.put, List.setIfInBounds_toArray, List.set_cons_zero, List.set_cons_succ]
    exact h
  refine rdH rfl (fun K hK => ?_) ?_
  · go_simp
    have h := b6.out W.heap.size a3 (W.alloc (.cells #[.int .i64 0, .int .i64 20, .int .i64 31, .int .i64 40] 3)) (hJa _ _ hj) (rdI_new W [0, 20, 31, 40] 4 rfl) (f6.alloc _)
    rw [hFR] at h
    refine hK.out _ _ (hJa _ _ hj) (fun _ => ?_)
    try simp only [Act.put, List.setIfInBounds_toArray, List.set_cons_zero, List.set_cons_succ]
    exact h
  refine rdH rfl (fun K hK => ?_) ?_
  · go_simp
    have h := b7.out W.heap.size a3 (W.alloc (.cells #[.int .i64 0, .int .i64 90, .int .i64 190] 3)) (hJa _ _ hj) (rdI_new W [0, 90, 190] 3 rfl) (f6.alloc _)
    rw [hFR] at h
    refine hK.out _ _ (hJa _ _ hj) (fun _ => ?_)
    try simp only [Act.put, List.setIfInBounds_toArray, List.set_cons_zero, List.set_cons_succ]
    exact h
  exact AllReadyH.nil
 have c5 := Lib.hid x_; clear x_
 have x_ : ∀ (a0 a1 : Nat) (W : World), J W → RdI W (some ⟨a0, 0, none⟩) 4 4 [0, 11, 31, 36] → RdI W (some ⟨a1, 0, none⟩) 4 4 [0, 20, 31, 40] → wpAnyH Tryz.prog .any r10ops Q J 10 #[true, true, false, true, true, false, false, false, false, false, false, false, false, false] (FR s76 (.slice (some ⟨a0, 0, none⟩) 4 4) (.slice (some ⟨a1, 0, none⟩) 4 4) (s79) (s80)) W := by
  intro a0 a1 W hj f3 f4
  rw [hFR]
  dsimp only
  refine wpAnyH_ready (rs := [2, 5, 6]) (by kernel_rfl) (by simp) ?_
  refine rdH rfl (fun K hK => ?_) ?_
  · go_simp
    go_at_call 34
    refine (of_any 0 1 1 2 _).mono ?_
    rintro e W1 ⟨rfl, hb⟩
    dsimp only
    have h := b2.out a0 a1 W1 (hJb _ _ hj hb) (f3.below hb) (f4.below hb)
    rw [hFR] at h
    refine hK.out _ _ (hJb _ _ hj hb) (fun _ => ?_)
    try simp only [Act.put, List.setIfInBounds_toArray, List.set_cons_zero, List.set_cons_succ]
    exact h
  refine rdH rfl (fun K hK => ?_) ?_
  · go_simp
    have h := b8.out a0 a1 W.heap.size (W.alloc (.cells #[.int .i64 0, .int .i64 90, .int .i64 190] 3)) (hJa _ _ hj) (f3.alloc _) (f4.alloc _) (rdI_new W [0, 90, 190] 3 rfl)
    rw [hFR] at h
    refine hK.out _ _ (hJa _ _ hj) (fun _ => ?_)
    try simp only [Act.put, List.setIfInBounds_toArray, List.set_cons_zero, List.set_cons_succ]
    exact h
  refine rdH rfl (fun K hK => ?_) ?_
  · go_simp
    have h := b9.out a0 a1 W.heap.size (W.alloc (.cells #[.int .i64 0, .int .i64 (-95), .int .i64 (-115)] 3)) (hJa _ _ hj) (f3.alloc _) (f4.alloc _) (rdI_new W [0, -95, -115] 3 rfl)
    rw [hFR] at h
    refine hK.out _ _ (hJa _ _ hj) (fun _ => ?_)
    try simp only [Act.put, List.setIfInBounds_toArray, List.set_cons_zero, List.set_cons_succ]
    exact h
  exact AllReadyH.nil
 have c6 := Lib.hid x_; clear x_
 have x_ : ∀ (a0 a2 : Nat) (W : World), J W → RdI W (some ⟨a0, 0, none⟩) 4 4 [0, 11, 31, 36] → RdI W (some ⟨a2, 0, none⟩) 3 3 [0, 90, 190] → wpAnyH Tryz.prog .any r10ops Q J 10 #[true, true, false, true, false, true, false, false, false, false, false, false, false, false] (FR s76 (.slice (some ⟨a0, 0, none⟩) 4 4) (s78) (.slice (some ⟨a2, 0, none⟩) 3 3) (s80)) W := by
  intro a0 a2 W hj f3 f5
  rw [hFR]
  dsimp only
  refine wpAnyH_ready (rs := [2, 4, 6]) (by kernel_rfl) (by simp) ?_
  refine rdH rfl (fun K hK => ?_) ?_
  · go_simp
    go_at_call 34
    refine (of_any 0 1 1 2 _).mono ?_
    rintro e W1 ⟨rfl, hb⟩
    dsimp only
    have h := b3.out a0 a2 W1 (hJb _ _ hj hb) (f3.below hb) (f5.below hb)
    rw [hFR] at h
    refine hK.out _ _ (hJb _ _ hj hb) (fun _ => ?_)
    try simp only [Act.put, List.setIfInBounds_toArray, List.set_cons_zero, List.set_cons_succ]
    exact h
  refine rdH rfl (fun K hK => ?_) ?_
  · go_simp
    have h := b8.out a0 W.heap.size a2 (W.alloc (.cells #[.int .i64 0, .int .i64 20, .int .i64 31, .int .i64 40] 3)) (hJa _ _ hj) (f3.alloc _) (rdI_new W [0, 20, 31, 40] 4 rfl) (f5.alloc _)
    rw [hFR] at h
    refine hK.out _ _ (hJa _ _ hj) (fun _ => ?_)
    try simp only [Act.put, List.setIfInBounds_toArray, List.set_cons_zero, List.set_cons_succ]
    exact h
  refine rdH rfl (fun K hK => ?_) ?_
  · go_simp
    have h := c0.out a0 a2 W.heap.size (W.alloc (.cells #[.int .i64 0, .int .i64 (-95), .int .i64 (-115)] 3)) (hJa _ _ hj) (f3.alloc _) (f5.alloc _) (rdI_new W [0, -95, -115] 3 rfl)
    rw [hFR] at h
    refine hK.out _ _ (hJa _ _ hj) (fun _ => ?_)
    try simp only [Act.put, List.setIfInBounds_toArray, List.set_cons_zero, List.set_cons_succ]
    exact h
  exact AllReadyH.nil
 have c7 := Lib.hid x_; clear x_
 have x_ : ∀ (a0 a3 : Nat) (W : World), J W → RdI W (some ⟨a0, 0, none⟩) 4 4 [0, 11, 31, 36] → RdI W (some ⟨a3, 0, none⟩) 3 3 [0, -95, -115] → wpAnyH Tryz.prog .any r10ops Q J 10 #[true, true, false, true, false, false, true, false, false, false, false, false, false, false] (FR s76 (.slice (some ⟨a0, 0, none⟩) 4 4) (s78) (s79) (.slice (some ⟨a3, 0, none⟩) 3 3)) W := by
  intro a0 a3 W hj f3 f6
  rw [hFR]
  dsimp only
  refine wpAnyH_ready (rs := [2, 4, 5]) (by kernel_rfl) (by simp) ?_
  refine rdH rfl (fun K hK => ?_) ?_
  · go_simp
    go_at_call 34
    refine (of_any 0 1 1 2 _).mono ?_
    rintro e W1 ⟨rfl, hb⟩
    dsimp only
    have h := b4.out a0 a3 W1 (hJb _ _ hj hb) (f3.below hb) (f6.below hb)
    rw [hFR] at h
    refine hK.out _ _ (hJb _ _ hj hb) (fun _ => ?_)
    try simp only [Act.put, List.setIfInBounds_toArray, List.set_cons_zero, List.set_cons_succ]
    exact h
  refine rdH rfl (fun K hK => ?_) ?_
  · go_simp
    have h := b9.out a0 W.heap.size a3 (W.alloc (.cells #[.int .i64 0, .int .i64 20, .int .i64 31, .int .i64 40] 3)) (hJa _ _ hj) (f3.alloc _) (rdI_new W [0, 20, 31, 40] 4 rfl) (f6.alloc _)
    rw [hFR] at h
    refine hK.out _ _ (hJa _ _ hj) (fun _ => ?_)
    try simp only [Act.put, List.setIfInBounds_toArray, List.set_cons_zero, List.set_cons_succ]
    exact h
  refine rdH rfl (fun K hK => ?_) ?_
  · go_simp
    have h := c0.out a0 W.heap.size a3 (W.alloc (.cells #[.int .i64 0, .int .i64 90, .int .i64 190] 3)) (hJa _ _ hj) (f3.alloc _) (rdI_new W [0, 90, 190] 3 rfl) (f6.alloc _)
    rw [hFR] at h
    refine hK.out _ _ (hJa _ _ hj) (fun _ => ?_)
    try simp only [Act.put, List.setIfInBounds_toArray, List.set_cons_zero, List.set_cons_succ]
    exact h
  exact AllReadyH.nil
 have c8 := Lib.hid x_; clear x_
 have x_ : ∀ (a1 a2 : Nat) (W : World), J W → RdI W (some ⟨a1, 0, none⟩) 4 4 [0, 20, 31, 40] → RdI W (some ⟨a2, 0, none⟩) 3 3 [0, 90, 190] → wpAnyH Tryz.prog .any r10ops Q J 10 #[true, true, false, false, true, true, false, false, false, false, false, false, false, false] (FR s76 (s77) (.slice (some ⟨a1, 0, none⟩) 4 4) (.slice (some ⟨a2, 0, none⟩) 3 3) (s80)) W := by
  intro a1 a2 W hj f4 f5
  rw [hFR]
  dsimp only
  refine wpAnyH_ready (rs := [2, 3, 6]) (by kernel_rfl) (by simp) ?_
  refine rdH rfl (fun K hK => ?_) ?_
  · go_simp
    go_at_call 34
    refine (of_any 0 1 1 2 _).mono ?_
    rintro e W1 ⟨rfl, hb⟩
    dsimp only
    have h := b5.out a1 a2 W1 (hJb _ _ hj hb) (f4.below hb) (f5.below hb)
    rw [hFR] at h
    refine hK.out _ _ (hJb _ _ hj hb) (fun _ => ?_)
    try simp only [Act.put, List.setIfInBounds_toArray, List.set_cons_zero, List.set_cons_succ]
    exact h
  refine rdH rfl (fun K hK => ?_) ?_
  · go_simp
    have h := b8.out W.heap.size a1 a2 (W.alloc (.cells #[.int .i64 0, .int .i64 11, .int .i64 31, .int .i64 36] 3)) (hJa _ _ hj) (rdI_new W [0, 11, 31, 36] 4 rfl) (f4.alloc _) (f5.alloc _)
    rw [hFR] at h
    refine hK.out _ _ (hJa _ _ hj) (fun _ => ?_)
    try simp only [Act.put, List.setIfInBounds_toArray, List.set_cons_zero, List.set_cons_succ]
    exact h
  refine rdH rfl (fun K hK => ?_) ?_
  · go_simp
    have h := c1.out a1 a2 W.heap.size (W.alloc (.cells #[.int .i64 0, .int .i64 (-95), .int .i64 (-115)] 3)) (hJa _ _ hj) (f4.alloc _) (f5.alloc _) (rdI_new W [0, -95, -115] 3 rfl)
    rw [hFR] at h
    refine hK.out _ _ (hJa _ _ hj) (fun _ => ?_)
    try simp only [Act.put, List.setIfInBounds_toArray, List.set_cons_zero, List.set_cons_succ]
    exact h
  exact AllReadyH.nil
 have c9 := Lib.hid x_; clear x_
 have x_ : ∀ (a1 a3 : Nat) (W : World), J W → RdI W (some ⟨a1, 0, none⟩) 4 4 [0, 20, 31, 40] → RdI W (some ⟨a3, 0, none⟩) 3 3 [0, -95, -115] → wpAnyH Tryz.prog .any r10ops Q J 10 #[true, true, false, false, true, false, true, false, false, false, false, false, false, false] (FR s76 (s77) (.slice (some ⟨a1, 0, none⟩) 4 4) (s79) (.slice (some ⟨a3, 0, none⟩) 3 3)) W := by
  intro a1 a3 W hj f4 f6
  rw [hFR]
  dsimp only
  refine wpAnyH_ready (rs := [2, 3, 5]) (by kernel_rfl) (by simp) ?_
  refine rdH rfl (fun K hK => ?_) ?_
  · go_simp
    go_at_call 34
    refine (of_any 0 1 1 2 _).mono ?_
    rintro e W1 ⟨rfl, hb⟩
    dsimp only
    have h := b6.out a1 a3 W1 (hJb _ _ hj hb) (f4.below hb) (f6.below hb)
    rw [hFR] at h
    refine hK.out _ _ (hJb _ _ hj hb) (fun _ => ?_)
    try simp only [Act.put, List.setIfInBounds_toArray, List.set_cons_zero, List.set_cons_succ]
    exact h
  refine rdH rfl (fun K hK => ?_) ?_
  · go_simp
    have h := b9.out W.heap.size a1 a3 (W.alloc (.cells #[.int .i64 0, .int .i64 11, .int .i64 31, .int .i64 36] 3)) (hJa _ _ hj) (rdI_new W [0, 11, 31, 36] 4 rfl) (f4.alloc _) (f6.alloc _)
    rw [hFR] at h
    refine hK.out _ _ (hJa _ _ hj) (fun _ => ?_)
    try simp only [Act.put, List.setIfInBounds_toArray, List.set_cons_zero, List.set_cons_succ]
    exact h
  refine rdH rfl (fun K hK => ?_) ?_
  · go_simp
    have h := c1.out a1 W.heap.size a3 (W.alloc (.cells #[.int .i64 0, .int .i64 90, .int .i64 190] 3)) (hJa _ _ hj) (f4.alloc _) (rdI_new W [0, 90, 190] 3 rfl) (f6.alloc _)
    rw [hFR] at h
    refine hK.out _ _ (hJa _ _ hj) (fun _ => ?_)
    try simp only [Act.put, List.setIfInBounds_toArray, List.set_cons_zero, List.set_cons_succ]
    exact h
  exact AllReadyH.nil
 have d0 := Lib.hid x_; clear x_
 have x_ : ∀ (a2 a3 : Nat) (W : World), J W → RdI W (some ⟨a2, 0, none⟩) 3 3 [0, 90, 190] → RdI W (some ⟨a3, 0, none⟩) 3 3 [0, -95, -115] → wpAnyH Tryz.prog .any r10ops Q J 10 #[true, true, false, false, false, true, true, false, false, false, false, false, false, false] (FR s76 (s77) (s78) (.slice (some ⟨a2, 0, none⟩) 3 3) (.slice (some ⟨a3, 0, none⟩) 3 3)) W := by
  intro a2 a3 W hj f5 f6
  rw [hFR]
  dsimp only
  refine wpAnyH_ready (rs := [2, 3, 4]) (by kernel_rfl) (by simp) ?_
  refine rdH rfl (fun K hK => ?_) ?_
  · go_simp
    go_at_call 34
    refine (of_any 0 1 1 2 _).mono ?_
    rintro e W1 ⟨rfl, hb⟩
    dsimp only
    have h := b7.out a2 a3 W1 (hJb _ _ hj hb) (f5.below hb) (f6.below hb)
    rw [hFR] at h
    refine hK.out _ _ (hJb _ _ hj hb) (fun _ => ?_)
    try simp only [Act.put, List.setIfInBounds_toArray, List.set_cons_zero, List.set_cons_succ]
    exact h
  refine rdH rfl (fun K hK => ?_) ?_
  · go_simp
    have h := c0.out W.heap.size a2 a3 (W.alloc (.cells #[.int .i64 0, .int .i64 11, .int .i64 31, .int .i64 36] 3)) (hJa _ _ hj) (rdI_new W [0, 11, 31, 36] 4 rfl) (f5.alloc _) (f6.alloc _)
    rw [hFR] at h
    refine hK.out _ _ (hJa _ _ hj) (fun _ => ?_)
    try simp only [Act.put, List.setIfInBounds_toArray, List.set_cons_zero, List.set_cons_succ]
    exact h
  refine rdH rfl (fun K hK => ?_) ?_
  · go_simp
    have h := c1.out W.heap.size a2 a3 (W.alloc (.cells #[.int .i64 0, .int .i64 20, .int .i64 31, .int .i64 40] 3)) (hJa _ _ hj) (rdI_new W [0, 20, 31, 40] 4 rfl) (f5.alloc _) (f6.alloc _)
    rw [hFR] at h
    refine hK.out _ _ (hJa _ _ hj) (fun _ => ?_)
    try simp only [Act.put, List.setIfInBounds_toArray, List.set_cons_zero, List.set_cons_succ]
    exact h
  exact AllReadyH.nil
 have d1 := Lib.hid x_; clear x_
 have x_ : ∀ (W : World), J W → wpAnyH Tryz.prog .any r10ops Q J 11 #[true, true, true, false, false, false, false, false, false, false, false, false, false, false] (FR (.agg #[.int .i64 0, .int .i64 1, .int .i64 1, .int .i64 2]) (s77) (s78) (s79) (s80)) W := by
  intro W hj
  rw [hFR]
  dsimp only
  refine wpAnyH_ready (rs := [3, 4, 5, 6]) (by kernel_rfl) (by simp) ?_
  refine rdH rfl (fun K hK => ?_) ?_
  · go_simp
    have h := c2.out W.heap.size (W.alloc (.cells #[.int .i64 0, .int .i64 11, .int .i64 31, .int .i64 36] 3)) (hJa _ _ hj) (rdI_new W [0, 11, 31, 36] 4 rfl)
    rw [hFR] at h
    refine hK.out _ _ (hJa _ _ hj) (fun _ => ?_)
    try simp only [Act.put, List.setIfInBounds_toArray, List.set_cons_zero, List.set_cons_succ]
    exact h
  refine rdH rfl (fun K hK => ?_) ?_
  · go_simp
    have h := c3.out W.heap.size (W.alloc (.cells #[.int .i64 0, .int .i64 20, .int .i64 31, .int .i64 40] 3)) (hJa _ _ hj) (rdI_new W [0, 20, 31, 40] 4 rfl)
    rw [hFR] at h
    refine hK.out _ _ (hJa _ _ hj) (fun _ => ?_)
    try simp only [Act.put, List.setIfInBounds_toArray, List.set_cons_zero, List.set_cons_succ]
    exact h
  refine rdH rfl (fun K hK => ?_) ?_
  · go_simp
    have h := c4.out W.heap.size (W.alloc (.cells #[.int .i64 0, .int .i64 90, .int .i64 190] 3)) (hJa _ _ hj) (rdI_new W [0, 90, 190] 3 rfl)
    rw [hFR] at h
    refine hK.out _ _ (hJa _ _ hj) (fun _ => ?_)
    try simp only [Act.put, List.setIfInBounds_toArray, List.set_cons_zero, List.set_cons_succ]
    exact h
  refine rdH rfl (fun K hK => ?_) ?_
  · go_simp
    have h := c5.out W.heap.size (W.alloc (.cells #[.int .i64 0, .int .i64 (-95), .int .i64 (-115)] 3)) (hJa _ _ hj) (rdI_new W [0, -95, -115] 3 rfl)
    rw [hFR] at h
    refine hK.out _ _ (hJa _ _ hj) (fun _ => ?_)
    try simp only [Act.put, List.setIfInBounds_toArray, List.set_cons_zero, List.set_cons_succ]
    exact h
  exact AllReadyH.nil
 have d3 := Lib.hid x_; clear x_
 have x_ : ∀ (a0 : Nat) (W : World), J W → RdI W (some ⟨a0, 0, none⟩) 4 4 [0, 11, 31, 36] → wpAnyH Tryz.prog .any r10ops Q J 11 #[true, true, false, true, false, false, false, false, false, false, false, false, false, false] (FR s76 (.slice (some ⟨a0, 0, none⟩) 4 4) (s78) (s79) (s80)) W := by
  intro a0 W hj f3
  rw [hFR]
  dsimp only
  refine wpAnyH_ready (rs := [2, 4, 5, 6]) (by kernel_rfl) (by simp) ?_
  refine rdH rfl (fun K hK => ?_) ?_
  · go_simp
    go_at_call 34
    refine (of_any 0 1 1 2 _).mono ?_
    rintro e W1 ⟨rfl, hb⟩
    dsimp only
    have h := c2.out a0 W1 (hJb _ _ hj hb) (f3.below hb)
    rw [hFR] at h
    refine hK.out _ _ (hJb _ _ hj hb) (fun _ => ?_)
    try simp only [Act.put, List.setIfInBounds_toArray, List.set_cons_zero, List.set_cons_succ]
    exact h
  refine rdH rfl (fun K hK => ?_) ?_
  · go_simp
    have h := c6.out a0 W.heap.size (W.alloc (.cells #[.int .i64 0, .int .i64 20, .int .i64 31, .int .i64 40] 3)) (hJa _ _ hj) (f3.alloc _) (rdI_new W [0, 20, 31, 40] 4 rfl)
    rw [hFR] at h
    refine hK.out _ _ (hJa _ _ hj) (fun _ => ?_)
    try simp only [Act.put, List.setIfInBounds_toArray, List.set_cons_zero, List.set_cons_succ]
    exact h
  refine rdH rfl (fun K hK => ?_) ?_
  · go_simp
    have h := c7.out a0 W.heap.size (W.alloc (.cells #[.int .i64 0, .int .i64 90, .int .i64 190] 3)) (hJa _ _ hj) (f3.alloc _) (rdI_new W [0, 90, 190] 3 rfl)
    rw [hFR] at h
    refine hK.out _ _ (hJa _ _ hj) (fun _ => ?_)
    try simp only [Act.put, List.setIfInBounds_toArray, List.set_cons_zero, List.set_cons_succ]
    exact h
  refine rdH rfl (fun K hK => ?_) ?_
  · go_simp
    have h := c8.out a0 W.heap.size (W.alloc (.cells #[.int .i64 0, .int .i64 (-95), .int .i64 (-115)] 3)) (hJa _ _ hj) (f3.alloc _) (rdI_new W [0, -95, -115] 3 rfl)
    rw [hFR] at h
    refine hK.out _ _ (hJa _ _ hj) (fun _ => ?_)
    try simp only [Act.put, List.setIfInBounds_toArray, List.set_cons_zero, List.set_cons_succ]
    exact h
  exact AllReadyH.nil
 have d4 := Lib.hid x_; clear x_
 have x_ : ∀ (a1 : Nat) (W : World), J W → RdI W (some ⟨a1, 0, none⟩) 4 4 [0, 20, 31, 40] → wpAnyH Tryz.prog .any r10ops Q J 11 #[true, true, false, false, true, false, false, false, false, false, false, false, false, false] (FR s76 (s77) (.slice (some ⟨a1, 0, none⟩) 4 4) (s79) (s80)) W := by
  intro a1 W hj f4
  rw [hFR]
  dsimp only
  refine wpAnyH_ready (rs := [2, 3, 5, 6]) (by kernel_rfl) (by simp) ?_
  refine rdH rfl (fun K hK => ?_) ?_
  · go_simp
    go_at_call 34
    refine (of_any 0 1 1 2 _).mono ?_
    rintro e W1 ⟨rfl, hb⟩
    dsimp only
    have h := c3.out a1 W1 (hJb _ _ hj hb) (f4.below hb)
    rw [hFR] at h
    refine hK.out _ _ (hJb _ _ hj hb) (fun _ => ?_)
    try simp only [Act.put, List.setIfInBounds_toArray, List.set_cons_zero, List.set_cons_succ]
    exact h
  refine rdH rfl (fun K hK => ?_) ?_
  · go_simp
    have h := c6.out W.heap.size a1 (W.alloc (.cells #[.int .i64 0, .int .i64 11, .int .i64 31, .int .i64 36] 3)) (hJa _ _ hj) (rdI_new W [0, 11, 31, 36] 4 rfl) (f4.alloc _)
    rw [hFR] at h
    refine hK.out _ _ (hJa _ _ hj) (fun _ => ?_)
    try simp only [Act.put, List.setIfInBounds_toArray, List.set_cons_zero, List.set_cons_succ]
    exact h
  refine rdH rfl (fun K hK => ?_) ?_
  · go_simp
    have h := c9.out a1 W.heap.size (W.alloc (.cells #[.int .i64 0, .int .i64 90, .int .i64 190] 3)) (hJa _ _ hj) (f4.alloc _) (rdI_new W [0, 90, 190] 3 rfl)
    rw [hFR] at h
    refine hK.out _ _ (hJa _ _ hj) (fun _ => ?_)
    try simp only [Act.put, List.setIfInBounds_toArray, List.set_cons_zero, List.set_cons_succ]
    exact h
  refine rdH rfl (fun K hK => ?_) ?_
  · go_simp
    have h := d0.out a1 W.heap.size (W.alloc (.cells #[.int .i64 0, .int .i64 (-95), .int .i64 (-115)] 3)) (hJa _ _ hj) (f4.alloc _) (rdI_new W [0, -95, -115] 3 rfl)
    rw [hFR] at h
    refine hK.out _ _ (hJa _ _ hj) (fun _ => ?_)
    try simp only [Act.put, List.setIfInBounds_toArray, List.set_cons_zero, List.set_cons_succ]
    exact h
  exact AllReadyH.nil
 have d5 := Lib.hid x_; clear x_
 have x_ : ∀ (a2 : Nat) (W : World), J W → RdI W (some ⟨a2, 0, none⟩) 3 3 [0, 90, 190] → wpAnyH Tryz.prog .any r10ops Q J 11 #[true, true, false, false, false, true, false, false, false, false, false, false, false, false] (FR s76 (s77) (s78) (.slice (some ⟨a2, 0, none⟩) 3 3) (s80)) W := by
  intro a2 W hj f5
  rw [hFR]
  dsimp only
  refine wpAnyH_ready (rs := [2, 3, 4, 6]) (by kernel_rfl) (by simp) ?_
  refine rdH rfl (fun K hK => ?_) ?_
  · go_simp
    go_at_call 34
    refine (of_any 0 1 1 2 _).mono ?_
    rintro e W1 ⟨rfl, hb⟩
    dsimp only
    have h := c4.out a2 W1 (hJb _ _ hj hb) (f5.below hb)
    rw [hFR] at h
    refine hK.out _ _ (hJb _ _ hj hb) (fun _ => ?_)
    try simp only [Act.put, List.setIfInBounds_toArray, List.set_cons_zero, List.set_cons_succ]
    exact h
  refine rdH rfl (fun K hK => ?_) ?_
  · go_simp
    have h := c7.out W.heap.size a2 (W.alloc (.cells #[.int .i64 0, .int .i64 11, .int .i64 31, .int .i64 36] 3)) (hJa _ _ hj) (rdI_new W [0, 11, 31, 36] 4 rfl) (f5.alloc _)
    rw [hFR] at h
    refine hK.out _ _ (hJa _ _ hj) (fun _ => ?_)
    try simp only [Act.put, List.setIfInBounds_toArray, List.set_cons_zero, List.set_cons_succ]
    exact h
  refine rdH rfl (fun K hK => ?_) ?_
  · go_simp
    have h := c9.out W.heap.size a2 (W.alloc (.cells #[.int .i64 0, .int .i64 20, .int .i64 31, .int .i64 40] 3)) (hJa _ _ hj) (rdI_new W [0, 20, 31, 40] 4 rfl) (f5.alloc _)
    rw [hFR] at h
    refine hK.out _ _ (hJa _ _ hj) (fun _ => ?_)
    try simp only [Act.put, List.setIfInBounds_toArray, List.set_cons_zero, List.set_cons_succ]
    exact h
  refine rdH rfl (fun K hK => ?_) ?_
  · go_simp
    have h := d1.out a2 W.heap.size (W.alloc (.cells #[.int .i64 0, .int .i64 (-95), .int .i64 (-115)] 3)) (hJa _ _ hj) (f5.alloc _) (rdI_new W [0, -95, -115] 3 rfl)
    rw [hFR] at h
    refine hK.out _ _ (hJa _ _ hj) (fun _ => ?_)
    try simp only [Act.put, List.setIfInBounds_toArray, List.set_cons_zero, List.set_cons_succ]
    exact h
  exact AllReadyH.nil
 have d6 := Lib.hid x_; clear x_
 have x_ : ∀ (a3 : Nat) (W : World), J W → RdI W (some ⟨a3, 0, none⟩) 3 3 [0, -95, -115] → wpAnyH Tryz.prog .any r10ops Q J 11 #[true, true, false, false, false, false, true, false, false, false, false, false, false, false] (FR s76 (s77) (s78) (s79) (.slice (some ⟨a3, 0, none⟩) 3 3)) W := by
  intro a3 W hj f6
  rw [hFR]
  dsimp only
  refine wpAnyH_ready (rs := [2, 3, 4, 5]) (by kernel_rfl) (by simp) ?_
  refine rdH rfl (fun K hK => ?_) ?_
  · go_simp
    go_at_call 34
    refine (of_any 0 1 1 2 _).mono ?_
    rintro e W1 ⟨rfl, hb⟩
    dsimp only
    have h := c5.out a3 W1 (hJb _ _ hj hb) (f6.below hb)
    rw [hFR] at h
    refine hK.out _ _ (hJb _ _ hj hb) (fun _ => ?_)
    try simp only [Act.put, List.setIfInBounds_toArray, List.set_cons_zero, List.set_cons_succ]
    exact h
  refine rdH rfl (fun K hK => ?_) ?_
  · go_simp
    have h := c8.out W.heap.size a3 (W.alloc (.cells #[.int .i64 0, .int .i64 11, .int .i64 31, .int .i64 36] 3)) (hJa _ _ hj) (rdI_new W [0, 11, 31, 36] 4 rfl) (f6.alloc _)
    rw [hFR] at h
    refine hK.out _ _ (hJa _ _ hj) (fun _ => ?_)
    try simp only [Act.put, List.setIfInBounds_toArray, List.set_cons_zero, List.set_cons_succ]
    exact h
  refine rdH rfl (fun K hK => ?_) ?_
  · go_simp
    have h := d0.out W.heap.size a3 (W.alloc (.cells #[.int .i64 0, .int .i64 20, .int .i64 31, .int .i64 40] 3)) (hJa _ _ hj) (rdI_new W [0, 20, 31, 40] 4 rfl) (f6.alloc _)
    rw [hFR] at h
    refine hK.out _ _ (hJa _ _ hj) (fun _ => ?_)
    try simp only [Act.put, List.setIfInBounds_toArray, List.set_cons_zero, List.set_cons_succ]
    exact h
  refine rdH rfl (fun K hK => ?_) ?_
  · go_simp
    have h := d1.out W.heap.size a3 (W.alloc (.cells #[.int .i64 0, .int .i64 90, .int .i64 190] 3)) (hJa _ _ hj) (rdI_new W [0, 90, 190] 3 rfl) (f6.alloc _)
    rw [hFR] at h
    refine hK.out _ _ (hJa _ _ hj) (fun _ => ?_)
    try simp only [Act.put, List.setIfInBounds_toArray, List.set_cons_zero, List.set_cons_succ]
    exact h
  exact AllReadyH.nil
 have d7 := Lib.hid x_; clear x_
 have x_ : ∀ (W : World), J W → wpAnyH Tryz.prog .any r10ops Q J 12 #[true, true, false, false, false, false, false, false, false, false, false, false, false, false] (FR s76 (s77) (s78) (s79) (s80)) W := by
  intro W hj
  rw [hFR]
  dsimp only
  refine wpAnyH_ready (rs := [2, 3, 4, 5, 6]) (by kernel_rfl) (by simp) ?_
  refine rdH rfl (fun K hK => ?_) ?_
  · go_simp
    go_at_call 34
    refine (of_any 0 1 1 2 _).mono ?_
    rintro e W1 ⟨rfl, hb⟩
    dsimp only
    have h := d3.out  W1 (hJb _ _ hj hb) 
    rw [hFR] at h
    refine hK.out _ _ (hJb _ _ hj hb) (fun _ => ?_)
    try simp only [Act.put, List.setIfInBounds_toArray, List.set_cons_zero, List.set_cons_succ]
    exact h
  refine rdH rfl (fun K hK => ?_) ?_
  · go_simp
    have h := d4.out W.heap.size (W.alloc (.cells #[.int .i64 0, .int .i64 11, .int .i64 31, .int .i64 36] 3)) (hJa _ _ hj) (rdI_new W [0, 11, 31, 36] 4 rfl)
    rw [hFR] at h
    refine hK.out _ _ (hJa _ _ hj) (fun _ => ?_)
    try simp only [Act.put, List.setIfInBounds_toArray, List.set_cons_zero, List.set_cons_succ]
    exact h
  refine rdH rfl (fun K hK => ?_) ?_
  · go_simp
    have h := d5.out W.heap.size (W.alloc (.cells #[.int .i64 0, .int .i64 20, .int .i64 31, .int .i64 40] 3)) (hJa _ _ hj) (rdI_new W [0, 20, 31, 40] 4 rfl)
    rw [hFR] at h
    refine hK.out _ _ (hJa _ _ hj) (fun _ => ?_)
    try simp only [Act.put, List.setIfInBounds_toArray, List.set_cons_zero, List.set_cons_succ]
    exact h
  refine rdH rfl (fun K hK => ?_) ?_
  · go_simp
    have h := d6.out W.heap.size (W.alloc (.cells #[.int .i64 0, .int .i64 90, .int .i64 190] 3)) (hJa _ _ hj) (rdI_new W [0, 90, 190] 3 rfl)
    rw [hFR] at h
    refine hK.out _ _ (hJa _ _ hj) (fun _ => ?_)
    try simp only [Act.put, List.setIfInBounds_toArray, List.set_cons_zero, List.set_cons_succ]
    exact h
  refine rdH rfl (fun K hK => ?_) ?_
  · go_simp
    have h := d7.out W.heap.size (W.alloc (.cells #[.int .i64 0, .int .i64 (-95), .int .i64 (-115)] 3)) (hJa _ _ hj) (rdI_new W [0, -95, -115] 3 rfl)
    rw [hFR] at h
    refine hK.out _ _ (hJa _ _ hj) (fun _ => ?_)
    try simp only [Act.put, List.setIfInBounds_toArray, List.set_cons_zero, List.set_cons_succ]
    exact h
  exact AllReadyH.nil
 have HJ0 := Lib.hid hj0; clear hj0
 refine' tkH 0 HJ0.out ?d8 ?_ (hQ := fun _ _ _ h => hQp _ _ _ _ _ h)
 case d8 => (rintro W' hS0; have hS1 := (hJ W' hS0).1; clear hS0; have z0 : W'.cell? ⟨Ba, 0, none⟩ = some (.int .i64 3) := Blk.cell hS1 0; have z1 : W'.cell? ⟨Ba, 1, none⟩ = some (.slice A 6 6) := Blk.cell hS1 1; have z2 : W'.cell? ⟨Ba, 2, none⟩ = some (.slice B 4 4) := Blk.cell hS1 2; clear hS1; go_simp; try with_reducible rfl)
 refine' tkH 1 HJ0.out ?d9 ?_ (hQ := fun _ _ _ h => hQp _ _ _ _ _ h)
 case d9 => (rintro W' hS0; have hS1 := (hJ W' hS0).2.1; clear hS0; have z0 : W'.cell? ⟨Bb, 0, none⟩ = some (.int .i64 3) := Blk.cell hS1 0; have z1 : W'.cell? ⟨Bb, 1, none⟩ = some (.slice C 6 6) := Blk.cell hS1 1; have z2 : W'.cell? ⟨Bb, 2, none⟩ = some (.slice D 4 4) := Blk.cell hS1 2; clear hS1; go_simp; try with_reducible rfl)
 have h := x_ W0 HJ0.out
 rw [hFR] at h
 exact h
end Go.Proofs.YtjjmifcjailpaaaGreat
