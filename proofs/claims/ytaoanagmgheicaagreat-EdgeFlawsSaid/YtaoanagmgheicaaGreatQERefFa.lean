import Derived.Test.YtaoanagmgheicaaGreatQCloseda
import Derived.Test.YtaoanagmgheicaaGreatQESols
import Derived.Test.YtaoanagmgheicaaGreatQRChecka
import Derived.Test.YtaoanagmgheicaaGreatQEPuba
import Derived.Test.YtaoanagmgheicaaGreatQFewMa
import Derived.Test.YtaoanagmgheicaaGreatQRSolvea
import Derived.Test.YtaoanagmgheicaaGreatQERefO
import Derived.Test.YtaoanagmgheicaaGreatQRFewesta
set_option maxHeartbeats 4000000
set_option linter.unusedSimpArgs false
set_option linter.unusedVariables false
namespace Go.Proofs.YtaoanagmgheicaaGreat
open Go.RowKit
def vec (f : Nat → Int) : List Int := (List.range 60).map f
theorem vec_length (f : Nat → Int) : (vec f).length = 60 := by simp [vec]
theorem at_vec (f : Nat → Int) {v : Nat} (hv : v < 60) : at_ (vec f) v = f v := by
 unfold vec at_
 rw [List.getD_eq_getElem?_getD, List.getElem?_map, List.getElem?_range hv]
 rfl
theorem at_vec_out (f : Nat → Int) {v : Nat} (hv : 60 ≤ v) : at_ (vec f) v = 0 := at_out (by rw [vec_length]; exact hv)
end Go.Proofs.YtaoanagmgheicaaGreat
set_option linter.unusedSimpArgs false
set_option linter.unusedVariables false
namespace Go.Proofs.YtaoanagmgheicaaGreat
open Go.RowKit
theorem revL_revL (l : List Bnd) : revL (revL l) = l := by
 unfold revL
 rw [List.map_map]
 conv => rhs; rw [← List.map_id l]
 exact List.map_congr_left (fun c _ => rfl)
end Go.Proofs.YtaoanagmgheicaaGreat
set_option linter.unusedSimpArgs false
set_option linter.unusedVariables false
namespace Go.Proofs.YtaoanagmgheicaaGreat
def Sol (l : List Bnd) (f : Nat → Int) : Prop := ∀ c ∈ l, f c.t.toNat ≤ f c.f.toNat + c.m
theorem sol_of_settle {P : Int} {l : List Bnd} (hk : chk P l = 0) (h : slv P l = true) : ∃ f, Sol l f := by
 obtain ⟨z, hz⟩ := Option.isSome_iff_exists.1 h
 obtain ⟨z1, z2, z3, z4⟩ := sol_spec hk hz
 exact ⟨at_ z, fun c hc => z2 c hc⟩
theorem bounded_below (f : Nat → Int) (n : Nat) : ∃ M, ∀ v, v < n → f v ≤ M := by
 induction n with
 | zero => exact ⟨0, fun v h => absurd h (Nat.not_lt_zero v)⟩
 | succ n ih =>
  obtain ⟨M, hM⟩ := ih
  refine ⟨max M (f n), fun v h => ?_⟩
  by_cases e : v = n
  · subst e; omega
  · have := hM v (by omega); omega
theorem settle_of_sol {P : Int} {l : List Bnd} (hk : chk P l = 0) {f : Nat → Int} (h : Sol l f) : slv P l = true := by
 obtain ⟨hp1, hp2, hlen, -⟩ := chk_ok hk
 have he := edges60 hk
 obtain ⟨M, hM⟩ := bounded_below f 60
 obtain ⟨h2, -⟩ := settle_of_stable (l := l) (p := P.toNat) (x := zeros) (y := vec fun v => f v - M) (by omega) (edges_of hk) (by rw [zeros_length]; omega)
  (fun v => by rw [at_zeros]; unfold Inf; omega) (fun c hc _ => by
   have h1 := h c hc
   have h3 := he c hc
   rw [look_eq, look_eq, at_vec _ (by omega), at_vec _ (by omega)]
   omega) (fun v => by
   rw [at_zeros]
   by_cases hv : v < 60
   · rw [at_vec _ hv]; have := hM v hv; omega
   · rw [at_vec_out _ (by omega)]; exact Int.le_refl _)
 unfold slv
 rw [h2]
 rfl
section
variable {P : Int} {l : List Bnd} {a b : Nat} (hk : chk P l = 0) (hs : slv P l = true) (ha : a < P.toNat) (hb : b < P.toNat)
include hk hs ha hb
end
def glue (n lo hi : Int) (x : Int) (f z : Nat → Int) (v : Nat) : Int :=
 if (v : Int) < n then f v - f x.toNat else if (v : Int) - n < lo then z ((v : Int) - n).toNat - z hi.toNat else z ((v : Int) - n + (hi - lo + 1)).toNat - z hi.toNat
theorem glue_ren {n Q x lo hi : Int} (h : Jn n Q x lo hi) {f z : Nat → Int} (ht : ∀ q : Int, lo ≤ q → q ≤ hi → f (x + hi - q).toNat - f x.toNat = z q.toNat - z hi.toNat) {q : Int} (h0 : 0 ≤ q) (h1 : q < Q) :
 glue n lo hi x f z (ren n x lo hi q).toNat = z q.toNat - z hi.toNat := by
 obtain ⟨l0, l1, l2, x0, x1⟩ := h
 unfold ren
 by_cases c1 : q < lo
 · rw [if_pos c1]
   unfold glue
   rw [if_neg (by omega), if_pos (by omega)]
   congr 2
   omega
 · rw [if_neg c1]
   by_cases c2 : hi < q
   · rw [if_pos c2]
     unfold glue
     rw [if_neg (by omega), if_neg (by omega)]
     congr 2
     omega
   · rw [if_neg c2]
     unfold glue
     rw [if_pos (by omega)]
     exact ht q (by omega) (by omega)
theorem jnt_glue {n Q x lo hi : Int} {la lb : List Bnd} (h : Jn n Q x lo hi) (ha : chk n la = 0) (hb : chk Q lb = 0) {f z : Nat → Int} (hf : Sol la f) (hz : Sol lb z)
 (ht : ∀ q : Int, lo ≤ q → q ≤ hi → f (x + hi - q).toNat - f x.toNat = z q.toNat - z hi.toNat) : Sol (jnt n x lo hi la lb) (glue n lo hi x f z) := by
 have ea := edges60 ha
 have eb := edges60 hb
 intro c hc
 unfold jnt at hc
 rcases List.mem_append.1 hc with hc | hc
 · have h1 := hf c hc
   have h2 := ea c hc
   unfold glue
   rw [if_pos (by omega), if_pos (by omega)]
   omega
 · obtain ⟨d, hd, rfl⟩ := List.mem_map.1 hc
   have h1 := hz d hd
   have h2 := eb d hd
   dsimp only
   rw [glue_ren h ht (by omega) (by omega), glue_ren h ht (by omega) (by omega)]
   omega
theorem jnt_parts {n Q x lo hi : Int} {la lb : List Bnd} (hb : chk Q lb = 0) {g : Nat → Int} (h : Sol (jnt n x lo hi la lb) g) : Sol la g ∧ Sol lb fun q => g (ren n x lo hi q).toNat := by
 have eb := edges60 hb
 refine ⟨fun c hc => h c (List.mem_append_left _ hc), fun c hc => ?_⟩
 have h1 := h _ (List.mem_append_right _ (List.mem_map.2 ⟨c, hc, rfl⟩))
 have h2 := eb c hc
 dsimp only at h1 ⊢
 rw [Int.toNat_of_nonneg h2.1, Int.toNat_of_nonneg h2.2.2.1]
 exact h1
theorem sol_rev {l : List Bnd} {f : Nat → Int} (h : Sol l f) : Sol (revL l) fun v => -f v := by
 intro c hc
 unfold revL at hc
 obtain ⟨d, hd, rfl⟩ := List.mem_map.1 hc
 have := h d hd
 show -f d.f.toNat ≤ -f d.t.toNat + d.m
 omega
theorem sol_rev' {l : List Bnd} {f : Nat → Int} (h : Sol (revL l) f) : Sol l fun v => -f v := by
 have := sol_rev h
 rwa [revL_revL] at this
def FW (a b : Otl) (p : Prg) (x y : Nat → Int) : Prop := Sol a.ws x ∧ Sol b.ws y ∧ ∀ q : Int, p.bf ≤ q → q ≤ p.bt → x (p.af + p.bt - q).toNat - x p.af.toNat = y p.bt.toNat - y q.toNat
def FT (a b : Otl) (p : Prg) (x y : Nat → Int) : Prop := Sol a.ts x ∧ Sol b.ts y ∧ ∀ q : Int, p.bf ≤ q → q < p.bt → x (p.af + p.bt - 1 - q).toNat - x p.af.toNat = y q.toNat - y (p.bt - 1).toNat
section
variable {a b : Otl} {p : Prg} (h : asked a b p = 0)
include h
theorem way_fit {g : Nat → Int} (hg : Sol (wayL a b p) g) : FW a b p g fun q => -g (cor a p q).toNat := by
 obtain ⟨j, c1, c2, c3⟩ := way_jn h
 rw [wayL_jnt] at hg
 obtain ⟨s1, s2⟩ := jnt_parts c2 hg
 refine ⟨s1, sol_rev' s2, fun q h1 h2 => ?_⟩
 obtain ⟨l0, l1, l2, x0, x1⟩ := j
 dsimp only
 rw [Int.toNat_of_nonneg (by omega), Int.toNat_of_nonneg (by omega)]
 have e1 : cor a p p.bt = p.af := by unfold cor ren; rw [if_neg (by omega), if_neg (by omega)]; omega
 have e2 : cor a p q = p.af + p.bt - q := by unfold cor ren; rw [if_neg (by omega), if_neg (by omega)]
 rw [e1, e2]
 omega
theorem fit_way {x y : Nat → Int} (hf : FW a b p x y) : ∃ g, Sol (wayL a b p) g ∧ ∀ v : Nat, (v : Int) ≤ a.c → g v = x v - x p.af.toNat := by
 obtain ⟨j, c1, c2, c3⟩ := way_jn h
 obtain ⟨f1, f2, f3⟩ := hf
 refine ⟨glue (a.c + 1) p.bf p.bt p.af x (fun v => -y v), ?_, fun v hv => ?_⟩
 · rw [wayL_jnt]
   exact jnt_glue j c1 c2 f1 (sol_rev f2) (fun q h1 h2 => by have := f3 q h1 h2; omega)
 · unfold glue
   rw [if_pos (by omega)]
theorem turn_fit {g : Nat → Int} (hg : Sol (turnL a b p) g) : FT a b p g fun q => g (sid a p q).toNat := by
 obtain ⟨j, c1, c2⟩ := turn_jn h
 rw [turnL_jnt] at hg
 obtain ⟨s1, s2⟩ := jnt_parts c2 hg
 refine ⟨s1, s2, fun q h1 h2 => ?_⟩
 obtain ⟨l0, l1, l2, x0, x1⟩ := j
 dsimp only
 rw [Int.toNat_of_nonneg (by omega), Int.toNat_of_nonneg (by omega)]
 have e1 : sid a p (p.bt - 1) = p.af := by unfold sid ren; rw [if_neg (by omega), if_neg (by omega)]; omega
 have e2 : sid a p q = p.af + p.bt - 1 - q := by unfold sid ren; rw [if_neg (by omega), if_neg (by omega)]; omega
 rw [e1, e2]
theorem fit_turn {x y : Nat → Int} (hf : FT a b p x y) : ∃ g, Sol (turnL a b p) g ∧ ∀ v : Nat, (v : Int) < a.c → g v = x v - x p.af.toNat := by
 obtain ⟨j, c1, c2⟩ := turn_jn h
 obtain ⟨f1, f2, f3⟩ := hf
 refine ⟨glue a.c p.bf (p.bt - 1) p.af x y, ?_, fun v hv => ?_⟩
 · rw [turnL_jnt]
   exact jnt_glue j c1 c2 f1 f2 (fun q h1 h2 => by have := f3 q h1 (by omega); rw [show p.af + (p.bt - 1) - q = p.af + p.bt - 1 - q by omega]; exact this)
 · unfold glue
   rw [if_pos hv]
theorem wayS_iff : wayS a b p = true ↔ ∃ x y, FW a b p x y :=
 ⟨fun hs => by obtain ⟨g, hg⟩ := sol_of_settle (wayL_chk h) hs; exact ⟨_, _, way_fit h hg⟩,
  fun ⟨x, y, hf⟩ => by obtain ⟨g, hg, -⟩ := fit_way h hf; exact settle_of_sol (wayL_chk h) hg⟩
theorem turnS_iff : turnS a b p = true ↔ ∃ x y, FT a b p x y :=
 ⟨fun hs => by obtain ⟨g, hg⟩ := sol_of_settle (turnL_chk h) hs; exact ⟨_, _, turn_fit h hg⟩,
  fun ⟨x, y, hf⟩ => by obtain ⟨g, hg, -⟩ := fit_turn h hf; exact settle_of_sol (turnL_chk h) hg⟩
end
end Go.Proofs.YtaoanagmgheicaaGreat
set_option linter.unusedSimpArgs false
set_option linter.unusedVariables false
namespace Go.Proofs.YtaoanagmgheicaaGreat
open Go.RowKit
theorem idx_at {l : List Bnd} {x : List Int} (h : ∀ i ∈ x, ∃ k b, i = Int.ofNat k ∧ l[k]? = some b) {j : Nat} (hj : j < x.length) :
 ∃ (k : Nat) (f t m i : Int), x[j]? = some (k : Int) ∧ l[k]? = some ⟨f, t, m, i⟩ ∧ bnd l (at_ x j) = ⟨f, t, m, i⟩ := by
 obtain ⟨k, b, e, hb⟩ := h (x[j]) (List.getElem_mem hj)
 obtain ⟨f, t, m, i⟩ := b
 have hx : x[j]? = some (k : Int) := by rw [List.getElem?_eq_getElem hj, e]; rfl
 refine ⟨k, f, t, m, i, hx, hb, ?_⟩
 rw [show at_ x j = (k : Int) from by simp [at_, hx]]
 exact bnd_of (by rw [Int.toNat_natCast]; exact hb)
theorem rCheckCircle_any (P : Int) (A : Option Addr) (n k : Nat) (l : List Bnd) (w : World) (hr : RdB w A n k l) (hn : n ≤ maxLen) (B : Option Addr) (m d : Nat) (x : List Int) (hx : RdI w B m d x) (hm : m ≤ 100) :
 Calls Tryz.prog 64 #[.agg #[.int .i64 P, .slice A n k], .slice B m d] w fun e w' => e = .returned (.tuple #[.bool (checkCircleV P l x).1, .int .i64 (checkCircleV P l x).2]) ∧ Below w.heap.size w w' := by
 by_cases hk : chk P l = 0
 · obtain ⟨hp1, hp2, hlen, -⟩ := chk_ok hk
   have hok := okB_of hk
   have hn4 : n ≤ 402 := by have := hr.len; omega
   have hxl := hx.len
   rw [rcirc_eq hk]
   unfold rcircV
   obtain ⟨V, hV⟩ : ∃ V, walkR l x [] [] 0 = V := ⟨_, rfl⟩
   obtain ⟨s, t⟩ := V
   cases t
   · have hV0 := walk_no hok (show (walkR l x [] [] 0).2 = false from by rw [hV])
     rw [hV0]
     exact rC_no P A n k l w hr hn B m d x hx hm hn4 (Lib.hid hok) (Lib.hid hk) (Lib.hid hV0)
   · rw [hV]
     by_cases h2 : m < 2
     · have : decide (2 ≤ x.length) = false := decide_eq_false (by omega)
       simp only [this, Bool.and_false, Bool.false_and]
       exact rC_short P A n k l w hr hn B m d x hx hm hn4 (Lib.hid hok) (Lib.hid hk) s (Lib.hid hV) h2
     · have h2' : decide (2 ≤ x.length) = true := decide_eq_true (by omega)
       obtain ⟨m, rfl⟩ : ∃ m', m = m' + 1 := ⟨m - 1, by omega⟩
       have hidx := walk_idx hok hV
       obtain ⟨k0, f0, t0, m0, i0, a1, a2, a3⟩ := idx_at hidx (j := 0) (by omega)
       obtain ⟨k1, f1, t1, m1, i1, c1, c2, c3⟩ := idx_at hidx (j := m) (by omega)
       have hlt : lastT l x = t1 := by unfold lastT; rw [show x.length - 1 = m from by omega, c3]
       simp only [h2', Bool.true_and, a3, hlt]
       by_cases hs : s < 0
       · by_cases hf : f0 = t1
         · subst hf
           simp only [hs, decide_true, Bool.and_self]
           exact rC_ok2 P A n k l w hr hn B m d x hx hm hn4 (Lib.hid hok) (Lib.hid hk) s (Lib.hid hV) (by omega) k0 k1 f0 t0 m0 i0 f1 m1 i1 a1 c1 a2 c2 (decide_eq_true hs)
         · simp only [hf, decide_false, Bool.and_false]
           exact rC_ok1 P A n k l w hr hn B m d x hx hm hn4 (Lib.hid hok) (Lib.hid hk) s (Lib.hid hV) (by omega) k0 k1 f0 t0 m0 i0 f1 t1 m1 i1 a1 c1 a2 c2 (decide_eq_true hs) (beq_eq_false_iff_ne.2 hf) (decide_eq_false hf) hf
       · simp only [hs, decide_false, Bool.false_and]
         exact rC_ok0 P A n k l w hr hn B m d x hx hm hn4 (Lib.hid hok) (Lib.hid hk) s (Lib.hid hV) (by omega) k0 k1 f0 t0 m0 i0 f1 t1 m1 i1 a1 c1 a2 c2 (decide_eq_false hs)
 · have hg : gcode P l [] = chk P l := by unfold gcode; rw [if_neg hk]
   have hv : checkCircleV P l x = (false, chk P l) := by unfold checkCircleV; rw [if_neg (by rw [hg]; exact hk), hg]
   rw [hv]
   exact rC_err P A n k l w hr hn B m d x hx hm _ (by simpa using hk) (Lib.hid rfl)
end Go.Proofs.YtaoanagmgheicaaGreat
set_option linter.unusedSimpArgs false
set_option linter.unusedVariables false
namespace Go.Proofs.YtaoanagmgheicaaGreat
theorem circ_cases {P : Int} {l : List Bnd} (hk : chk P l = 0) : (slv P l = true ∧ circleV P l = ([], false, 0)) ∨
 (slv P l = false ∧ ∃ Z, circleV P l = (Z, true, 0) ∧ fewA l P.toNat P.toNat = Z.length ∧ 1 ≤ Z.length ∧ Z.length ≤ 60 ∧ checkCircleV P l Z = (true, 0)) := by
 have hg : gcode P l [] = 0 := by unfold gcode; rw [hk]; simp
 obtain ⟨f1, f2⟩ := few_circle hk
 cases ho : circleO l P.toNat with
 | none =>
  refine .inl ⟨solution_of hk ho, ?_⟩
  unfold circleV circleL
  rw [if_pos hg, ho]
  rfl
 | some r =>
  obtain ⟨f3, f4⟩ := f2 r ho
  have hlz : (r.map Int.ofNat).length = r.length := List.length_map ..
  have hp := (chk_ok hk).2.1
  have hr60 : r.length ≤ 60 := by rw [← f3]; rcases fewA_spec l P.toNat P.toNat with ⟨h, -⟩ | ⟨-, h, -⟩ <;> omega
  refine .inr ⟨?_, r.map Int.ofNat, ?_, f3.trans hlz.symm, by omega, by omega, circle_ok hk ho⟩
  · unfold slv
    cases hs : settle l P.toNat zeros with
    | none => rfl
    | some z => rw [no_circle hk hs] at ho; cases ho
  · unfold circleV circleL
    rw [if_pos hg, ho]
    rfl
def fewO (a : Otl) : Int × Bool :=
 if slv (a.c + 1) a.ws = false then ((fewA a.ws (a.c + 1).toNat (a.c + 1).toNat : Nat), false) else if slv a.c a.ts = false then ((fewA a.ts a.c.toNat a.c.toNat : Nat), true) else (0, false)
theorem flaw_cases {a : Otl} (h : chkO a = 0) : (ownFlawV a = (([], false, false), 0) ∧ fewO a = (0, false)) ∨
 (∃ Z tn, ownFlawV a = ((Z, tn, true), 0) ∧ fewO a = ((Z.length : Int), tn) ∧ 1 ≤ Z.length ∧ Z.length ≤ 60 ∧ checkFlawV tn a Z = (true, 0) ∧ slv (oP tn a) (oL tn a) = false) := by
 obtain ⟨-, -, k1, k2⟩ := chkO_ok h
 unfold ownFlawV checkFlawV fewO flawV
 rw [if_pos h]
 rcases circ_cases k1 with ⟨s1, c1⟩ | ⟨s1, Z, c1, f1, z1, z2, z3⟩
 · rcases circ_cases k2 with ⟨s2, c2⟩ | ⟨s2, Z, c2, f2, z1, z2, z3⟩
   · left
     rw [c1, c2, s1, s2]
     simp
   · right
     refine ⟨Z, true, ?_, ?_, z1, z2, ?_, s2⟩
     · rw [c1, c2]; simp
     · rw [s1, s2, f2]; simp
     · rw [if_pos h]; exact z3
 · right
   refine ⟨Z, false, ?_, ?_, z1, z2, ?_, s1⟩
   · rw [c1]; simp
   · rw [s1, f1]; simp
   · rw [if_pos h]; exact z3
theorem meets_slv {a b : Otl} {p : Prg} (h : asked a b p = 0) (hm : meetsB a b p = true) (u : Bool) : slv (oP u a) (oL u a) = true ∧ slv (oP u b) (oL u b) = true := by
 obtain ⟨oa, ob, -, -, -⟩ := chkP_ok (asked_ok h).1
 obtain ⟨-, -, a1, a2⟩ := chkO_ok oa
 obtain ⟨-, -, b1, b2⟩ := chkO_ok ob
 unfold meetsB at hm
 rw [Bool.and_eq_true] at hm
 cases u
 · obtain ⟨x, y, s1, s2, -⟩ := (wayS_iff h).1 hm.1
   exact ⟨settle_of_sol a1 s1, settle_of_sol b1 s2⟩
 · obtain ⟨x, y, s1, s2, -⟩ := (turnS_iff h).1 hm.2
   exact ⟨settle_of_sol a2 s1, settle_of_sol b2 s2⟩
theorem flaw_meets {a b : Otl} {u : Bool} (hs : slv (oP u a) (oL u a) = false) (p : Prg) : meetsV a b p = (false, (meetsV a b p).2) ∧ meetsV b a p = (false, (meetsV b a p).2) := by
 constructor
 · refine Prod.ext ?_ rfl
   unfold meetsV
   split
   · rename_i h
     cases hm : meetsB a b p
     · rfl
     · rw [(meets_slv h hm u).1] at hs; cases hs
   · rfl
 · refine Prod.ext ?_ rfl
   unfold meetsV
   split
   · rename_i h
     cases hm : meetsB b a p
     · rfl
     · rw [(meets_slv h hm u).2] at hs; cases hs
   · rfl
end Go.Proofs.YtaoanagmgheicaaGreat
set_option linter.unusedSimpArgs false
set_option linter.unusedVariables false
namespace Go.Proofs.YtaoanagmgheicaaGreat
open Go.RowKit
set_option maxRecDepth 100000 in
theorem rOwn_w (c : Int) (A B : Option Addr) (n k m j : Nat) (ws ts : List Bnd) (w : World) (h1 : RdB w A n k ws) (h2 : RdB w B m j ts) (hn : n ≤ maxLen) (hm : m ≤ maxLen) (hc1 : 3 ≤ c) (hc2 : c ≤ 16) :
 Calls Tryz.prog 65 #[.agg #[.int .i64 c, .slice A n k, .slice B m j], .bool false] w fun e w' => ∃ A7 n7 k7, e = .returned (.agg #[.int .i64 (c + 1), .slice A7 n7 k7]) ∧ RdB w' A7 n7 k7 ws ∧ Below w.heap.size w w' := by
  go_enter Tryz.func65, Tryz.ntmps65
  obtain ⟨ba_1, bz_2, bel_3⟩ := ent2 w #[.int .i64 c, .slice A n k, .slice B m j] 24 #[.int .i64 0, .slice none 0 0] 46
  have ra_4 := rI h1 bel_3
  clear h1
  obtain ⟨z_5, z_6, z_7⟩ := at3 ba_1
  obtain ⟨z_8, z_9⟩ := at2 bz_2
  have hc := rways_any c A B n k m j (((w.alloc (.cells #[.int .i64 c, .slice A n k, .slice B m j] 24)).alloc (.cells #[.int .i64 0, .slice none 0 0] 46))) (by omega) (by omega)
  have HC := Lib.hid hc; clear hc
  go_wp2_with fail
  refine HC.out.mono ?_
  rintro e w_10 ⟨rfl, hb⟩
  clear HC
  clear z_5 z_6 z_7 z_8 z_9
  have hb_11 := Lib.hid hb
  clear hb
  replace ba_1 := kH ba_1 hb_11
  obtain ⟨z_12, z_13, z_14⟩ := at3 ba_1
  replace bz_2 := kH bz_2 hb_11
  obtain ⟨z_15, z_16⟩ := at2 bz_2
  have fz_17 : (w_10).frozen? ⟨w.heap.size + 1, 0, none⟩ = false := Blk.frozen bz_2.out 0
  have fz_18 : (w_10).frozen? ⟨w.heap.size + 1, 1, none⟩ = false := Blk.frozen bz_2.out 1
  replace bel_3 := bH bel_3 hb_11
  replace ra_4 := rH ra_4 hb_11
  have hlb_ := Blk.lt bz_2.out; have bz_ := bz_2.out; have bel_ := bel_3.out; have rl_ := ra_4.out
  have HK := Lib.hid (And.intro bz_ (And.intro bel_ rl_)); clear bz_ bel_ rl_
  go_wp2
  obtain ⟨bz_, bel_, rl_⟩ := HK.out
  refine bodyPost_ret (v := .agg #[.int .i64 (c + 1), .slice A n k]) (by simp [results, Tryz.results65, go_sem, z_12, z_13, z_14, z_15, z_16, fz_17, fz_18]) rfl ?_
  exact ⟨_, _, _, rfl, rdB_set2 rl_ ⟨w.heap.size + 1, 0, none⟩ ⟨w.heap.size + 1, 1, none⟩ (.int .i64 (c + 1)) (.slice A n k) bz_ rfl, (by have hsz_ := Below.size bel_; repeat' (first | with_reducible exact bel_ | with_reducible exact Below.refl _ _ | with_reducible refine Below.alloc ?_ ?_ _ | with_reducible refine Below.setCell ?_ ?_ _ | with_reducible refine Below.drew ?_ | with_reducible refine below_setRow ?_ ?_ _ | omega | (simp; done) | (simp; omega)))⟩
set_option maxRecDepth 100000 in
theorem rOwn_t (c : Int) (A B : Option Addr) (n k m j : Nat) (ws ts : List Bnd) (w : World) (h1 : RdB w A n k ws) (h2 : RdB w B m j ts) (hn : n ≤ maxLen) (hm : m ≤ maxLen) (hc1 : 3 ≤ c) (hc2 : c ≤ 16) :
 Calls Tryz.prog 65 #[.agg #[.int .i64 c, .slice A n k, .slice B m j], .bool true] w fun e w' => ∃ A7 n7 k7, e = .returned (.agg #[.int .i64 c, .slice A7 n7 k7]) ∧ RdB w' A7 n7 k7 ts ∧ Below w.heap.size w w' := by
  go_enter Tryz.func65, Tryz.ntmps65
  obtain ⟨ba_1, bz_2, bel_3⟩ := ent2 w #[.int .i64 c, .slice A n k, .slice B m j] 24 #[.int .i64 0, .slice none 0 0] 46
  have rb_4 := rI h2 bel_3
  clear h2
  obtain ⟨z_5, z_6, z_7⟩ := at3 ba_1
  obtain ⟨z_8, z_9⟩ := at2 bz_2
  have hc := rturns_any c A B n k m j (((w.alloc (.cells #[.int .i64 c, .slice A n k, .slice B m j] 24)).alloc (.cells #[.int .i64 0, .slice none 0 0] 46)))
  have HC := Lib.hid hc; clear hc
  go_wp2_with fail
  refine HC.out.mono ?_
  rintro e w_10 ⟨rfl, hb⟩
  clear HC
  clear z_5 z_6 z_7 z_8 z_9
  have hb_11 := Lib.hid hb
  clear hb
  replace ba_1 := kH ba_1 hb_11
  obtain ⟨z_12, z_13, z_14⟩ := at3 ba_1
  replace bz_2 := kH bz_2 hb_11
  obtain ⟨z_15, z_16⟩ := at2 bz_2
  have fz_17 : (w_10).frozen? ⟨w.heap.size + 1, 0, none⟩ = false := Blk.frozen bz_2.out 0
  have fz_18 : (w_10).frozen? ⟨w.heap.size + 1, 1, none⟩ = false := Blk.frozen bz_2.out 1
  replace bel_3 := bH bel_3 hb_11
  replace rb_4 := rH rb_4 hb_11
  have hlb_ := Blk.lt bz_2.out; have bz_ := bz_2.out; have bel_ := bel_3.out; have rl_ := rb_4.out
  have HK := Lib.hid (And.intro bz_ (And.intro bel_ rl_)); clear bz_ bel_ rl_
  go_wp2
  obtain ⟨bz_, bel_, rl_⟩ := HK.out
  refine bodyPost_ret (v := .agg #[.int .i64 c, .slice B m j]) (by simp [results, Tryz.results65, go_sem, z_12, z_13, z_14, z_15, z_16, fz_17, fz_18]) rfl ?_
  exact ⟨_, _, _, rfl, rdB_set2 rl_ ⟨w.heap.size + 1, 0, none⟩ ⟨w.heap.size + 1, 1, none⟩ (.int .i64 c) (.slice B m j) bz_ rfl, (by have hsz_ := Below.size bel_; repeat' (first | with_reducible exact bel_ | with_reducible exact Below.refl _ _ | with_reducible refine Below.alloc ?_ ?_ _ | with_reducible refine Below.setCell ?_ ?_ _ | with_reducible refine Below.drew ?_ | with_reducible refine below_setRow ?_ ?_ _ | omega | (simp; done) | (simp; omega)))⟩
theorem rOwn_any (u : Bool) (c : Int) (A B : Option Addr) (n k m j : Nat) (ws ts : List Bnd) (w : World) (h1 : RdB w A n k ws) (h2 : RdB w B m j ts) (hn : n ≤ maxLen) (hm : m ≤ maxLen) (hc1 : 3 ≤ c) (hc2 : c ≤ 16) :
 Calls Tryz.prog 65 #[.agg #[.int .i64 c, .slice A n k, .slice B m j], .bool u] w fun e w' => ∃ A7 n7 k7, e = .returned (.agg #[.int .i64 (oP u ⟨c, ws, ts⟩), .slice A7 n7 k7]) ∧ RdB w' A7 n7 k7 (oL u ⟨c, ws, ts⟩) ∧ n7 ≤ maxLen ∧ Below w.heap.size w w' := by
 cases u
 · refine (rOwn_w c A B n k m j ws ts w h1 h2 hn hm hc1 hc2).mono ?_
   rintro e w' ⟨A7, n7, k7, he, hr, hb⟩
   exact ⟨A7, n7, k7, he, hr, by rw [← hr.len, h1.len]; exact hn, hb⟩
 · refine (rOwn_t c A B n k m j ws ts w h1 h2 hn hm hc1 hc2).mono ?_
   rintro e w' ⟨A7, n7, k7, he, hr, hb⟩
   exact ⟨A7, n7, k7, he, hr, by rw [← hr.len, h2.len]; exact hm, hb⟩
set_option maxRecDepth 100000 in
theorem rsolved_is (P : Int) (A : Option Addr) (n k : Nat) (l : List Bnd) (w : World) (hr : RdB w A n k l) (hn : n ≤ maxLen) (Z : List Int) (s : Bool) (HS : Hid (solveV P l = (Z, s, 0))) :
 Calls Tryz.prog 87 #[.agg #[.int .i64 P, .slice A n k]] w fun e w' => e = .returned (.bool s) ∧ Below w.heap.size w w' := by
 cases s
 · skip
   go_enter Tryz.func87, Tryz.ntmps87
   obtain ⟨bx_1, bel_2⟩ := ent1 w #[.int .i64 P, .slice A n k] 46
   have ra_3 := rI hr bel_2
   clear hr
   obtain ⟨z_4, z_5⟩ := at2 bx_1
   have hc := rSolve_any P A n k l _ ra_3.out hn
   rw [HS.out] at hc
   unfold RetI at hc
   dsimp only at hc
   have hc := hc
   have HC := Lib.hid hc; clear hc
   go_wp2_with fail
   refine HC.out.mono ?_
   rintro e w_6 ⟨A8, n8, c8, rfl, ho8, hb⟩
   clear HC
   clear z_4 z_5
   have hb_7 := Lib.hid hb
   clear hb
   clear ho8
   replace bx_1 := kH bx_1 hb_7
   obtain ⟨z_8, z_9⟩ := at2 bx_1
   go_wp2
   go_ret
   replace bel_2 := bH bel_2 hb_7
   exact ⟨rfl, bel_2.out⟩
 · skip
   go_enter Tryz.func87, Tryz.ntmps87
   obtain ⟨bx_1, bel_2⟩ := ent1 w #[.int .i64 P, .slice A n k] 46
   have ra_3 := rI hr bel_2
   clear hr
   obtain ⟨z_4, z_5⟩ := at2 bx_1
   have hc := rSolve_any P A n k l _ ra_3.out hn
   rw [HS.out] at hc
   unfold RetI at hc
   dsimp only at hc
   have hc := hc
   have HC := Lib.hid hc; clear hc
   go_wp2_with fail
   refine HC.out.mono ?_
   rintro e w_6 ⟨A8, n8, c8, rfl, ho8, hb⟩
   clear HC
   clear z_4 z_5
   have hb_7 := Lib.hid hb
   clear hb
   clear ho8
   replace bx_1 := kH bx_1 hb_7
   obtain ⟨z_8, z_9⟩ := at2 bx_1
   go_wp2
   go_ret
   replace bel_2 := bH bel_2 hb_7
   exact ⟨rfl, bel_2.out⟩
theorem rsolved_any (P : Int) (A : Option Addr) (n k : Nat) (l : List Bnd) (w : World) (hr : RdB w A n k l) (hn : n ≤ maxLen) (hk : chk P l = 0) :
 Calls Tryz.prog 87 #[.agg #[.int .i64 P, .slice A n k]] w fun e w' => e = .returned (.bool (slv P l)) ∧ Below w.heap.size w w' :=
 rsolved_is P A n k l w hr hn (solveV P l).1 _ (Lib.hid (Prod.ext rfl (solveV_of hk)))
theorem rFewest_at (P : Int) (A : Option Addr) (n k : Nat) (l : List Bnd) (w : World) (hr : RdB w A n k l) (hk : chk P l = 0) :
 Calls Tryz.prog 88 #[.agg #[.int .i64 P, .slice A n k]] w fun e w' => e = .returned (.int .i64 (fewA l P.toNat P.toNat : Nat)) ∧ Below w.heap.size w w' := by
 obtain ⟨hp1, hp2, hlen, -⟩ := chk_ok hk
 have he := edges60 hk
 obtain ⟨p, rfl⟩ := Int.eq_ofNat_of_zero_le (show 0 ≤ P by omega)
 rw [Int.toNat_natCast] at he ⊢
 exact rFewest_any p A n k l w hr (by have := hr.len; omega) (fun c hc => by have := he c hc; omega) (by omega) (by omega)
set_option maxRecDepth 100000 in
theorem rFew_w (c : Int) (A B : Option Addr) (n k m j : Nat) (ws ts : List Bnd) (w : World) (h1 : RdB w A n k ws) (h2 : RdB w B m j ts) (hn : n ≤ maxLen) (hm : m ≤ maxLen) (hc1 : 3 ≤ c) (hc2 : c ≤ 16) (K1 : Hid (chk (c + 1) ws = 0)) (S1 : Hid (slv (c + 1) ws = false)) (f : Int) (F1 : Hid ((fewA ws (c + 1).toNat (c + 1).toNat : Nat) = f)) :
 Calls Tryz.prog 44 #[.agg #[.int .i64 c, .slice A n k, .slice B m j]] w fun e w' => e = .returned (.tuple #[.int .i64 f, .bool false]) ∧ Below w.heap.size w w' := by
  go_enter Tryz.func44, Tryz.ntmps44
  obtain ⟨ba_1, bel_2⟩ := ent1 w #[.int .i64 c, .slice A n k, .slice B m j] 24
  have ra_3 := rI h1 bel_2
  have rb_4 := rI h2 bel_2
  clear h1 h2
  obtain ⟨z_5, z_6, z_7⟩ := at3 ba_1
  have hc := rways_any c A B n k m j ((w.alloc (.cells #[.int .i64 c, .slice A n k, .slice B m j] 24))) (by omega) (by omega)
  have HC := Lib.hid hc; clear hc
  go_wp2_with fail
  refine HC.out.mono ?_
  rintro e w_8 ⟨rfl, hb⟩
  clear HC
  clear z_5 z_6 z_7
  have hb_9 := Lib.hid hb
  clear hb
  replace ba_1 := kH ba_1 hb_9
  obtain ⟨z_10, z_11, z_12⟩ := at3 ba_1
  replace ra_3 := rH ra_3 hb_9
  have hc := rsolved_any (c + 1) A n k ws _ ra_3.out hn K1.out
  rw [S1.out] at hc
  try dsimp only at hc
  have HC := Lib.hid hc; clear hc
  go_wp2_with fail
  refine HC.out.mono ?_
  rintro e w_13 ⟨rfl, hb⟩
  clear HC
  clear z_10 z_11 z_12
  have hb_14 := Lib.hid hb
  clear hb
  replace ba_1 := kH ba_1 hb_14
  obtain ⟨z_15, z_16, z_17⟩ := at3 ba_1
  have hc := rways_any c A B n k m j (w_13) (by omega) (by omega)
  have HC := Lib.hid hc; clear hc
  go_wp2_with fail
  refine HC.out.mono ?_
  rintro e w_18 ⟨rfl, hb⟩
  clear HC
  clear z_15 z_16 z_17
  have hb_19 := Lib.hid hb
  clear hb
  replace ba_1 := kH ba_1 hb_19
  obtain ⟨z_20, z_21, z_22⟩ := at3 ba_1
  replace ra_3 := rH (rH ra_3 hb_14) hb_19
  have hc := rFewest_at (c + 1) A n k ws _ ra_3.out K1.out
  rw [F1.out] at hc
  try dsimp only at hc
  have HC := Lib.hid hc; clear hc
  go_wp2_with fail
  refine HC.out.mono ?_
  rintro e w_23 ⟨rfl, hb⟩
  clear HC
  clear z_20 z_21 z_22
  have hb_24 := Lib.hid hb
  clear hb
  replace ba_1 := kH ba_1 hb_24
  obtain ⟨z_25, z_26, z_27⟩ := at3 ba_1
  go_wp2
  go_ret2
  replace bel_2 := bH (bH (bH (bH bel_2 hb_9) hb_14) hb_19) hb_24
  exact ⟨rfl, bel_2.out⟩
set_option maxRecDepth 100000 in
theorem rFew_t (c : Int) (A B : Option Addr) (n k m j : Nat) (ws ts : List Bnd) (w : World) (h1 : RdB w A n k ws) (h2 : RdB w B m j ts) (hn : n ≤ maxLen) (hm : m ≤ maxLen) (hc1 : 3 ≤ c) (hc2 : c ≤ 16) (K1 : Hid (chk (c + 1) ws = 0)) (S1 : Hid (slv (c + 1) ws = true)) (K2 : Hid (chk c ts = 0)) (s2 : Bool) (S2 : Hid (slv c ts = s2)) (f : Int) (tn : Bool) (HV : Hid (s2 = false → f = (fewA ts c.toNat c.toNat : Nat) ∧ tn = true)) (HN : Hid (s2 = true → f = 0 ∧ tn = false)) :
 Calls Tryz.prog 44 #[.agg #[.int .i64 c, .slice A n k, .slice B m j]] w fun e w' => e = .returned (.tuple #[.int .i64 f, .bool tn]) ∧ Below w.heap.size w w' := by
  go_enter Tryz.func44, Tryz.ntmps44
  obtain ⟨ba_1, bel_2⟩ := ent1 w #[.int .i64 c, .slice A n k, .slice B m j] 24
  have ra_3 := rI h1 bel_2
  have rb_4 := rI h2 bel_2
  clear h1 h2
  obtain ⟨z_5, z_6, z_7⟩ := at3 ba_1
  have hc := rways_any c A B n k m j ((w.alloc (.cells #[.int .i64 c, .slice A n k, .slice B m j] 24))) (by omega) (by omega)
  have HC := Lib.hid hc; clear hc
  go_wp2_with fail
  refine HC.out.mono ?_
  rintro e w_8 ⟨rfl, hb⟩
  clear HC
  clear z_5 z_6 z_7
  have hb_9 := Lib.hid hb
  clear hb
  replace ba_1 := kH ba_1 hb_9
  obtain ⟨z_10, z_11, z_12⟩ := at3 ba_1
  replace ra_3 := rH ra_3 hb_9
  have hc := rsolved_any (c + 1) A n k ws _ ra_3.out hn K1.out
  rw [S1.out] at hc
  try dsimp only at hc
  have HC := Lib.hid hc; clear hc
  go_wp2_with fail
  refine HC.out.mono ?_
  rintro e w_13 ⟨rfl, hb⟩
  clear HC
  clear z_10 z_11 z_12
  have hb_14 := Lib.hid hb
  clear hb
  replace ba_1 := kH ba_1 hb_14
  obtain ⟨z_15, z_16, z_17⟩ := at3 ba_1
  have hc := rturns_any c A B n k m j (w_13)
  have HC := Lib.hid hc; clear hc
  go_wp2_with fail
  refine HC.out.mono ?_
  rintro e w_18 ⟨rfl, hb⟩
  clear HC
  clear z_15 z_16 z_17
  have hb_19 := Lib.hid hb
  clear hb
  replace ba_1 := kH ba_1 hb_19
  obtain ⟨z_20, z_21, z_22⟩ := at3 ba_1
  replace rb_4 := rH (rH (rH rb_4 hb_9) hb_14) hb_19
  have hc := rsolved_any c B m j ts _ rb_4.out hm K2.out
  rw [S2.out] at hc
  try dsimp only at hc
  have HC := Lib.hid hc; clear hc
  go_wp2_with fail
  refine HC.out.mono ?_
  rintro e w_23 ⟨rfl, hb⟩
  clear HC
  clear z_20 z_21 z_22
  have hb_24 := Lib.hid hb
  clear hb
  replace ba_1 := kH ba_1 hb_24
  obtain ⟨z_25, z_26, z_27⟩ := at3 ba_1
  replace bel_2 := bH (bH (bH (bH bel_2 hb_9) hb_14) hb_19) hb_24
  replace ra_3 := rH (rH (rH ra_3 hb_14) hb_19) hb_24
  replace rb_4 := rH rb_4 hb_24
  cases s2
  · obtain ⟨rfl, rfl⟩ := HV.out rfl
    have hc := rturns_any c A B n k m j (w_23)
    have HC := Lib.hid hc; clear hc
    go_wp2_with fail
    refine HC.out.mono ?_
    rintro e w_1028 ⟨rfl, hb⟩
    clear HC
    clear z_25 z_26 z_27
    have hb_1029 := Lib.hid hb
    clear hb
    replace ba_1 := kH ba_1 hb_1029
    obtain ⟨z_1030, z_1031, z_1032⟩ := at3 ba_1
    replace rb_4 := rH rb_4 hb_1029
    have hc := rFewest_at c B m j ts _ rb_4.out K2.out
    have HC := Lib.hid hc; clear hc
    go_wp2_with fail
    refine HC.out.mono ?_
    rintro e w_1033 ⟨rfl, hb⟩
    clear HC
    clear z_1030 z_1031 z_1032
    have hb_1034 := Lib.hid hb
    clear hb
    replace ba_1 := kH ba_1 hb_1034
    obtain ⟨z_1035, z_1036, z_1037⟩ := at3 ba_1
    go_wp2
    go_ret2
    replace bel_2 := bH (bH bel_2 hb_1029) hb_1034
    exact ⟨rfl, bel_2.out⟩
  · obtain ⟨rfl, rfl⟩ := HN.out rfl
    go_wp2
    go_ret2
    exact ⟨rfl, bel_2.out⟩
theorem rFewestOwn_any (c : Int) (A B : Option Addr) (n k m j : Nat) (ws ts : List Bnd) (w : World) (h1 : RdB w A n k ws) (h2 : RdB w B m j ts) (hn : n ≤ maxLen) (hm : m ≤ maxLen) (h : chkO ⟨c, ws, ts⟩ = 0) :
 Calls Tryz.prog 44 #[.agg #[.int .i64 c, .slice A n k, .slice B m j]] w fun e w' => e = .returned (.tuple #[.int .i64 (fewO ⟨c, ws, ts⟩).1, .bool (fewO ⟨c, ws, ts⟩).2]) ∧ Below w.heap.size w w' := by
 obtain ⟨g1, g2, k1, k2⟩ := chkO_ok h
 unfold fewO
 dsimp only at g1 g2 k1 k2 ⊢
 cases s1 : slv (c + 1) ws
 · rw [if_pos rfl]
   exact rFew_w c A B n k m j ws ts w h1 h2 hn hm g1 g2 (Lib.hid k1) (Lib.hid s1) _ (Lib.hid rfl)
 · rw [if_neg (by simp)]
   refine rFew_t c A B n k m j ws ts w h1 h2 hn hm g1 g2 (Lib.hid k1) (Lib.hid s1) (Lib.hid k2) _ (Lib.hid rfl) _ _ (Lib.hid fun h => ?_) (Lib.hid fun h => ?_)
   · rw [if_pos h]; exact ⟨rfl, rfl⟩
   · rw [if_neg (by simp [h])]; exact ⟨rfl, rfl⟩
theorem rCheckCircle_is (P : Int) (A : Option Addr) (n k : Nat) (l : List Bnd) (w : World) (hr : RdB w A n k l) (hn : n ≤ maxLen) (B : Option Addr) (m d : Nat) (x : List Int) (hx : RdI w B m d x) (hm : m ≤ 100) (V : Bool × Int) (hV : checkCircleV P l x = V) :
 Calls Tryz.prog 64 #[.agg #[.int .i64 P, .slice A n k], .slice B m d] w fun e w' => e = .returned (.tuple #[.bool V.1, .int .i64 V.2]) ∧ Below w.heap.size w w' := by
 subst hV
 exact rCheckCircle_any P A n k l w hr hn B m d x hx hm
set_option maxRecDepth 100000 in
theorem rCheckFlaw_err (t : Bool) (c : Int) (A B : Option Addr) (n k m j : Nat) (ws ts : List Bnd) (w : World) (h1 : RdB w A n k ws) (h2 : RdB w B m j ts) (hn : n ≤ maxLen) (hm : m ≤ maxLen) (F : Option Addr) (fm fd : Nat) (x : List Int) (hf : RdI w F fm fd x) (hfm : fm ≤ 100) (q : Int) (hq : (q != 0) = true) (E1 : Hid (chkO ⟨c, ws, ts⟩ = q)) :
 Calls Tryz.prog 21 #[.agg #[.int .i64 c, .slice A n k, .slice B m j], .agg #[.bool t, .slice F fm fd]] w fun e w' => e = .returned (.tuple #[.bool false, .int .i64 q]) ∧ Below w.heap.size w w' := by
  go_enter Tryz.func21, Tryz.ntmps21
  obtain ⟨ba_1, bf_2, bel_3⟩ := ent2 w #[.int .i64 c, .slice A n k, .slice B m j] 24 #[.bool t, .slice F fm fd] 33
  have ra_4 := rI h1 bel_3
  have rb_5 := rI h2 bel_3
  have rf_6 := iI hf bel_3
  clear h1 h2 hf
  obtain ⟨z_7, z_8, z_9⟩ := at3 ba_1
  obtain ⟨z_10, z_11⟩ := at2 bf_2
  have hc := rCheckOutline_any c A B n k m j ws ts _ ra_4.out rb_5.out hn hm
  rw [E1.out] at hc
  try dsimp only at hc
  have HC := Lib.hid hc; clear hc
  go_wp2_with fail
  refine HC.out.mono ?_
  rintro e w_12 ⟨rfl, hb⟩
  clear HC
  clear z_7 z_8 z_9 z_10 z_11
  have hb_13 := Lib.hid hb
  clear hb
  replace ba_1 := kH ba_1 hb_13
  obtain ⟨z_14, z_15, z_16⟩ := at3 ba_1
  replace bf_2 := kH bf_2 hb_13
  obtain ⟨z_17, z_18⟩ := at2 bf_2
  go_wp2
  go_ret2
  replace bel_3 := bH bel_3 hb_13
  exact ⟨rfl, bel_3.out⟩
set_option maxRecDepth 100000 in
theorem rCheckFlaw_ok (t : Bool) (c : Int) (A B : Option Addr) (n k m j : Nat) (ws ts : List Bnd) (w : World) (h1 : RdB w A n k ws) (h2 : RdB w B m j ts) (hn : n ≤ maxLen) (hm : m ≤ maxLen) (F : Option Addr) (fm fd : Nat) (x : List Int) (hf : RdI w F fm fd x) (hfm : fm ≤ 100) (HC1 : Hid (3 ≤ c)) (HC2 : Hid (c ≤ 16)) (E1 : Hid (chkO ⟨c, ws, ts⟩ = 0)) (v1 : Bool) (v2 : Int) (EV : Hid (checkCircleV (oP t ⟨c, ws, ts⟩) (oL t ⟨c, ws, ts⟩) x = (v1, v2))) :
 Calls Tryz.prog 21 #[.agg #[.int .i64 c, .slice A n k, .slice B m j], .agg #[.bool t, .slice F fm fd]] w fun e w' => e = .returned (.tuple #[.bool v1, .int .i64 v2]) ∧ Below w.heap.size w w' := by
  go_enter Tryz.func21, Tryz.ntmps21
  obtain ⟨ba_1, bf_2, bel_3⟩ := ent2 w #[.int .i64 c, .slice A n k, .slice B m j] 24 #[.bool t, .slice F fm fd] 33
  have ra_4 := rI h1 bel_3
  have rb_5 := rI h2 bel_3
  have rf_6 := iI hf bel_3
  clear h1 h2 hf
  obtain ⟨z_7, z_8, z_9⟩ := at3 ba_1
  obtain ⟨z_10, z_11⟩ := at2 bf_2
  have hc := rCheckOutline_any c A B n k m j ws ts _ ra_4.out rb_5.out hn hm
  rw [E1.out] at hc
  try dsimp only at hc
  have HC := Lib.hid hc; clear hc
  go_wp2_with fail
  refine HC.out.mono ?_
  rintro e w_12 ⟨rfl, hb⟩
  clear HC
  clear z_7 z_8 z_9 z_10 z_11
  have hb_13 := Lib.hid hb
  clear hb
  replace ba_1 := kH ba_1 hb_13
  obtain ⟨z_14, z_15, z_16⟩ := at3 ba_1
  replace bf_2 := kH bf_2 hb_13
  obtain ⟨z_17, z_18⟩ := at2 bf_2
  go_wp2_with fail
  clear z_14 z_15 z_16 z_17 z_18
  replace bel_3 := bD (bH bel_3 hb_13)
  replace ra_4 := rD (rH ra_4 hb_13)
  replace rb_5 := rD (rH rb_5 hb_13)
  replace rf_6 := iD (iH rf_6 hb_13)
  replace ba_1 := kD ba_1
  replace bf_2 := kD bf_2
  refine wp_region_held_drew (S := (fun W' => Blk W' (w.heap.size) 24 #[.int .i64 c, .slice A n k, .slice B m j] ∧ Blk W' (w.heap.size + 1) 33 #[.bool t, .slice F fm fd])) (by kernel_rfl) ⟨ba_1.out, bf_2.out⟩ (fun _ => ?_)
  obtain ⟨w1796, hw1797⟩ : ∃ w', w' = (w_12.drew) := ⟨_, rfl⟩
  rw [← hw1797] at bel_3 ra_4 rb_5 rf_6 ba_1 bf_2
  rw [← hw1797]
  clear hw1797
  refine' tkH 0 ⟨ba_1.out, bf_2.out⟩ ?hyR1798 ?_
  case hyR1798 => (rintro W' ⟨hS0, hS1⟩; have hc0 := Blk.nth hS0 0; have hc1 := Blk.nth hS0 1; have hc2 := Blk.nth hS0 2; clear hS0 hS1; go_simp; try with_reducible rfl)
  refine' twH 1 ⟨ba_1.out, bf_2.out⟩ ?_
  refine' tkH 2 ⟨ba_1.out, bf_2.out⟩ ?hyR1800 ?_
  case hyR1800 => (rintro W' ⟨hS0, hS1⟩; have hc0 := Blk.nth hS1 0; clear hS0 hS1; go_simp; try with_reducible rfl)
  refine' twH 4 ⟨ba_1.out, bf_2.out⟩ ?_
  try simp only [Act.put, qsA, qsZ, qsS]
  refine' tkH 5 ⟨ba_1.out, bf_2.out⟩ ?hyR1802 ?_
  case hyR1802 => (rintro W' ⟨hS0, hS1⟩; have hc0 := Blk.nth hS1 1; clear hS0 hS1; go_simp; try with_reducible rfl)
  try simp only [Act.put, qsA, qsZ, qsS]
  refine oneH 3 rfl fun K hK => ?_
  go_simp
  go_at_call 65
  refine (rOwn_any t c A B n k m j ws ts _ ra_4.out rb_5.out hn hm HC1.out HC2.out).mono ?_
  rintro e w1803 ⟨A7, n7, k7, rfl, hr7, hn7, hb1804⟩
  dsimp only
  replace hb1804 := Lib.hid hb1804
  have r7_1805 := Lib.hid (hr7)
  replace ba_1 := kH ba_1 hb1804
  replace bf_2 := kH bf_2 hb1804
  refine hK.out _ _ ⟨ba_1.out, bf_2.out⟩ (fun _ => ?_); clear hK K
  try simp only [Act.put, qsA, qsZ, qsS]
  refine oneH 6 rfl fun K hK => ?_
  replace rf_6 := iH rf_6 hb1804
  go_simp
  go_at_call 64
  refine (rCheckCircle_is (oP t ⟨c, ws, ts⟩) A7 n7 k7 (oL t ⟨c, ws, ts⟩) _ r7_1805.out hn7 F fm fd x rf_6.out hfm _ EV.out).mono ?_
  rintro e w1806 ⟨rfl, hb1807⟩
  dsimp only
  replace hb1807 := Lib.hid hb1807
  replace ba_1 := kH ba_1 hb1807
  replace bf_2 := kH bf_2 hb1807
  refine hK.out _ _ ⟨ba_1.out, bf_2.out⟩ (fun _ => ?_); clear hK K
  try simp only [Act.put, qsA, qsZ, qsS]
  refine' twH 7 ⟨ba_1.out, bf_2.out⟩ ?_
  refine' twH 8 ⟨ba_1.out, bf_2.out⟩ ?_
  refine' twH 9 ⟨ba_1.out, bf_2.out⟩ ?_
  refine' twH 10 ⟨ba_1.out, bf_2.out⟩ ?_
  try simp only [Act.put, qsA, qsZ, qsS]
  refine wpAnyH_done (by kernel_rfl) ?_ _
  go_wp2
  go_ret2
  replace bel_3 := bH (bH bel_3 hb1804) hb1807
  exact ⟨rfl, bel_3.out⟩
theorem rCheckFlaw_any (t : Bool) (c : Int) (A B : Option Addr) (n k m j : Nat) (ws ts : List Bnd) (w : World) (h1 : RdB w A n k ws) (h2 : RdB w B m j ts) (hn : n ≤ maxLen) (hm : m ≤ maxLen) (F : Option Addr) (fm fd : Nat) (x : List Int) (hf : RdI w F fm fd x) (hfm : fm ≤ 100) :
 Calls Tryz.prog 21 #[.agg #[.int .i64 c, .slice A n k, .slice B m j], .agg #[.bool t, .slice F fm fd]] w fun e w' => e = .returned (.tuple #[.bool (checkFlawV t ⟨c, ws, ts⟩ x).1, .int .i64 (checkFlawV t ⟨c, ws, ts⟩ x).2]) ∧ Below w.heap.size w w' := by
 unfold checkFlawV
 by_cases h : chkO ⟨c, ws, ts⟩ = 0
 · rw [if_pos h]
   obtain ⟨g1, g2, -, -⟩ := chkO_ok h
   exact rCheckFlaw_ok t c A B n k m j ws ts w h1 h2 hn hm F fm fd x hf hfm (Lib.hid g1) (Lib.hid g2) (Lib.hid h) _ _ (Lib.hid rfl)
 · rw [if_neg h]
   exact rCheckFlaw_err t c A B n k m j ws ts w h1 h2 hn hm F fm fd x hf hfm _ (by simpa using h) (Lib.hid rfl)
end Go.Proofs.YtaoanagmgheicaaGreat
