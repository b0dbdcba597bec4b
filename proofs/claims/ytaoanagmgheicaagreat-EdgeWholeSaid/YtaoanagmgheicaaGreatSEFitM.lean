import Derived.Test.YtaoanagmgheicaaGreatSSharpM
import Derived.Test.YtaoanagmgheicaaGreatSIdz
import Derived.Test.YtaoanagmgheicaaGreatSPath
import Derived.Test.YtaoanagmgheicaaGreatSESys
import Derived.Test.YtaoanagmgheicaaGreatSEWays
set_option linter.unusedSimpArgs false
set_option linter.unusedVariables false
namespace Go.Proofs.YtaoanagmgheicaaGreat
open Go.RowKit
theorem startL_self {a : Nat} (ha : a < 60) : look (startL a) (a : Int) = 0 := by rw [look_at, at_startL ha _ ha, if_pos rfl]
theorem dist_path {p : Int} {l : List Bnd} {a b : Nat} (hk : chk p l = 0) (hs : (settle l p.toNat zeros).isSome = true) (ha : a < 60) (hb : b < 60) (hD : dist l p.toNat a b ≠ Inf) :
 ∃ r : List Nat, IsWalk l r a b (dist l p.toNat a b) ∧ r.length ≤ 60 := by
 obtain ⟨hp1, hp2, -, -⟩ := chk_ok hk
 have hok := okB_of hk
 obtain ⟨e, hst, hfix⟩ := dist_rounds (a := a) hk hs ha
 have hd : dist l p.toNat a b = at_ (rounds l (p.toNat - 1) (startL a)) b := by unfold dist; rw [e]
 obtain ⟨hk1, hk2, hk3⟩ := lowK_spec (l := l) (x0 := startL a) (b := b) (most := dist l p.toNat a b) (p.toNat - 1) 0 (by rw [Nat.zero_add, hd]; exact Int.le_refl _) (fun j hj => absurd hj (Nat.not_lt_zero j))
 obtain ⟨K, hK⟩ : ∃ K, lowK l (startL a) b (dist l p.toNat a b) (p.toNat - 1) 0 = K := ⟨_, rfl⟩
 rw [hK] at hk1 hk2 hk3
 have hlenK : (backL l (startL a) K b).length = K := backL_length _ _ _ _
 have hge : dist l p.toNat a b ≤ at_ (rounds l K (startL a)) b := by
  rw [hd]
  have := rounds_le l (startL a) b K (p.toNat - 1 - K)
  rw [show K + (p.toNat - 1 - K) = p.toNat - 1 from by omega] at this
  exact this
 have heq : at_ (rounds l K (startL a)) b = dist l p.toNat a b := by omega
 obtain ⟨a', a0, a1, aI, hw⟩ := backL_spec (startL_length a) hok K b (by omega) (by omega) (by rw [look_at, heq]; exact hD) (fun j hj => by rw [look_at, look_at, heq]; exact hk3 j (by omega))
 have haa : a' = a := by
  rw [look_eq, at_startL ha _ (by omega)] at aI
  by_cases e : a = a'.toNat
  · omega
  · rw [if_neg e] at aI; exact absurd rfl aI
 subst haa
 rw [startL_self ha, Int.sub_zero, look_at, heq] at hw
 exact ⟨_, hw, by rw [hlenK]; omega⟩
theorem chk_rev {p : Int} {l : List Bnd} (hk : chk p l = 0) : chk p (revL l) = 0 := by
 obtain ⟨h1, h2, h3, h4⟩ := chk_ok hk
 unfold chk
 rw [if_neg (by simp [revL]; omega), if_neg (by omega), if_pos]
 rw [List.all_eq_true]
 intro x hx
 obtain ⟨c, hc, rfl⟩ := List.mem_map.1 hx
 have := of_decide_eq_true (h4 c hc)
 exact decide_eq_true (by simp only [revB]; omega)
theorem revL_revL (l : List Bnd) : revL (revL l) = l := by
 unfold revL
 rw [List.map_map]
 conv => rhs; rw [← List.map_id l]
 exact List.map_congr_left (fun c _ => rfl)
end Go.Proofs.YtaoanagmgheicaaGreat
set_option linter.unusedSimpArgs false
set_option linter.unusedVariables false
namespace Go.Proofs.YtaoanagmgheicaaGreat
def Sol (l : List Bnd) (f : Nat → Int) : Prop := ∀ c ∈ l, f c.t.toNat ≤ f c.f.toNat + c.m
def slv (P : Int) (l : List Bnd) : Bool := (settle l P.toNat zeros).isSome
theorem sol_of_settle {P : Int} {l : List Bnd} (hk : chk P l = 0) (h : slv P l = true) : ∃ f, Sol l f := by
 obtain ⟨z, hz⟩ := Option.isSome_iff_exists.1 h
 obtain ⟨z1, z2, z3, z4⟩ := sol_spec hk hz
 exact ⟨at_ z, fun c hc => z2 c hc⟩
theorem bounded_below (f : Nat → Int) (n : Nat) : ∃ M, ∀ v, v < n → f v ≤ M := by
 induction n with
 | zero => exact ⟨0, fun v h => absurd h (Nat.not_lt_zero v)⟩
 | succ n ih =>
  obtain ⟨M, hM⟩ := ih
  refine ⟨max M (f n), fun v h => ?_⟩
  by_cases e : v = n
  · subst e; omega
  · have := hM v (by omega); omega
theorem settle_of_sol {P : Int} {l : List Bnd} (hk : chk P l = 0) {f : Nat → Int} (h : Sol l f) : slv P l = true := by
 obtain ⟨hp1, hp2, hlen, -⟩ := chk_ok hk
 have he := edges60 hk
 obtain ⟨M, hM⟩ := bounded_below f 60
 obtain ⟨h2, -⟩ := settle_of_stable (l := l) (p := P.toNat) (x := zeros) (y := vec fun v => f v - M) (by omega) (edges_of hk) (by rw [zeros_length]; omega)
  (fun v => by rw [at_zeros]; unfold Inf; omega) (fun c hc _ => by
   have h1 := h c hc
   have h3 := he c hc
   rw [look_eq, look_eq, at_vec _ (by omega), at_vec _ (by omega)]
   omega) (fun v => by
   rw [at_zeros]
   by_cases hv : v < 60
   · rw [at_vec _ hv]; have := hM v hv; omega
   · rw [at_vec_out _ (by omega)]; exact Int.le_refl _)
 unfold slv
 rw [h2]
 rfl
theorem walk_sol {l : List Bnd} {f : Nat → Int} (hf : Sol l f) : ∀ {r : List Nat} {a b s : Int}, IsWalk l r a b s → f b.toNat - f a.toNat ≤ s
 | [], a, b, s, h => by
  obtain ⟨rfl, rfl⟩ := h
  omega
 | i :: r, a, b, s, h => by
  obtain ⟨c, hc, rfl, hw⟩ := h
  have h1 := walk_sol hf hw
  have h2 := hf c (List.mem_of_getElem? hc)
  omega
section
variable {P : Int} {l : List Bnd} {a b : Nat} (hk : chk P l = 0) (hs : slv P l = true) (ha : a < P.toNat) (hb : b < P.toNat)
include hk hs ha hb
theorem dist_sol {f : Nat → Int} (hf : Sol l f) (hD : dist l P.toNat a b ≠ Inf) : f b - f a ≤ dist l P.toNat a b := by
 obtain ⟨hp1, hp2, hlen, -⟩ := chk_ok hk
 obtain ⟨r, hr, -⟩ := dist_path hk hs (show a < 60 by omega) (show b < 60 by omega) hD
 have := walk_sol hf hr
 simpa using this
theorem dist_some {N : Int} (hN : -100000000 ≤ N ∧ N ≤ 100000000) (h1 : N ≤ dist l P.toNat a b) (h2 : -N ≤ dist l P.toNat b a) : ∃ f, Sol l f ∧ f b - f a = N := by
 obtain ⟨z, hz⟩ := Option.isSome_iff_exists.1 hs
 obtain ⟨x, hx⟩ := Option.isSome_iff_exists.1 (attain_yes hk hz ha hb hN h1 h2)
 obtain ⟨-, x1, x2, -⟩ := tie_spec hk ha hb hN hx
 exact ⟨at_ x, fun c hc => x1 c hc, x2⟩
theorem dist_back : -(dist l P.toNat a b) ≤ dist l P.toNat b a := by
 obtain ⟨hp1, hp2, hlen, -⟩ := chk_ok hk
 obtain ⟨z, hz⟩ := Option.isSome_iff_exists.1 hs
 obtain ⟨z1, z2, z3, z4⟩ := sol_spec hk hz
 have hbd : ∀ v, v < 60 → -1000000000000 ≤ at_ z v ∧ at_ z v ≤ 1000000000000 := fun v _ => by have := z3 v; have := z4 v; omega
 have h1 := dist_ge (a := a) (b := b) hk hs (by omega) (by omega) z2 hbd
 have h2 := dist_ge (a := b) (b := a) hk hs (by omega) (by omega) z2 hbd
 omega
theorem dist_far (hD : dist l P.toNat a b = Inf) : ∃ f, Sol l f ∧ f b - f a = 100000000 := by
 obtain ⟨hp1, hp2, hlen, -⟩ := chk_ok hk
 obtain ⟨z, hz⟩ := Option.isSome_iff_exists.1 hs
 have := dist_low (a := b) (b := a) hk hz (by omega) (by omega)
 exact dist_some hk hs ha hb (by omega) (by rw [hD]; unfold Inf; omega) (by omega)
theorem dist_at (hD : dist l P.toNat a b ≠ Inf) : ∃ f, Sol l f ∧ f b - f a = dist l P.toNat a b := by
 obtain ⟨hp1, hp2, hlen, -⟩ := chk_ok hk
 obtain ⟨z, hz⟩ := Option.isSome_iff_exists.1 hs
 have h1 := dist_low (a := a) (b := b) hk hz (by omega) (by omega)
 have h2 := dist_top (a := a) (v := b) hk hs (by omega) hD
 exact dist_some hk hs ha hb (by omega) (Int.le_refl _) (dist_back hk hs ha hb)
end
theorem dist_same {P Q : Int} {l k : List Bnd} {a b c d : Nat} (h1 : chk P l = 0) (h2 : slv P l = true) (ha : a < P.toNat) (hb : b < P.toNat) (h3 : chk Q k = 0) (h4 : slv Q k = true) (hc : c < Q.toNat) (hd : d < Q.toNat)
 (e1 : ∀ f, Sol l f → ∃ g, Sol k g ∧ g d - g c = f b - f a) (e2 : ∀ g, Sol k g → ∃ f, Sol l f ∧ f b - f a = g d - g c) : dist l P.toNat a b = dist k Q.toNat c d := by
 obtain ⟨p1, p2, -, -⟩ := chk_ok h1
 obtain ⟨q1, q2, -, -⟩ := chk_ok h3
 by_cases i1 : dist l P.toNat a b = Inf
 · by_cases i2 : dist k Q.toNat c d = Inf
   · rw [i1, i2]
   · obtain ⟨f, hf, hf2⟩ := dist_far h1 h2 ha hb i1
     obtain ⟨g, hg, hg2⟩ := e1 f hf
     have := dist_sol h3 h4 hc hd hg i2
     have := dist_top (a := c) (v := d) h3 h4 (by omega) i2
     omega
 · by_cases i2 : dist k Q.toNat c d = Inf
   · obtain ⟨g, hg, hg2⟩ := dist_far h3 h4 hc hd i2
     obtain ⟨f, hf, hf2⟩ := e2 g hg
     have := dist_sol h1 h2 ha hb hf i1
     have := dist_top (a := a) (v := b) h1 h2 (by omega) i1
     omega
   · obtain ⟨f, hf, hf2⟩ := dist_at h1 h2 ha hb i1
     obtain ⟨g, hg, hg2⟩ := e1 f hf
     have := dist_sol h3 h4 hc hd hg i2
     obtain ⟨g', hg', hg2'⟩ := dist_at h3 h4 hc hd i2
     obtain ⟨f', hf', hf2'⟩ := e2 g' hg'
     have := dist_sol h1 h2 ha hb hf' i1
     omega
def jnt (n x lo hi : Int) (la lb : List Bnd) : List Bnd := la ++ lb.map fun c => ⟨ren n x lo hi c.f, ren n x lo hi c.t, c.m, c.b⟩
theorem wayL_jnt (a b : Otl) (p : Prg) : wayL a b p = jnt (a.c + 1) p.af p.bf p.bt a.ws (revL b.ws) := by
 unfold wayL jnt revL
 rw [List.map_map]
 rfl
theorem turnL_jnt (a b : Otl) (p : Prg) : turnL a b p = jnt a.c p.af p.bf (p.bt - 1) a.ts b.ts := rfl
structure Jn (n Q x lo hi : Int) : Prop where
 l0 : 0 ≤ lo
 l1 : lo ≤ hi
 l2 : hi < Q
 x0 : 0 ≤ x
 x1 : x + (hi - lo) < n
theorem ren_in {n Q x lo hi q : Int} (h : Jn n Q x lo hi) (h0 : 0 ≤ q) (h1 : q < Q) : 0 ≤ ren n x lo hi q ∧ ren n x lo hi q < n + Q - (hi - lo + 1) := by
 obtain ⟨l0, l1, l2, x0, x1⟩ := h
 unfold ren
 split
 · omega
 · split <;> omega
theorem ren_inj {n Q x lo hi q r : Int} (h : Jn n Q x lo hi) (h0 : 0 ≤ q) (h1 : q < Q) (h2 : 0 ≤ r) (h3 : r < Q) (hn : q ≠ r) : ren n x lo hi q ≠ ren n x lo hi r := by
 obtain ⟨l0, l1, l2, x0, x1⟩ := h
 unfold ren
 split <;> split <;> (try split) <;> (try split) <;> omega
theorem chk_zero {P : Int} {l : List Bnd} (h1 : 1 ≤ P) (h2 : P ≤ 60) (h3 : l.length ≤ 400) (h4 : ∀ x ∈ l, okBnd (P - 1) x = true) : chk P l = 0 := by
 unfold chk
 rw [if_neg (by omega), if_neg (by omega), if_pos (List.all_eq_true.2 h4)]
theorem jnt_chk {n Q x lo hi : Int} {la lb : List Bnd} (h : Jn n Q x lo hi) (ha : chk n la = 0) (hb : chk Q lb = 0) (hl : la.length + lb.length ≤ 400) (hs : n + Q - (hi - lo + 1) ≤ 60) :
 chk (n + Q - (hi - lo + 1)) (jnt n x lo hi la lb) = 0 := by
 obtain ⟨a1, a2, -, a4⟩ := chk_ok ha
 obtain ⟨b1, b2, -, b4⟩ := chk_ok hb
 have hh := h
 obtain ⟨l0, l1, l2, x0, x1⟩ := h
 refine chk_zero (by omega) hs (by simp [jnt]; omega) fun c hc => ?_
 unfold jnt at hc
 rcases List.mem_append.1 hc with hc | hc
 · have := a4 c hc
   simp only [okBnd, decide_eq_true_eq] at this ⊢
   omega
 · obtain ⟨d, hd, rfl⟩ := List.mem_map.1 hc
   have hd2 := b4 d hd
   simp only [okBnd, decide_eq_true_eq] at hd2 ⊢
   have i1 := ren_in hh (q := d.f) (by omega) (by omega)
   have i2 := ren_in hh (q := d.t) (by omega) (by omega)
   have i3 := ren_inj hh (q := d.f) (r := d.t) (by omega) (by omega) (by omega) (by omega) (by omega)
   omega
def glue (n lo hi : Int) (x : Int) (f z : Nat → Int) (v : Nat) : Int :=
 if (v : Int) < n then f v - f x.toNat else if (v : Int) - n < lo then z ((v : Int) - n).toNat - z hi.toNat else z ((v : Int) - n + (hi - lo + 1)).toNat - z hi.toNat
theorem glue_ren {n Q x lo hi : Int} (h : Jn n Q x lo hi) {f z : Nat → Int} (ht : ∀ q : Int, lo ≤ q → q ≤ hi → f (x + hi - q).toNat - f x.toNat = z q.toNat - z hi.toNat) {q : Int} (h0 : 0 ≤ q) (h1 : q < Q) :
 glue n lo hi x f z (ren n x lo hi q).toNat = z q.toNat - z hi.toNat := by
 obtain ⟨l0, l1, l2, x0, x1⟩ := h
 unfold ren
 by_cases c1 : q < lo
 · rw [if_pos c1]
   unfold glue
   rw [if_neg (by omega), if_pos (by omega)]
   congr 2
   omega
 · rw [if_neg c1]
   by_cases c2 : hi < q
   · rw [if_pos c2]
     unfold glue
     rw [if_neg (by omega), if_neg (by omega)]
     congr 2
     omega
   · rw [if_neg c2]
     unfold glue
     rw [if_pos (by omega)]
     exact ht q (by omega) (by omega)
theorem jnt_glue {n Q x lo hi : Int} {la lb : List Bnd} (h : Jn n Q x lo hi) (ha : chk n la = 0) (hb : chk Q lb = 0) {f z : Nat → Int} (hf : Sol la f) (hz : Sol lb z)
 (ht : ∀ q : Int, lo ≤ q → q ≤ hi → f (x + hi - q).toNat - f x.toNat = z q.toNat - z hi.toNat) : Sol (jnt n x lo hi la lb) (glue n lo hi x f z) := by
 have ea := edges60 ha
 have eb := edges60 hb
 intro c hc
 unfold jnt at hc
 rcases List.mem_append.1 hc with hc | hc
 · have h1 := hf c hc
   have h2 := ea c hc
   unfold glue
   rw [if_pos (by omega), if_pos (by omega)]
   omega
 · obtain ⟨d, hd, rfl⟩ := List.mem_map.1 hc
   have h1 := hz d hd
   have h2 := eb d hd
   dsimp only
   rw [glue_ren h ht (by omega) (by omega), glue_ren h ht (by omega) (by omega)]
   omega
theorem jnt_parts {n Q x lo hi : Int} {la lb : List Bnd} (hb : chk Q lb = 0) {g : Nat → Int} (h : Sol (jnt n x lo hi la lb) g) : Sol la g ∧ Sol lb fun q => g (ren n x lo hi q).toNat := by
 have eb := edges60 hb
 refine ⟨fun c hc => h c (List.mem_append_left _ hc), fun c hc => ?_⟩
 have h1 := h _ (List.mem_append_right _ (List.mem_map.2 ⟨c, hc, rfl⟩))
 have h2 := eb c hc
 dsimp only at h1 ⊢
 rw [Int.toNat_of_nonneg h2.1, Int.toNat_of_nonneg h2.2.2.1]
 exact h1
theorem sol_rev {l : List Bnd} {f : Nat → Int} (h : Sol l f) : Sol (revL l) fun v => -f v := by
 intro c hc
 unfold revL at hc
 obtain ⟨d, hd, rfl⟩ := List.mem_map.1 hc
 have := h d hd
 show -f d.f.toNat ≤ -f d.t.toNat + d.m
 omega
theorem sol_rev' {l : List Bnd} {f : Nat → Int} (h : Sol (revL l) f) : Sol l fun v => -f v := by
 have := sol_rev h
 rwa [revL_revL] at this
def FW (a b : Otl) (p : Prg) (x y : Nat → Int) : Prop := Sol a.ws x ∧ Sol b.ws y ∧ ∀ q : Int, p.bf ≤ q → q ≤ p.bt → x (p.af + p.bt - q).toNat - x p.af.toNat = y p.bt.toNat - y q.toNat
def FT (a b : Otl) (p : Prg) (x y : Nat → Int) : Prop := Sol a.ts x ∧ Sol b.ts y ∧ ∀ q : Int, p.bf ≤ q → q < p.bt → x (p.af + p.bt - 1 - q).toNat - x p.af.toNat = y q.toNat - y (p.bt - 1).toNat
def wayS (a b : Otl) (p : Prg) : Bool := slv (wayP a b p) (wayL a b p)
def turnS (a b : Otl) (p : Prg) : Bool := slv (turnP a b p) (turnL a b p)
def meetsB (a b : Otl) (p : Prg) : Bool := wayS a b p && turnS a b p
section
variable {a b : Otl} {p : Prg} (h : asked a b p = 0)
include h
theorem way_jn : Jn (a.c + 1) (b.c + 1) p.af p.bf p.bt ∧ chk (a.c + 1) a.ws = 0 ∧ chk (b.c + 1) (revL b.ws) = 0 ∧ chk (b.c + 1) b.ws = 0 := by
 obtain ⟨h1, h2, h3⟩ := asked_ok h
 obtain ⟨oa, ob, sa, sb, hk⟩ := chkP_ok h1
 obtain ⟨a1, a2, a3, a4⟩ := chkO_ok oa
 obtain ⟨b1, b2, b3, b4⟩ := chkO_ok ob
 exact ⟨⟨by omega, by omega, by omega, by omega, by omega⟩, a3, chk_rev b3, b3⟩
theorem turn_jn : Jn a.c b.c p.af p.bf (p.bt - 1) ∧ chk a.c a.ts = 0 ∧ chk b.c b.ts = 0 := by
 obtain ⟨h1, h2, h3⟩ := asked_ok h
 obtain ⟨oa, ob, sa, sb, hk⟩ := chkP_ok h1
 obtain ⟨a1, a2, a3, a4⟩ := chkO_ok oa
 obtain ⟨b1, b2, b3, b4⟩ := chkO_ok ob
 exact ⟨⟨by omega, by omega, by omega, by omega, by omega⟩, a4, b4⟩
theorem wayL_chk : chk (wayP a b p) (wayL a b p) = 0 := by
 obtain ⟨j, c1, c2, -⟩ := way_jn h
 obtain ⟨h1, h2, h3⟩ := asked_ok h
 obtain ⟨oa, ob, sa, sb, hk⟩ := chkP_ok h1
 obtain ⟨a1, a2, a3, a4⟩ := chkO_ok oa
 obtain ⟨b1, b2, b3, b4⟩ := chkO_ok ob
 rw [wayL_jnt, show wayP a b p = a.c + 1 + (b.c + 1) - (p.bt - p.bf + 1) by unfold wayP; omega]
 exact jnt_chk j c1 c2 (by simp [revL]; omega) (by omega)
theorem turnL_chk : chk (turnP a b p) (turnL a b p) = 0 := by
 obtain ⟨j, c1, c2⟩ := turn_jn h
 obtain ⟨h1, h2, h3⟩ := asked_ok h
 obtain ⟨oa, ob, sa, sb, hk⟩ := chkP_ok h1
 obtain ⟨a1, a2, a3, a4⟩ := chkO_ok oa
 obtain ⟨b1, b2, b3, b4⟩ := chkO_ok ob
 rw [turnL_jnt, show turnP a b p = a.c + b.c - (p.bt - 1 - p.bf + 1) by unfold turnP; omega]
 exact jnt_chk j c1 c2 (by omega) (by omega)
theorem way_fit {g : Nat → Int} (hg : Sol (wayL a b p) g) : FW a b p g fun q => -g (cor a p q).toNat := by
 obtain ⟨j, c1, c2, c3⟩ := way_jn h
 rw [wayL_jnt] at hg
 obtain ⟨s1, s2⟩ := jnt_parts c2 hg
 refine ⟨s1, sol_rev' s2, fun q h1 h2 => ?_⟩
 obtain ⟨l0, l1, l2, x0, x1⟩ := j
 dsimp only
 rw [Int.toNat_of_nonneg (by omega), Int.toNat_of_nonneg (by omega)]
 have e1 : cor a p p.bt = p.af := by unfold cor ren; rw [if_neg (by omega), if_neg (by omega)]; omega
 have e2 : cor a p q = p.af + p.bt - q := by unfold cor ren; rw [if_neg (by omega), if_neg (by omega)]
 rw [e1, e2]
 omega
theorem fit_way {x y : Nat → Int} (hf : FW a b p x y) : ∃ g, Sol (wayL a b p) g ∧ ∀ v : Nat, (v : Int) ≤ a.c → g v = x v - x p.af.toNat := by
 obtain ⟨j, c1, c2, c3⟩ := way_jn h
 obtain ⟨f1, f2, f3⟩ := hf
 refine ⟨glue (a.c + 1) p.bf p.bt p.af x (fun v => -y v), ?_, fun v hv => ?_⟩
 · rw [wayL_jnt]
   exact jnt_glue j c1 c2 f1 (sol_rev f2) (fun q h1 h2 => by have := f3 q h1 h2; omega)
 · unfold glue
   rw [if_pos (by omega)]
theorem turn_fit {g : Nat → Int} (hg : Sol (turnL a b p) g) : FT a b p g fun q => g (sid a p q).toNat := by
 obtain ⟨j, c1, c2⟩ := turn_jn h
 rw [turnL_jnt] at hg
 obtain ⟨s1, s2⟩ := jnt_parts c2 hg
 refine ⟨s1, s2, fun q h1 h2 => ?_⟩
 obtain ⟨l0, l1, l2, x0, x1⟩ := j
 dsimp only
 rw [Int.toNat_of_nonneg (by omega), Int.toNat_of_nonneg (by omega)]
 have e1 : sid a p (p.bt - 1) = p.af := by unfold sid ren; rw [if_neg (by omega), if_neg (by omega)]; omega
 have e2 : sid a p q = p.af + p.bt - 1 - q := by unfold sid ren; rw [if_neg (by omega), if_neg (by omega)]; omega
 rw [e1, e2]
theorem fit_turn {x y : Nat → Int} (hf : FT a b p x y) : ∃ g, Sol (turnL a b p) g ∧ ∀ v : Nat, (v : Int) < a.c → g v = x v - x p.af.toNat := by
 obtain ⟨j, c1, c2⟩ := turn_jn h
 obtain ⟨f1, f2, f3⟩ := hf
 refine ⟨glue a.c p.bf (p.bt - 1) p.af x y, ?_, fun v hv => ?_⟩
 · rw [turnL_jnt]
   exact jnt_glue j c1 c2 f1 f2 (fun q h1 h2 => by have := f3 q h1 (by omega); rw [show p.af + (p.bt - 1) - q = p.af + p.bt - 1 - q by omega]; exact this)
 · unfold glue
   rw [if_pos hv]
theorem wayS_iff : wayS a b p = true ↔ ∃ x y, FW a b p x y :=
 ⟨fun hs => by obtain ⟨g, hg⟩ := sol_of_settle (wayL_chk h) hs; exact ⟨_, _, way_fit h hg⟩,
  fun ⟨x, y, hf⟩ => by obtain ⟨g, hg, -⟩ := fit_way h hf; exact settle_of_sol (wayL_chk h) hg⟩
theorem turnS_iff : turnS a b p = true ↔ ∃ x y, FT a b p x y :=
 ⟨fun hs => by obtain ⟨g, hg⟩ := sol_of_settle (turnL_chk h) hs; exact ⟨_, _, turn_fit h hg⟩,
  fun ⟨x, y, hf⟩ => by obtain ⟨g, hg, -⟩ := fit_turn h hf; exact settle_of_sol (turnL_chk h) hg⟩
end
def swp (p : Prg) : Prg := ⟨p.bf, p.bt, p.af, p.at2⟩
theorem FW.swap {a b : Otl} {p : Prg} {x y : Nat → Int} (hk : p.at2 - p.af = p.bt - p.bf) (h : FW a b p x y) : FW b a (swp p) y x := by
 obtain ⟨h1, h2, h3⟩ := h
 refine ⟨h2, h1, fun q q0 q1 => ?_⟩
 simp only [swp] at q0 q1 ⊢
 by_cases e : p.bf ≤ p.bt
 · have e1 := h3 (p.af + p.bt - q) (by omega) (by omega)
   have e2 := h3 p.bf (by omega) (by omega)
   rw [show p.af + p.bt - (p.af + p.bt - q) = q by omega] at e1
   rw [show p.af + p.bt - p.bf = p.at2 by omega] at e2
   rw [show p.bf + p.at2 - q = p.af + p.bt - q by omega]
   omega
 · omega
theorem FT.swap {a b : Otl} {p : Prg} {x y : Nat → Int} (hk : p.at2 - p.af = p.bt - p.bf) (h : FT a b p x y) : FT b a (swp p) y x := by
 obtain ⟨h1, h2, h3⟩ := h
 refine ⟨h2, h1, fun q q0 q1 => ?_⟩
 simp only [swp] at q0 q1 ⊢
 by_cases e : p.bf < p.bt
 · have e1 := h3 (p.af + p.bt - 1 - q) (by omega) (by omega)
   have e2 := h3 p.bf (by omega) (by omega)
   rw [show p.af + p.bt - 1 - (p.af + p.bt - 1 - q) = q by omega] at e1
   rw [show p.af + p.bt - 1 - p.bf = p.at2 - 1 by omega] at e2
   rw [show p.bf + p.at2 - 1 - q = p.af + p.bt - 1 - q by omega]
   omega
 · omega
theorem FW.front {a b : Otl} {p : Prg} {x y : Nat → Int} (hk : p.at2 - p.af = p.bt - p.bf) (hl : p.bf < p.bt) (h : FW a b p x y) : FW a b ⟨p.af + 1, p.at2, p.bf, p.bt - 1⟩ x y := by
 obtain ⟨h1, h2, h3⟩ := h
 refine ⟨h1, h2, fun q q0 q1 => ?_⟩
 dsimp only at q0 q1 ⊢
 have e1 := h3 q (by omega) (by omega)
 have e2 := h3 (p.bt - 1) (by omega) (by omega)
 rw [show p.af + p.bt - (p.bt - 1) = p.af + 1 by omega] at e2
 rw [show p.af + 1 + (p.bt - 1) - q = p.af + p.bt - q by omega]
 omega
theorem FW.back {a b : Otl} {p : Prg} {x y : Nat → Int} (h : FW a b p x y) : FW a b ⟨p.af, p.at2 - 1, p.bf + 1, p.bt⟩ x y :=
 ⟨h.1, h.2.1, fun q q0 q1 => h.2.2 q (by dsimp only at q0; omega) q1⟩
theorem FT.front {a b : Otl} {p : Prg} {x y : Nat → Int} (hl : p.bf + 1 < p.bt) (h : FT a b p x y) : FT a b ⟨p.af + 1, p.at2, p.bf, p.bt - 1⟩ x y := by
 obtain ⟨h1, h2, h3⟩ := h
 refine ⟨h1, h2, fun q q0 q1 => ?_⟩
 dsimp only at q0 q1 ⊢
 have e1 := h3 q (by omega) (by omega)
 have e2 := h3 (p.bt - 2) (by omega) (by omega)
 rw [show p.af + p.bt - 1 - (p.bt - 2) = p.af + 1 by omega] at e2
 rw [show p.af + 1 + (p.bt - 1) - 1 - q = p.af + p.bt - 1 - q by omega, show p.bt - 1 - 1 = p.bt - 2 by omega]
 omega
theorem FT.back {a b : Otl} {p : Prg} {x y : Nat → Int} (h : FT a b p x y) : FT a b ⟨p.af, p.at2 - 1, p.bf + 1, p.bt⟩ x y :=
 ⟨h.1, h.2.1, fun q q0 q1 => h.2.2 q (by dsimp only at q0; omega) q1⟩
end Go.Proofs.YtaoanagmgheicaaGreat
