import Derived.Test.YtaoanagmgheicaaGreatQClosed
import Derived.Test.YtaoanagmgheicaaGreatQEIter
import Derived.Test.YtaoanagmgheicaaGreatQEWays
set_option linter.unusedSimpArgs false
set_option linter.unusedVariables false
namespace Go.Proofs.YtaoanagmgheicaaGreat
open Go.RowKit Go.Maps
def encV (p : Prg) : Value := .agg #[.int .i64 p.af, .int .i64 p.at2, .int .i64 p.bf, .int .i64 p.bt]
def WfP (p : Prg) : Prop := Wf p.af ∧ Wf p.at2 ∧ Wf p.bf ∧ Wf p.bt
theorem encV_inj {p q : Prg} (h : encV p = encV q) : p = q := by
 obtain ⟨a, b, c, d⟩ := p
 obtain ⟨a', b', c', d'⟩ := q
 simp [encV] at h
 simp [h]
theorem TryzlaidOut : laidOutB Tryz.prog = true := by kernel_rfl
theorem TryzrowPR : (28 : TypeId) < Tryz.prog.types.size := of_decide_eq_true (by kernel_rfl)
theorem TryzwidePR : (match Tryz.prog.underlying 28 with | some (.array _ _) | some (.struct _) => true | _ => false) = true := by kernel_rfl
set_option maxRecDepth 100000 in
theorem lawPR : Maps.Keyed Tryz.prog 28 := Maps.Keyed.of_law (deep_law_laid TryzlaidOut (m := 4) (by omega) TryzrowPR (by kernel_rfl) TryzwidePR)
theorem keyTypePR : Tryz.prog.keyType 28 = true := by kernel_rfl
theorem cellsPR : Tryz.prog.cellsOf 28 = 4 := by kernel_rfl
theorem cellsST : Tryz.prog.cellsOf 26 = 2 := by kernel_rfl
theorem cellsIT : Tryz.prog.cellsOf 3 = 1 := by kernel_rfl
section
variable {P : Program}
theorem kl_int {t : TypeId} (hu : P.underlying t = some (.int .i64)) (d : Nat) {x : Int} (h : Wf x) : P.keyLits (d + 1) t [.int .i64 x] = some [.int .i64 x] := by
 unfold Program.keyLits
 rw [hu]
 unfold Wf at h
 simp [h]
theorem kl_int_inv {t : TypeId} (hu : P.underlying t = some (.int .i64)) (d : Nat) {l : List Value} {ls : List Lit} (h : P.keyLits (d + 1) t l = some ls) : ∃ x, l = [.int .i64 x] ∧ Wf x := by
 unfold Program.keyLits at h
 rw [hu] at h
 rcases l with _ | ⟨v, _ | ⟨v2, l⟩⟩
 · simp at h
 · cases v <;> simp at h
   obtain ⟨⟨rfl, hw⟩, _⟩ := h
   exact ⟨_, rfl, hw⟩
 · simp at h
theorem kl_two {t : TypeId} {f1 f2 : Field} (hu : P.underlying t = some (.struct #[f1, f2])) {c1 : Nat} (ho1 : f1.offset = 0) (ho2 : f2.offset = c1) (n1 : (f1.name != "_") = true) (n2 : (f2.name != "_") = true) (k1 : P.cellsOf f1.type = c1) (k2 : P.cellsOf f2.type = c1) (hc : P.cellsOf t = c1 + c1) (d : Nat) {l : List Value} :
 P.keyLits (d + 1) t l = if l.length = c1 + c1 then (P.keyLits d f1.type (l.take c1)).bind (fun a => (P.keyLits d f2.type ((l.drop c1).take c1)).bind fun b => some (a ++ b)) else none := by
 conv => lhs; unfold Program.keyLits
 rw [hu]
 simp only [hc]
 have hall : (#[f1, f2].all fun x => x.name != "_") = true := by simp [n1, n2]
 by_cases hl : l.length = c1 + c1
 · rw [if_pos ⟨hl, hall⟩, if_pos hl]
   simp only [List.mapM_cons, List.mapM_nil, ho1, ho2, k1, k2, List.drop_zero]
   cases P.keyLits d f1.type (l.take c1) with
   | none => rfl
   | some a =>
    cases hb : P.keyLits d f2.type ((l.drop c1).take c1) with
    | none => simp [hb]
    | some b => simp [hb]
 · rw [if_neg (fun h => hl h.1), if_neg hl]
end
theorem kl_st (d : Nat) {l : List Value} : Tryz.prog.keyLits (d + 1) 26 l = if l.length = 1 + 1 then (Tryz.prog.keyLits d 3 (l.take 1)).bind (fun a => (Tryz.prog.keyLits d 3 ((l.drop 1).take 1)).bind fun b => some (a ++ b)) else none :=
 kl_two Tryz.underlying26 rfl rfl (by decide) (by decide) cellsIT cellsIT cellsST d
theorem kl_pr (d : Nat) {l : List Value} : Tryz.prog.keyLits (d + 1) 28 l = if l.length = 2 + 2 then (Tryz.prog.keyLits d 26 (l.take 2)).bind (fun a => (Tryz.prog.keyLits d 26 ((l.drop 2).take 2)).bind fun b => some (a ++ b)) else none :=
 kl_two Tryz.underlying28 rfl rfl (by decide) (by decide) cellsST cellsST cellsPR d
theorem typesDeep : ∃ m, Tryz.prog.types.size + 1 = m + 3 := by
 have h : Tryz.prog.types.size = Tryz.prog.types.size := rfl
 obtain ⟨k, hk⟩ : ∃ k, Tryz.prog.types.size = k + 2 := ⟨Tryz.prog.types.size - 2, by have h : 2 ≤ Tryz.prog.types.size := of_decide_eq_true (by kernel_rfl); omega⟩
 exact ⟨k, by rw [hk]⟩
theorem keyOf_eq (v : Value) : keyOf Tryz.prog 28 v = if v.formed Tryz.prog 28 then (Tryz.prog.keyLits (Tryz.prog.types.size + 1) 28 v.cells.toList).map (fun ls => .string (keyBytes ls)) else none := by
 unfold keyOf
 rw [Tryz.underlying28]
 dsimp only
 rw [keyTypePR, Bool.true_and]
theorem keyOf_mk {p : Prg} (h : WfP p) : ∃ kl, keyOf Tryz.prog 28 (encV p) = some kl := by
 obtain ⟨h1, h2, h3, h4⟩ := h
 obtain ⟨m, hm⟩ := typesDeep
 have hf : (encV p).formed Tryz.prog 28 = true := by
  unfold Value.formed encV
  rw [Tryz.underlying28]
  dsimp only
  rw [cellsPR]
  rfl
 rw [keyOf_eq, if_pos hf, hm]
 have e : (encV p).cells.toList = [.int .i64 p.af, .int .i64 p.at2, .int .i64 p.bf, .int .i64 p.bt] := by simp [encV, Value.cells]
 rw [e, kl_pr]
 simp only [List.length_cons, List.length_nil, Nat.reduceAdd, if_true, List.take_succ_cons, List.take_zero, List.drop_succ_cons, List.drop_zero]
 rw [kl_st, kl_st]
 simp only [List.length_cons, List.length_nil, Nat.reduceAdd, if_true, List.take_succ_cons, List.take_zero, List.drop_succ_cons, List.drop_zero]
 rw [kl_int Tryz.underlying3 m h1, kl_int Tryz.underlying3 m h2, kl_int Tryz.underlying3 m h3, kl_int Tryz.underlying3 m h4]
 exact ⟨_, rfl⟩
theorem bind_some_inv {α β : Type} {x : Option α} {f : α → Option β} {b : β} (h : x.bind f = some b) : ∃ a, x = some a ∧ f a = some b := by
 cases x with
 | none => cases h
 | some a => exact ⟨a, rfl, h⟩
theorem st_inv {d : Nat} {l : List Value} {ls : List Lit} (h : Tryz.prog.keyLits (d + 1 + 1) 26 l = some ls) : ∃ x y, l = [.int .i64 x, .int .i64 y] ∧ Wf x ∧ Wf y := by
 rw [kl_st] at h
 split at h
 · rename_i hl
   obtain ⟨a, ha, h⟩ := bind_some_inv h
   obtain ⟨b, hb, -⟩ := bind_some_inv h
   obtain ⟨x, hx, wx⟩ := kl_int_inv Tryz.underlying3 d ha
   obtain ⟨y, hy, wy⟩ := kl_int_inv Tryz.underlying3 d hb
   rcases l with _ | ⟨v1, _ | ⟨v2, _ | ⟨v3, l⟩⟩⟩ <;> simp at hl hx hy
   subst hx hy
   exact ⟨x, y, rfl, wx, wy⟩
 · cases h
set_option maxRecDepth 100000 in
theorem keyOf_inv {v : Value} {kl : Lit} (h : keyOf Tryz.prog 28 v = some kl) : ∃ p, v = encV p ∧ WfP p := by
 obtain ⟨m, hm⟩ := typesDeep
 rw [keyOf_eq] at h
 split at h
 · rename_i hf
   rw [hm, kl_pr] at h
   obtain ⟨ls, hls, -⟩ := Option.map_eq_some_iff.1 h
   split at hls
   · rename_i hl
     obtain ⟨a, ha, hls⟩ := bind_some_inv hls
     obtain ⟨b, hb, -⟩ := bind_some_inv hls
     obtain ⟨x, y, h1, w1, w2⟩ := st_inv ha
     obtain ⟨z, t, h2, w3, w4⟩ := st_inv hb
     clear ha hb hls h
     unfold Value.formed at hf
     rw [Tryz.underlying28] at hf
     generalize hvc : v.cells.toList = vc at h1 h2 hl
     cases v <;> simp at hf
     rename_i cs
     obtain ⟨l⟩ := cs
     simp only [Value.cells] at hvc
     subst hvc
     rcases l with _ | ⟨v1, _ | ⟨v2, _ | ⟨v3, _ | ⟨v4, _ | ⟨v5, l⟩⟩⟩⟩⟩ <;> simp at hl h1 h2
     obtain ⟨rfl, rfl⟩ := h1
     obtain ⟨rfl, rfl⟩ := h2
     exact ⟨⟨x, y, z, t⟩, rfl, w1, w2, w3, w4⟩
   · cases hls
 · cases h
noncomputable def keyP (p : Prg) : Lit := (keyOf Tryz.prog 28 (encV p)).getD (.bool false)
theorem keyP_of {p : Prg} (h : WfP p) : keyOf Tryz.prog 28 (encV p) = some (keyP p) := by
 obtain ⟨kl, hk⟩ := keyOf_mk h
 unfold keyP
 rw [hk]
 rfl
theorem keyP_inj {p q : Prg} (hp : WfP p) (hq : WfP q) (h : keyP p = keyP q) : p = q := by
 have h1 := keyP_of hp
 rw [h] at h1
 exact encV_inj (lawPR.inj h1 (keyP_of hq))
theorem keyP_ne {p q : Prg} (hp : WfP p) (hq : WfP q) (h : p ≠ q) : keyP p ≠ keyP q := fun e => h (keyP_inj hp hq e)
set_option maxRecDepth 100000 in
theorem keyP_key {p : Prg} (hp : WfP p) : WideAt.IsKeyLit (keyP p) := Maps.Keyed.key lawPR (keyP_of hp)
def SetP (D : DataW Unit) (S : List Prg) : Prop := IsMap D ∧ (∀ p, WfP p → has D (keyP p) = decide (p ∈ S)) ∧ ∀ p, WfP p → D.atKey (keyP p) (.lit (.bool false)) = .lit (.bool (decide (p ∈ S)))
theorem setP_nil : SetP (.map []) [] := ⟨isMap_empty, fun x _ => rfl, fun x _ => rfl⟩
set_option maxRecDepth 100000 in
theorem SetP.put {D : DataW Unit} {S : List Prg} (h : SetP D S) {x : Prg} (hx : WfP x) : SetP (D.put (keyP x) (.lit (.bool true))) (S ++ [x]) := by
 obtain ⟨h1, h2, h3⟩ := h
 refine ⟨h1.put _ _, fun y hy => ?_, fun y hy => ?_⟩
 · by_cases e : y = x
   · subst e; rw [has_put_same h1 (keyP_key hy)]; simp
   · rw [has_put_other (keyP_ne hy hx e), h2 y hy]; simp [e]
 · by_cases e : y = x
   · subst e; rw [atKey_put_same h1 (keyP_key hy)]; simp
   · rw [atKey_put_other (keyP_ne hy hx e), h3 y hy]; simp [e]
abbrev OMap (w : World) (b n : Nat) (D : DataW Unit) : Prop := w.ownsMap Tryz.prog 28 (plainElem (H := Unit) Tryz.prog 4) b n D
def OwnP (w : World) (b : Nat) (S : List Prg) : Prop := ∃ n D, OMap w b n D ∧ n ≤ S.length ∧ SetP D S ∧ ∀ p ∈ S, WfP p
theorem OwnP.lt {w : World} {b : Nat} {S : List Prg} (h : OwnP w b S) : b < w.heap.size := by obtain ⟨_, _, h, _⟩ := h; exact h.lt
theorem OwnP.keep_ {w w' : World} {b : Nat} {S : List Prg} (h : OwnP w b S) (hb : w'.heap[b]? = w.heap[b]?) : OwnP w' b S := by
 obtain ⟨n, D, ⟨es, clock, hh, F, hs, hD⟩, h2⟩ := h
 exact ⟨n, D, ⟨es, clock, hb.trans hh, F, hs, hD⟩, h2⟩
theorem OwnP.keep {w w' : World} {b : Nat} {S : List Prg} (h : OwnP w b S) (hb : Below w.heap.size w w') : OwnP w' b S := h.keep_ (hb.block b h.lt)
theorem OwnP.alloc {w : World} {b : Nat} {S : List Prg} (h : OwnP w b S) (o : Obj) : OwnP (w.alloc o) b S := h.keep_ (Below.heap_alloc w o b h.lt)
theorem OwnP.drew {w : World} {b : Nat} {S : List Prg} (h : OwnP w b S) : OwnP w.drew b S := h.keep_ rfl
theorem OwnP.far {w : World} {b : Nat} {S : List Prg} (h : OwnP w b S) {a : Addr} (ha : b ≠ a.block) (v : Value) : OwnP (w.setCell a v) b S := h.keep_ (Below.heap_setCell w a v b ha)
theorem OwnP.look {w : World} {b : Nat} {S : List Prg} (h : OwnP w b S) {p : Prg} (hp : WfP p) : (Instr.lookup 129 (.map (some b)) (encV p) false).run Tryz.prog w = .ok (.bool (decide (p ∈ S))) w := by
 obtain ⟨n, D, hown, _, ⟨_, _, h3⟩, _⟩ := h
 obtain ⟨v, ps, hrun, hv⟩ := hown.lookup lawPR Tryz.underlying129 (z := .bool false) (by kernel_rfl) (zd := .lit (.bool false)) (zp := []) (plainElem_bool Tryz.underlying4 false) (keyP_of hp)
 rw [h3 p hp] at hv
 rw [plain_bool_inv Tryz.underlying4 hv] at hrun
 exact hrun
theorem wpList_lookup_P (w : World) {ops : Array Oper} {rest : List Oper} {o : Oper} {a : Act} {Q : Exit → Act → World → Prop} (hg : o.guard = none) (m x : Operand) (hop : o.op = Op.lookup 129 m x false)
 (b : Nat) (S : List Prg) (hm : a.eval m = .map (some b)) (hown : OwnP w b S) (p : Prg) (hx : a.eval x = encV p) (hp : WfP p) (q : Bool) (hq : decide (p ∈ S) = q)
 (hK : wpList Tryz.prog ops Q rest (a.put o.dst (.bool q)) w) : wpList Tryz.prog ops Q (o :: rest) a w := by
 refine wpList_plain hg fun K' hK' => ?_
 have hrun := hown.look hp
 rw [hq] at hrun
 unfold Oper.wp
 simp [execOp, hop, hm, hx, hrun, Result.andThen]
 exact hK' _ _ hK
theorem wf_small2 {x : Int} (h1 : -1000000000000 ≤ x) (h2 : x ≤ 1000000000000) : Wf x := by
 have e1 : IntKind.i64.min = -9223372036854775808 := by decide
 have e2 : IntKind.i64.max = 9223372036854775807 := by decide
 unfold Wf
 simp [Lit.wf, e1, e2]
 omega
end Go.Proofs.YtaoanagmgheicaaGreat
set_option linter.unusedSimpArgs false
set_option linter.unusedVariables false
namespace Go.Proofs.YtaoanagmgheicaaGreat
open Go.RowKit Go.Maps
def grownV (S : List Prg) (p : Prg) : Prg := if befP p ∈ S then befP p else if behP p ∈ S then behP p else p
set_option maxRecDepth 100000 in
set_option maxHeartbeats 4000000 in
theorem grown_any (p1 p2 p3 p4 : Int) (hp : (0 ≤ p1 ∧ p1 ≤ 16) ∧ (0 ≤ p2 ∧ p2 ≤ 16) ∧ (0 ≤ p3 ∧ p3 ≤ 16) ∧ (0 ≤ p4 ∧ p4 ≤ 16)) (b : Nat) (S : List Prg) (w : World) (hown : OwnP w b S) :
 Calls Tryz.prog 101 #[.agg #[.int .i64 p1, .int .i64 p2, .int .i64 p3, .int .i64 p4], .map (some b)] w fun e w' => e = .returned (encV (grownV S ⟨p1, p2, p3, p4⟩)) ∧ Below w.heap.size w w' := by
 have hbl := hown.lt
 obtain ⟨⟨l1, u1⟩, ⟨l2, u2⟩, ⟨l3, u3⟩, ⟨l4, u4⟩⟩ := hp
 have HW1 := Lib.hid (show WfP (befP ⟨p1, p2, p3, p4⟩) from ⟨wf_small2 (by simp only [befP]; omega) (by simp only [befP]; omega), wf_small2 (by simp only [befP]; omega) (by simp only [befP]; omega), wf_small2 (by simp only [befP]; omega) (by simp only [befP]; omega), wf_small2 (by simp only [befP]; omega) (by simp only [befP]; omega)⟩)
 have HW2 := Lib.hid (show WfP (behP ⟨p1, p2, p3, p4⟩) from ⟨wf_small2 (by simp only [behP]; omega) (by simp only [behP]; omega), wf_small2 (by simp only [behP]; omega) (by simp only [behP]; omega), wf_small2 (by simp only [behP]; omega) (by simp only [behP]; omega), wf_small2 (by simp only [behP]; omega) (by simp only [behP]; omega)⟩)
 obtain ⟨q1, hq1⟩ : ∃ q, decide (befP ⟨p1, p2, p3, p4⟩ ∈ S) = q := ⟨_, rfl⟩
 obtain ⟨q2, hq2⟩ : ∃ q, decide (behP ⟨p1, p2, p3, p4⟩ ∈ S) = q := ⟨_, rfl⟩
 have HA := Lib.hid (fun (h : q1 = true) => show grownV S ⟨p1, p2, p3, p4⟩ = befP ⟨p1, p2, p3, p4⟩ from if_pos (by rw [h] at hq1; simpa using hq1))
 have HBB := Lib.hid (fun (h : q1 = false) (h' : q2 = true) => show grownV S ⟨p1, p2, p3, p4⟩ = behP ⟨p1, p2, p3, p4⟩ by unfold grownV; rw [if_neg (by rw [h] at hq1; simpa using hq1), if_pos (by rw [h'] at hq2; simpa using hq2)])
 have HC := Lib.hid (fun (h : q1 = false) (h' : q2 = false) => show grownV S ⟨p1, p2, p3, p4⟩ = ⟨p1, p2, p3, p4⟩ by unfold grownV; rw [if_neg (by rw [h] at hq1; simpa using hq1), if_neg (by rw [h'] at hq2; simpa using hq2)])
 have HQ1 := Lib.hid hq1; have HQ2 := Lib.hid hq2; clear hq1 hq2
 generalize grownV S ⟨p1, p2, p3, p4⟩ = G at *
 have wr1 : IntKind.i64.wrap (p1 - 1) = p1 - 1 := IntWalk.i64_in _ (by omega)
 have wr2 : IntKind.i64.wrap (p2 + 1) = p2 + 1 := IntWalk.i64_in _ (by omega)
 have wr3 : IntKind.i64.wrap (p3 - 1) = p3 - 1 := IntWalk.i64_in _ (by omega)
 have wr4 : IntKind.i64.wrap (p4 + 1) = p4 + 1 := IntWalk.i64_in _ (by omega)
 go_enter Tryz.func101, Tryz.ntmps101
 obtain ⟨bp_1, bz_2, bel_3⟩ := ent2 w #[.int .i64 p1, .int .i64 p2, .int .i64 p3, .int .i64 p4] 28 #[.int .i64 0, .int .i64 0, .int .i64 0, .int .i64 0] 28
 have om_4 := Lib.hid (OwnP.keep (hown) bel_3.out)
 clear hown
 obtain ⟨z_5, z_6, z_7, z_8⟩ := at4 bp_1
 obtain ⟨z_9, z_10, z_11, z_12⟩ := at4 bz_2
 go_wp2_with fail
 clear z_5 z_6 z_7 z_8 z_9 z_10 z_11 z_12
 replace bel_3 := bD bel_3
 replace om_4 := Lib.hid (OwnP.drew (om_4.out))
 replace bp_1 := kD bp_1
 replace bz_2 := kD bz_2
 refine wp_region_held_drew (S := (fun W' => Blk W' (w.heap.size) 28 #[.int .i64 p1, .int .i64 p2, .int .i64 p3, .int .i64 p4])) (by kernel_rfl) bp_1.out (fun _ => ?_)
 obtain ⟨w737, hw738⟩ : ∃ w', w' = (((w.alloc (.cells #[.int .i64 p1, .int .i64 p2, .int .i64 p3, .int .i64 p4] 28)).alloc (.cells #[.int .i64 0, .int .i64 0, .int .i64 0, .int .i64 0] 28)).drew) := ⟨_, rfl⟩
 rw [← hw738] at bel_3 om_4 bp_1 bz_2
 rw [← hw738]
 clear hw738
 refine' tkH 0 bp_1.out ?hyR739 ?_
 case hyR739 => (rintro W' hS0; have hc0 := Blk.nth hS0 0; have hc1 := Blk.nth hS0 1; have hc2 := Blk.nth hS0 2; have hc3 := Blk.nth hS0 3; clear hS0; go_simp; try with_reducible rfl)
 refine' tkH 1 bp_1.out ?hyR740 ?_
 case hyR740 => (rintro W' hS0; have hc0 := Blk.nth hS0 0; have hc1 := Blk.nth hS0 1; have hc2 := Blk.nth hS0 2; have hc3 := Blk.nth hS0 3; clear hS0; go_simp; try with_reducible rfl)
 try simp only [Act.put, qsA, qsZ, qsS]
 refine wpAnyH_ready (rs := [2, 3]) (by kernel_rfl) (by simp) ?_
 refine rdH rfl (fun K hK => ?_) ?_
 · -- 2: alloc
  go_simp
  have lb745 := Lib.hid (bel_3.out.size)
  have ne746 := Lib.hid (Nat.ne_of_lt (OwnP.lt om_4.out))
  have ne747 := Lib.hid (Nat.ne_of_lt (Blk.lt bp_1.out))
  have ne748 := Lib.hid (Nat.ne_of_lt (Blk.lt bz_2.out))
  obtain ⟨o_, ho_⟩ : ∃ o, o = (.cells #[.int .i64 0, .int .i64 0, .int .i64 0, .int .i64 0] 28 : Obj) := ⟨_, rfl⟩
  replace bel_3 := bA bel_3 o_
  replace om_4 := Lib.hid (OwnP.alloc (om_4.out) (o_))
  replace bp_1 := kA bp_1 o_
  replace bz_2 := kA bz_2 o_
  subst ho_
  have n5_749 := Lib.hid (Blk.new (w737) 28 #[.int .i64 0, .int .i64 0, .int .i64 0, .int .i64 0])
  obtain ⟨g741, hg742⟩ : ∃ g, g = (w737).heap.size := ⟨_, rfl⟩
  obtain ⟨w743, hw744⟩ : ∃ w', w' = (w737).alloc (.cells #[.int .i64 0, .int .i64 0, .int .i64 0, .int .i64 0] 28) := ⟨_, rfl⟩
  rw [← hw744] at bel_3 om_4 bp_1 bz_2 n5_749
  rw [← hg742] at lb745 ne746 ne747 ne748 n5_749
  rw [← hg742, ← hw744]
  clear hg742 hw744
  refine hK.out _ _ bp_1.out (fun _ => ?_); clear hK K
  try simp only [Act.put, qsA, qsZ, qsS]
  refine oneH 3 rfl fun K hK => ?_
  go_simp
  have lb754 := Lib.hid (bel_3.out.size)
  have ne755 := Lib.hid (Nat.ne_of_lt (OwnP.lt om_4.out))
  have ne756 := Lib.hid (Nat.ne_of_lt (Blk.lt bp_1.out))
  have ne757 := Lib.hid (Nat.ne_of_lt (Blk.lt bz_2.out))
  have ne758 := Lib.hid (Nat.ne_of_lt (Blk.lt n5_749.out))
  obtain ⟨o_, ho_⟩ : ∃ o, o = (.cells #[.int .i64 0, .int .i64 0, .int .i64 0, .int .i64 0] 28 : Obj) := ⟨_, rfl⟩
  replace bel_3 := bA bel_3 o_
  replace om_4 := Lib.hid (OwnP.alloc (om_4.out) (o_))
  replace bp_1 := kA bp_1 o_
  replace bz_2 := kA bz_2 o_
  replace n5_749 := kA n5_749 o_
  subst ho_
  have n6_759 := Lib.hid (Blk.new (w743) 28 #[.int .i64 0, .int .i64 0, .int .i64 0, .int .i64 0])
  obtain ⟨g750, hg751⟩ : ∃ g, g = (w743).heap.size := ⟨_, rfl⟩
  obtain ⟨w752, hw753⟩ : ∃ w', w' = (w743).alloc (.cells #[.int .i64 0, .int .i64 0, .int .i64 0, .int .i64 0] 28) := ⟨_, rfl⟩
  rw [← hw753] at bel_3 om_4 bp_1 bz_2 n5_749 n6_759
  rw [← hg751] at lb754 ne755 ne756 ne757 ne758 n6_759
  rw [← hg751, ← hw753]
  clear hg751 hw753
  refine hK.out _ _ bp_1.out (fun _ => ?_); clear hK K
  try simp only [Act.put, qsA, qsZ, qsS]
  refine oneH 4 rfl fun K hK => ?_
  have v760 : (w752).cell? ⟨g741, 0, none⟩ = some (.int .i64 0) := Blk.cell (n5_749.out) 0
  have f761 : (w752).frozen? ⟨g741, 0, none⟩ = false := Blk.frozen (n5_749.out) 0
  have v762 : (w752).cell? ⟨g741, 1, none⟩ = some (.int .i64 0) := Blk.cell (n5_749.out) 1
  have f763 : (w752).frozen? ⟨g741, 1, none⟩ = false := Blk.frozen (n5_749.out) 1
  have v764 : (w752).cell? ⟨g741, 2, none⟩ = some (.int .i64 0) := Blk.cell (n5_749.out) 2
  have f765 : (w752).frozen? ⟨g741, 2, none⟩ = false := Blk.frozen (n5_749.out) 2
  have v766 : (w752).cell? ⟨g741, 3, none⟩ = some (.int .i64 0) := Blk.cell (n5_749.out) 3
  have f767 : (w752).frozen? ⟨g741, 3, none⟩ = false := Blk.frozen (n5_749.out) 3
  have hlt_ := Blk.lt (n5_749.out)
  go_simp
  have k768 := Lib.hid (Below.setCell (Below.setCell (Below.setCell (Below.setCell (bel_3.out) (p := ⟨g741, 0, none⟩) (lb745.out) (.int .i64 p1)) (p := ⟨g741, 1, none⟩) (lb745.out) (.int .i64 p2)) (p := ⟨g741, 2, none⟩) (lb745.out) (.int .i64 p3)) (p := ⟨g741, 3, none⟩) (lb745.out) (.int .i64 p4))
  have k769 := Lib.hid (OwnP.far (OwnP.far (OwnP.far (OwnP.far (om_4.out) (a := ⟨g741, 0, none⟩) (ne746.out) (.int .i64 p1)) (a := ⟨g741, 1, none⟩) (ne746.out) (.int .i64 p2)) (a := ⟨g741, 2, none⟩) (ne746.out) (.int .i64 p3)) (a := ⟨g741, 3, none⟩) (ne746.out) (.int .i64 p4))
  have k770 := Lib.hid (Blk.far (Blk.far (Blk.far (Blk.far (bp_1.out) (p := ⟨g741, 0, none⟩) (ne747.out) (.int .i64 p1)) (p := ⟨g741, 1, none⟩) (ne747.out) (.int .i64 p2)) (p := ⟨g741, 2, none⟩) (ne747.out) (.int .i64 p3)) (p := ⟨g741, 3, none⟩) (ne747.out) (.int .i64 p4))
  have k771 := Lib.hid (Blk.far (Blk.far (Blk.far (Blk.far (bz_2.out) (p := ⟨g741, 0, none⟩) (ne748.out) (.int .i64 p1)) (p := ⟨g741, 1, none⟩) (ne748.out) (.int .i64 p2)) (p := ⟨g741, 2, none⟩) (ne748.out) (.int .i64 p3)) (p := ⟨g741, 3, none⟩) (ne748.out) (.int .i64 p4))
  have k772 := Lib.hid (Blk.set_ (Blk.set_ (Blk.set_ (Blk.set_ (n5_749.out) 0 (.int .i64 p1)) 1 (.int .i64 p2)) 2 (.int .i64 p3)) 3 (.int .i64 p4))
  have k773 := Lib.hid (Blk.far (Blk.far (Blk.far (Blk.far (n6_759.out) (p := ⟨g741, 0, none⟩) ((Ne.symm ne758.out)) (.int .i64 p1)) (p := ⟨g741, 1, none⟩) ((Ne.symm ne758.out)) (.int .i64 p2)) (p := ⟨g741, 2, none⟩) ((Ne.symm ne758.out)) (.int .i64 p3)) (p := ⟨g741, 3, none⟩) ((Ne.symm ne758.out)) (.int .i64 p4))
  obtain ⟨w774, hw775⟩ : ∃ w', w' = (((((w752).setCell ⟨g741, 0, none⟩ (.int .i64 p1)).setCell ⟨g741, 1, none⟩ (.int .i64 p2)).setCell ⟨g741, 2, none⟩ (.int .i64 p3)).setCell ⟨g741, 3, none⟩ (.int .i64 p4)) := ⟨_, rfl⟩
  rw [← hw775] at k768 k769 k770 k771 k772 k773
  rw [← hw775]
  clear hw775 v760 f761 v762 f763 v764 f765 v766 f767 hlt_
  refine hK.out _ _ k770.out (fun _ => ?_); clear hK K
  try simp only [Act.put, qsA, qsZ, qsS]
  refine oneH 5 rfl fun K hK => ?_
  have v776 : (w774).cell? ⟨g750, 0, none⟩ = some (.int .i64 0) := Blk.cell (k773.out) 0
  have f777 : (w774).frozen? ⟨g750, 0, none⟩ = false := Blk.frozen (k773.out) 0
  have v778 : (w774).cell? ⟨g750, 1, none⟩ = some (.int .i64 0) := Blk.cell (k773.out) 1
  have f779 : (w774).frozen? ⟨g750, 1, none⟩ = false := Blk.frozen (k773.out) 1
  have v780 : (w774).cell? ⟨g750, 2, none⟩ = some (.int .i64 0) := Blk.cell (k773.out) 2
  have f781 : (w774).frozen? ⟨g750, 2, none⟩ = false := Blk.frozen (k773.out) 2
  have v782 : (w774).cell? ⟨g750, 3, none⟩ = some (.int .i64 0) := Blk.cell (k773.out) 3
  have f783 : (w774).frozen? ⟨g750, 3, none⟩ = false := Blk.frozen (k773.out) 3
  have hlt_ := Blk.lt (k773.out)
  go_simp
  have k784 := Lib.hid (Below.setCell (Below.setCell (Below.setCell (Below.setCell (k768.out) (p := ⟨g750, 0, none⟩) (lb754.out) (.int .i64 p1)) (p := ⟨g750, 1, none⟩) (lb754.out) (.int .i64 p2)) (p := ⟨g750, 2, none⟩) (lb754.out) (.int .i64 p3)) (p := ⟨g750, 3, none⟩) (lb754.out) (.int .i64 p4))
  have k785 := Lib.hid (OwnP.far (OwnP.far (OwnP.far (OwnP.far (k769.out) (a := ⟨g750, 0, none⟩) (ne755.out) (.int .i64 p1)) (a := ⟨g750, 1, none⟩) (ne755.out) (.int .i64 p2)) (a := ⟨g750, 2, none⟩) (ne755.out) (.int .i64 p3)) (a := ⟨g750, 3, none⟩) (ne755.out) (.int .i64 p4))
  have k786 := Lib.hid (Blk.far (Blk.far (Blk.far (Blk.far (k770.out) (p := ⟨g750, 0, none⟩) (ne756.out) (.int .i64 p1)) (p := ⟨g750, 1, none⟩) (ne756.out) (.int .i64 p2)) (p := ⟨g750, 2, none⟩) (ne756.out) (.int .i64 p3)) (p := ⟨g750, 3, none⟩) (ne756.out) (.int .i64 p4))
  have k787 := Lib.hid (Blk.far (Blk.far (Blk.far (Blk.far (k771.out) (p := ⟨g750, 0, none⟩) (ne757.out) (.int .i64 p1)) (p := ⟨g750, 1, none⟩) (ne757.out) (.int .i64 p2)) (p := ⟨g750, 2, none⟩) (ne757.out) (.int .i64 p3)) (p := ⟨g750, 3, none⟩) (ne757.out) (.int .i64 p4))
  have k788 := Lib.hid (Blk.far (Blk.far (Blk.far (Blk.far (k772.out) (p := ⟨g750, 0, none⟩) (ne758.out) (.int .i64 p1)) (p := ⟨g750, 1, none⟩) (ne758.out) (.int .i64 p2)) (p := ⟨g750, 2, none⟩) (ne758.out) (.int .i64 p3)) (p := ⟨g750, 3, none⟩) (ne758.out) (.int .i64 p4))
  have k789 := Lib.hid (Blk.set_ (Blk.set_ (Blk.set_ (Blk.set_ (k773.out) 0 (.int .i64 p1)) 1 (.int .i64 p2)) 2 (.int .i64 p3)) 3 (.int .i64 p4))
  obtain ⟨w790, hw791⟩ : ∃ w', w' = (((((w774).setCell ⟨g750, 0, none⟩ (.int .i64 p1)).setCell ⟨g750, 1, none⟩ (.int .i64 p2)).setCell ⟨g750, 2, none⟩ (.int .i64 p3)).setCell ⟨g750, 3, none⟩ (.int .i64 p4)) := ⟨_, rfl⟩
  rw [← hw791] at k784 k785 k786 k787 k788 k789
  rw [← hw791]
  clear hw791 v776 f777 v778 f779 v780 f781 v782 f783 hlt_
  refine hK.out _ _ k786.out (fun _ => ?_); clear hK K
  try simp only [Act.put, qsA, qsZ, qsS]
  refine wpAnyH_done (by kernel_rfl) ?_ _
  have lt5 := Blk.lt k788.out; have lt6 := Blk.lt k789.out; have ltz := Blk.lt k787.out; have ltp := Blk.lt k786.out
  have hne1 := ne758.out; have hne2 := Ne.symm ne758.out
  have hl5 : w.heap.size ≤ g741 := lb745.out; have hl6 : w.heap.size ≤ g750 := lb754.out
  have hnp5 : w.heap.size ≠ g741 := ne747.out; have hnp6 : w.heap.size ≠ g750 := ne756.out
  have hnz5 : w.heap.size + 1 ≠ g741 := ne748.out; have hnz6 : w.heap.size + 1 ≠ g750 := ne757.out
  have OW := Lib.hid (OwnP.far (OwnP.far (OwnP.far (OwnP.far (k785.out) (a := ⟨g741, 0, none⟩) ne746.out (.int .i64 (p1 - 1))) (a := ⟨g741, 3, none⟩) ne746.out (.int .i64 (p4 + 1))) (a := ⟨g750, 1, none⟩) ne755.out (.int .i64 (p2 + 1))) (a := ⟨g750, 2, none⟩) ne755.out (.int .i64 (p3 - 1)))
  have HBL := Lib.hid (k784.out)
  obtain ⟨z_1013, z_1014, z_1015, z_1016⟩ := at4 k786
  obtain ⟨z_1017, z_1018, z_1019, z_1020⟩ := at4 k787
  obtain ⟨z_1021, z_1022, z_1023, z_1024⟩ := at4 k788
  obtain ⟨z_1025, z_1026, z_1027, z_1028⟩ := at4 k789
  have fz_1029 : (w790).frozen? ⟨g741, 0, none⟩ = false := Blk.frozen k788.out 0
  have fz_1030 : (w790).frozen? ⟨g741, 1, none⟩ = false := Blk.frozen k788.out 1
  have fz_1031 : (w790).frozen? ⟨g741, 2, none⟩ = false := Blk.frozen k788.out 2
  have fz_1032 : (w790).frozen? ⟨g741, 3, none⟩ = false := Blk.frozen k788.out 3
  have fz_1033 : (w790).frozen? ⟨g750, 0, none⟩ = false := Blk.frozen k789.out 0
  have fz_1034 : (w790).frozen? ⟨g750, 1, none⟩ = false := Blk.frozen k789.out 1
  have fz_1035 : (w790).frozen? ⟨g750, 2, none⟩ = false := Blk.frozen k789.out 2
  have fz_1036 : (w790).frozen? ⟨g750, 3, none⟩ = false := Blk.frozen k789.out 3
  have fz_1037 : (w790).frozen? ⟨w.heap.size + 1, 0, none⟩ = false := Blk.frozen k787.out 0
  have fz_1038 : (w790).frozen? ⟨w.heap.size + 1, 1, none⟩ = false := Blk.frozen k787.out 1
  have fz_1039 : (w790).frozen? ⟨w.heap.size + 1, 2, none⟩ = false := Blk.frozen k787.out 2
  have fz_1040 : (w790).frozen? ⟨w.heap.size + 1, 3, none⟩ = false := Blk.frozen k787.out 3
  go_wp2_with (at_lookup; first | refine wpList_lookup_P _ rfl _ _ rfl b S rfl OW.out (befP ⟨p1, p2, p3, p4⟩) rfl HW1.out q1 HQ1.out ?_ | refine wpList_lookup_P _ rfl _ _ rfl b S rfl OW.out (behP ⟨p1, p2, p3, p4⟩) rfl HW2.out q2 HQ2.out ?_)
  · refine bodyPost_ret (v := .agg #[.int .i64 (p1 - 1), .int .i64 p2, .int .i64 p3, .int .i64 (p4 + 1)]) (by simp [results, Tryz.results101, go_sem, z_1013, z_1014, z_1015, z_1016, z_1017, z_1018, z_1019, z_1020, z_1021, z_1022, z_1023, z_1024, z_1025, z_1026, z_1027, z_1028, fz_1029, fz_1030, fz_1031, fz_1032, fz_1033, fz_1034, fz_1035, fz_1036, fz_1037, fz_1038, fz_1039, fz_1040]) rfl ⟨by rw [HA.out (by assumption)]; rfl, (by have hsz_ := Below.size HBL.out; repeat' (first | with_reducible exact HBL.out | with_reducible exact Below.refl _ _ | with_reducible refine Below.alloc ?_ ?_ _ | with_reducible refine Below.setCell ?_ ?_ _ | with_reducible refine Below.drew ?_ | with_reducible refine below_setRow ?_ ?_ _ | omega | (simp; done) | (simp; omega)))⟩
  · refine bodyPost_ret (v := .agg #[.int .i64 p1, .int .i64 (p2 + 1), .int .i64 (p3 - 1), .int .i64 p4]) (by simp [results, Tryz.results101, go_sem, z_1013, z_1014, z_1015, z_1016, z_1017, z_1018, z_1019, z_1020, z_1021, z_1022, z_1023, z_1024, z_1025, z_1026, z_1027, z_1028, fz_1029, fz_1030, fz_1031, fz_1032, fz_1033, fz_1034, fz_1035, fz_1036, fz_1037, fz_1038, fz_1039, fz_1040]) rfl ⟨by rw [HBB.out (by assumption) (by assumption)]; rfl, (by have hsz_ := Below.size HBL.out; repeat' (first | with_reducible exact HBL.out | with_reducible exact Below.refl _ _ | with_reducible refine Below.alloc ?_ ?_ _ | with_reducible refine Below.setCell ?_ ?_ _ | with_reducible refine Below.drew ?_ | with_reducible refine below_setRow ?_ ?_ _ | omega | (simp; done) | (simp; omega)))⟩
  · refine bodyPost_ret (v := .agg #[.int .i64 p1, .int .i64 p2, .int .i64 p3, .int .i64 p4]) (by simp [results, Tryz.results101, go_sem, z_1013, z_1014, z_1015, z_1016, z_1017, z_1018, z_1019, z_1020, z_1021, z_1022, z_1023, z_1024, z_1025, z_1026, z_1027, z_1028, fz_1029, fz_1030, fz_1031, fz_1032, fz_1033, fz_1034, fz_1035, fz_1036, fz_1037, fz_1038, fz_1039, fz_1040]) rfl ⟨by rw [HC.out (by assumption) (by assumption)]; rfl, (by have hsz_ := Below.size HBL.out; repeat' (first | with_reducible exact HBL.out | with_reducible exact Below.refl _ _ | with_reducible refine Below.alloc ?_ ?_ _ | with_reducible refine Below.setCell ?_ ?_ _ | with_reducible refine Below.drew ?_ | with_reducible refine below_setRow ?_ ?_ _ | omega | (simp; done) | (simp; omega)))⟩
 refine rdH rfl (fun K hK => ?_) ?_
 · -- 3: alloc
  go_simp
  have lb796 := Lib.hid (bel_3.out.size)
  have ne797 := Lib.hid (Nat.ne_of_lt (OwnP.lt om_4.out))
  have ne798 := Lib.hid (Nat.ne_of_lt (Blk.lt bp_1.out))
  have ne799 := Lib.hid (Nat.ne_of_lt (Blk.lt bz_2.out))
  obtain ⟨o_, ho_⟩ : ∃ o, o = (.cells #[.int .i64 0, .int .i64 0, .int .i64 0, .int .i64 0] 28 : Obj) := ⟨_, rfl⟩
  replace bel_3 := bA bel_3 o_
  replace om_4 := Lib.hid (OwnP.alloc (om_4.out) (o_))
  replace bp_1 := kA bp_1 o_
  replace bz_2 := kA bz_2 o_
  subst ho_
  have n6_800 := Lib.hid (Blk.new (w737) 28 #[.int .i64 0, .int .i64 0, .int .i64 0, .int .i64 0])
  obtain ⟨g792, hg793⟩ : ∃ g, g = (w737).heap.size := ⟨_, rfl⟩
  obtain ⟨w794, hw795⟩ : ∃ w', w' = (w737).alloc (.cells #[.int .i64 0, .int .i64 0, .int .i64 0, .int .i64 0] 28) := ⟨_, rfl⟩
  rw [← hw795] at bel_3 om_4 bp_1 bz_2 n6_800
  rw [← hg793] at lb796 ne797 ne798 ne799 n6_800
  rw [← hg793, ← hw795]
  clear hg793 hw795
  refine hK.out _ _ bp_1.out (fun _ => ?_); clear hK K
  try simp only [Act.put, qsA, qsZ, qsS]
  refine oneH 2 rfl fun K hK => ?_
  go_simp
  have lb805 := Lib.hid (bel_3.out.size)
  have ne806 := Lib.hid (Nat.ne_of_lt (OwnP.lt om_4.out))
  have ne807 := Lib.hid (Nat.ne_of_lt (Blk.lt bp_1.out))
  have ne808 := Lib.hid (Nat.ne_of_lt (Blk.lt bz_2.out))
  have ne809 := Lib.hid (Nat.ne_of_lt (Blk.lt n6_800.out))
  obtain ⟨o_, ho_⟩ : ∃ o, o = (.cells #[.int .i64 0, .int .i64 0, .int .i64 0, .int .i64 0] 28 : Obj) := ⟨_, rfl⟩
  replace bel_3 := bA bel_3 o_
  replace om_4 := Lib.hid (OwnP.alloc (om_4.out) (o_))
  replace bp_1 := kA bp_1 o_
  replace bz_2 := kA bz_2 o_
  replace n6_800 := kA n6_800 o_
  subst ho_
  have n5_810 := Lib.hid (Blk.new (w794) 28 #[.int .i64 0, .int .i64 0, .int .i64 0, .int .i64 0])
  obtain ⟨g801, hg802⟩ : ∃ g, g = (w794).heap.size := ⟨_, rfl⟩
  obtain ⟨w803, hw804⟩ : ∃ w', w' = (w794).alloc (.cells #[.int .i64 0, .int .i64 0, .int .i64 0, .int .i64 0] 28) := ⟨_, rfl⟩
  rw [← hw804] at bel_3 om_4 bp_1 bz_2 n6_800 n5_810
  rw [← hg802] at lb805 ne806 ne807 ne808 ne809 n5_810
  rw [← hg802, ← hw804]
  clear hg802 hw804
  refine hK.out _ _ bp_1.out (fun _ => ?_); clear hK K
  try simp only [Act.put, qsA, qsZ, qsS]
  refine oneH 4 rfl fun K hK => ?_
  have v811 : (w803).cell? ⟨g801, 0, none⟩ = some (.int .i64 0) := Blk.cell (n5_810.out) 0
  have f812 : (w803).frozen? ⟨g801, 0, none⟩ = false := Blk.frozen (n5_810.out) 0
  have v813 : (w803).cell? ⟨g801, 1, none⟩ = some (.int .i64 0) := Blk.cell (n5_810.out) 1
  have f814 : (w803).frozen? ⟨g801, 1, none⟩ = false := Blk.frozen (n5_810.out) 1
  have v815 : (w803).cell? ⟨g801, 2, none⟩ = some (.int .i64 0) := Blk.cell (n5_810.out) 2
  have f816 : (w803).frozen? ⟨g801, 2, none⟩ = false := Blk.frozen (n5_810.out) 2
  have v817 : (w803).cell? ⟨g801, 3, none⟩ = some (.int .i64 0) := Blk.cell (n5_810.out) 3
  have f818 : (w803).frozen? ⟨g801, 3, none⟩ = false := Blk.frozen (n5_810.out) 3
  have hlt_ := Blk.lt (n5_810.out)
  go_simp
  have k819 := Lib.hid (Below.setCell (Below.setCell (Below.setCell (Below.setCell (bel_3.out) (p := ⟨g801, 0, none⟩) (lb805.out) (.int .i64 p1)) (p := ⟨g801, 1, none⟩) (lb805.out) (.int .i64 p2)) (p := ⟨g801, 2, none⟩) (lb805.out) (.int .i64 p3)) (p := ⟨g801, 3, none⟩) (lb805.out) (.int .i64 p4))
  have k820 := Lib.hid (OwnP.far (OwnP.far (OwnP.far (OwnP.far (om_4.out) (a := ⟨g801, 0, none⟩) (ne806.out) (.int .i64 p1)) (a := ⟨g801, 1, none⟩) (ne806.out) (.int .i64 p2)) (a := ⟨g801, 2, none⟩) (ne806.out) (.int .i64 p3)) (a := ⟨g801, 3, none⟩) (ne806.out) (.int .i64 p4))
  have k821 := Lib.hid (Blk.far (Blk.far (Blk.far (Blk.far (bp_1.out) (p := ⟨g801, 0, none⟩) (ne807.out) (.int .i64 p1)) (p := ⟨g801, 1, none⟩) (ne807.out) (.int .i64 p2)) (p := ⟨g801, 2, none⟩) (ne807.out) (.int .i64 p3)) (p := ⟨g801, 3, none⟩) (ne807.out) (.int .i64 p4))
  have k822 := Lib.hid (Blk.far (Blk.far (Blk.far (Blk.far (bz_2.out) (p := ⟨g801, 0, none⟩) (ne808.out) (.int .i64 p1)) (p := ⟨g801, 1, none⟩) (ne808.out) (.int .i64 p2)) (p := ⟨g801, 2, none⟩) (ne808.out) (.int .i64 p3)) (p := ⟨g801, 3, none⟩) (ne808.out) (.int .i64 p4))
  have k823 := Lib.hid (Blk.far (Blk.far (Blk.far (Blk.far (n6_800.out) (p := ⟨g801, 0, none⟩) (ne809.out) (.int .i64 p1)) (p := ⟨g801, 1, none⟩) (ne809.out) (.int .i64 p2)) (p := ⟨g801, 2, none⟩) (ne809.out) (.int .i64 p3)) (p := ⟨g801, 3, none⟩) (ne809.out) (.int .i64 p4))
  have k824 := Lib.hid (Blk.set_ (Blk.set_ (Blk.set_ (Blk.set_ (n5_810.out) 0 (.int .i64 p1)) 1 (.int .i64 p2)) 2 (.int .i64 p3)) 3 (.int .i64 p4))
  obtain ⟨w825, hw826⟩ : ∃ w', w' = (((((w803).setCell ⟨g801, 0, none⟩ (.int .i64 p1)).setCell ⟨g801, 1, none⟩ (.int .i64 p2)).setCell ⟨g801, 2, none⟩ (.int .i64 p3)).setCell ⟨g801, 3, none⟩ (.int .i64 p4)) := ⟨_, rfl⟩
  rw [← hw826] at k819 k820 k821 k822 k823 k824
  rw [← hw826]
  clear hw826 v811 f812 v813 f814 v815 f816 v817 f818 hlt_
  refine hK.out _ _ k821.out (fun _ => ?_); clear hK K
  try simp only [Act.put, qsA, qsZ, qsS]
  refine oneH 5 rfl fun K hK => ?_
  have v827 : (w825).cell? ⟨g792, 0, none⟩ = some (.int .i64 0) := Blk.cell (k823.out) 0
  have f828 : (w825).frozen? ⟨g792, 0, none⟩ = false := Blk.frozen (k823.out) 0
  have v829 : (w825).cell? ⟨g792, 1, none⟩ = some (.int .i64 0) := Blk.cell (k823.out) 1
  have f830 : (w825).frozen? ⟨g792, 1, none⟩ = false := Blk.frozen (k823.out) 1
  have v831 : (w825).cell? ⟨g792, 2, none⟩ = some (.int .i64 0) := Blk.cell (k823.out) 2
  have f832 : (w825).frozen? ⟨g792, 2, none⟩ = false := Blk.frozen (k823.out) 2
  have v833 : (w825).cell? ⟨g792, 3, none⟩ = some (.int .i64 0) := Blk.cell (k823.out) 3
  have f834 : (w825).frozen? ⟨g792, 3, none⟩ = false := Blk.frozen (k823.out) 3
  have hlt_ := Blk.lt (k823.out)
  go_simp
  have k835 := Lib.hid (Below.setCell (Below.setCell (Below.setCell (Below.setCell (k819.out) (p := ⟨g792, 0, none⟩) (lb796.out) (.int .i64 p1)) (p := ⟨g792, 1, none⟩) (lb796.out) (.int .i64 p2)) (p := ⟨g792, 2, none⟩) (lb796.out) (.int .i64 p3)) (p := ⟨g792, 3, none⟩) (lb796.out) (.int .i64 p4))
  have k836 := Lib.hid (OwnP.far (OwnP.far (OwnP.far (OwnP.far (k820.out) (a := ⟨g792, 0, none⟩) (ne797.out) (.int .i64 p1)) (a := ⟨g792, 1, none⟩) (ne797.out) (.int .i64 p2)) (a := ⟨g792, 2, none⟩) (ne797.out) (.int .i64 p3)) (a := ⟨g792, 3, none⟩) (ne797.out) (.int .i64 p4))
  have k837 := Lib.hid (Blk.far (Blk.far (Blk.far (Blk.far (k821.out) (p := ⟨g792, 0, none⟩) (ne798.out) (.int .i64 p1)) (p := ⟨g792, 1, none⟩) (ne798.out) (.int .i64 p2)) (p := ⟨g792, 2, none⟩) (ne798.out) (.int .i64 p3)) (p := ⟨g792, 3, none⟩) (ne798.out) (.int .i64 p4))
  have k838 := Lib.hid (Blk.far (Blk.far (Blk.far (Blk.far (k822.out) (p := ⟨g792, 0, none⟩) (ne799.out) (.int .i64 p1)) (p := ⟨g792, 1, none⟩) (ne799.out) (.int .i64 p2)) (p := ⟨g792, 2, none⟩) (ne799.out) (.int .i64 p3)) (p := ⟨g792, 3, none⟩) (ne799.out) (.int .i64 p4))
  have k839 := Lib.hid (Blk.set_ (Blk.set_ (Blk.set_ (Blk.set_ (k823.out) 0 (.int .i64 p1)) 1 (.int .i64 p2)) 2 (.int .i64 p3)) 3 (.int .i64 p4))
  have k840 := Lib.hid (Blk.far (Blk.far (Blk.far (Blk.far (k824.out) (p := ⟨g792, 0, none⟩) ((Ne.symm ne809.out)) (.int .i64 p1)) (p := ⟨g792, 1, none⟩) ((Ne.symm ne809.out)) (.int .i64 p2)) (p := ⟨g792, 2, none⟩) ((Ne.symm ne809.out)) (.int .i64 p3)) (p := ⟨g792, 3, none⟩) ((Ne.symm ne809.out)) (.int .i64 p4))
  obtain ⟨w841, hw842⟩ : ∃ w', w' = (((((w825).setCell ⟨g792, 0, none⟩ (.int .i64 p1)).setCell ⟨g792, 1, none⟩ (.int .i64 p2)).setCell ⟨g792, 2, none⟩ (.int .i64 p3)).setCell ⟨g792, 3, none⟩ (.int .i64 p4)) := ⟨_, rfl⟩
  rw [← hw842] at k835 k836 k837 k838 k839 k840
  rw [← hw842]
  clear hw842 v827 f828 v829 f830 v831 f832 v833 f834 hlt_
  refine hK.out _ _ k837.out (fun _ => ?_); clear hK K
  try simp only [Act.put, qsA, qsZ, qsS]
  refine wpAnyH_done (by kernel_rfl) ?_ _
  have lt5 := Blk.lt k840.out; have lt6 := Blk.lt k839.out; have ltz := Blk.lt k838.out; have ltp := Blk.lt k837.out
  have hne1 := ne809.out; have hne2 := Ne.symm ne809.out
  have hl5 : w.heap.size ≤ g801 := lb805.out; have hl6 : w.heap.size ≤ g792 := lb796.out
  have hnp5 : w.heap.size ≠ g801 := ne807.out; have hnp6 : w.heap.size ≠ g792 := ne798.out
  have hnz5 : w.heap.size + 1 ≠ g801 := ne808.out; have hnz6 : w.heap.size + 1 ≠ g792 := ne799.out
  have OW := Lib.hid (OwnP.far (OwnP.far (OwnP.far (OwnP.far (k836.out) (a := ⟨g801, 0, none⟩) ne806.out (.int .i64 (p1 - 1))) (a := ⟨g801, 3, none⟩) ne806.out (.int .i64 (p4 + 1))) (a := ⟨g792, 1, none⟩) ne797.out (.int .i64 (p2 + 1))) (a := ⟨g792, 2, none⟩) ne797.out (.int .i64 (p3 - 1)))
  have HBL := Lib.hid (k835.out)
  obtain ⟨z_1013, z_1014, z_1015, z_1016⟩ := at4 k837
  obtain ⟨z_1017, z_1018, z_1019, z_1020⟩ := at4 k838
  obtain ⟨z_1021, z_1022, z_1023, z_1024⟩ := at4 k840
  obtain ⟨z_1025, z_1026, z_1027, z_1028⟩ := at4 k839
  have fz_1029 : (w841).frozen? ⟨g801, 0, none⟩ = false := Blk.frozen k840.out 0
  have fz_1030 : (w841).frozen? ⟨g801, 1, none⟩ = false := Blk.frozen k840.out 1
  have fz_1031 : (w841).frozen? ⟨g801, 2, none⟩ = false := Blk.frozen k840.out 2
  have fz_1032 : (w841).frozen? ⟨g801, 3, none⟩ = false := Blk.frozen k840.out 3
  have fz_1033 : (w841).frozen? ⟨g792, 0, none⟩ = false := Blk.frozen k839.out 0
  have fz_1034 : (w841).frozen? ⟨g792, 1, none⟩ = false := Blk.frozen k839.out 1
  have fz_1035 : (w841).frozen? ⟨g792, 2, none⟩ = false := Blk.frozen k839.out 2
  have fz_1036 : (w841).frozen? ⟨g792, 3, none⟩ = false := Blk.frozen k839.out 3
  have fz_1037 : (w841).frozen? ⟨w.heap.size + 1, 0, none⟩ = false := Blk.frozen k838.out 0
  have fz_1038 : (w841).frozen? ⟨w.heap.size + 1, 1, none⟩ = false := Blk.frozen k838.out 1
  have fz_1039 : (w841).frozen? ⟨w.heap.size + 1, 2, none⟩ = false := Blk.frozen k838.out 2
  have fz_1040 : (w841).frozen? ⟨w.heap.size + 1, 3, none⟩ = false := Blk.frozen k838.out 3
  go_wp2_with (at_lookup; first | refine wpList_lookup_P _ rfl _ _ rfl b S rfl OW.out (befP ⟨p1, p2, p3, p4⟩) rfl HW1.out q1 HQ1.out ?_ | refine wpList_lookup_P _ rfl _ _ rfl b S rfl OW.out (behP ⟨p1, p2, p3, p4⟩) rfl HW2.out q2 HQ2.out ?_)
  · refine bodyPost_ret (v := .agg #[.int .i64 (p1 - 1), .int .i64 p2, .int .i64 p3, .int .i64 (p4 + 1)]) (by simp [results, Tryz.results101, go_sem, z_1013, z_1014, z_1015, z_1016, z_1017, z_1018, z_1019, z_1020, z_1021, z_1022, z_1023, z_1024, z_1025, z_1026, z_1027, z_1028, fz_1029, fz_1030, fz_1031, fz_1032, fz_1033, fz_1034, fz_1035, fz_1036, fz_1037, fz_1038, fz_1039, fz_1040]) rfl ⟨by rw [HA.out (by assumption)]; rfl, (by have hsz_ := Below.size HBL.out; repeat' (first | with_reducible exact HBL.out | with_reducible exact Below.refl _ _ | with_reducible refine Below.alloc ?_ ?_ _ | with_reducible refine Below.setCell ?_ ?_ _ | with_reducible refine Below.drew ?_ | with_reducible refine below_setRow ?_ ?_ _ | omega | (simp; done) | (simp; omega)))⟩
  · refine bodyPost_ret (v := .agg #[.int .i64 p1, .int .i64 (p2 + 1), .int .i64 (p3 - 1), .int .i64 p4]) (by simp [results, Tryz.results101, go_sem, z_1013, z_1014, z_1015, z_1016, z_1017, z_1018, z_1019, z_1020, z_1021, z_1022, z_1023, z_1024, z_1025, z_1026, z_1027, z_1028, fz_1029, fz_1030, fz_1031, fz_1032, fz_1033, fz_1034, fz_1035, fz_1036, fz_1037, fz_1038, fz_1039, fz_1040]) rfl ⟨by rw [HBB.out (by assumption) (by assumption)]; rfl, (by have hsz_ := Below.size HBL.out; repeat' (first | with_reducible exact HBL.out | with_reducible exact Below.refl _ _ | with_reducible refine Below.alloc ?_ ?_ _ | with_reducible refine Below.setCell ?_ ?_ _ | with_reducible refine Below.drew ?_ | with_reducible refine below_setRow ?_ ?_ _ | omega | (simp; done) | (simp; omega)))⟩
  · refine bodyPost_ret (v := .agg #[.int .i64 p1, .int .i64 p2, .int .i64 p3, .int .i64 p4]) (by simp [results, Tryz.results101, go_sem, z_1013, z_1014, z_1015, z_1016, z_1017, z_1018, z_1019, z_1020, z_1021, z_1022, z_1023, z_1024, z_1025, z_1026, z_1027, z_1028, fz_1029, fz_1030, fz_1031, fz_1032, fz_1033, fz_1034, fz_1035, fz_1036, fz_1037, fz_1038, fz_1039, fz_1040]) rfl ⟨by rw [HC.out (by assumption) (by assumption)]; rfl, (by have hsz_ := Below.size HBL.out; repeat' (first | with_reducible exact HBL.out | with_reducible exact Below.refl _ _ | with_reducible refine Below.alloc ?_ ?_ _ | with_reducible refine Below.setCell ?_ ?_ _ | with_reducible refine Below.drew ?_ | with_reducible refine below_setRow ?_ ?_ _ | omega | (simp; done) | (simp; omega)))⟩
 exact AllReadyH.nil
end Go.Proofs.YtaoanagmgheicaaGreat
