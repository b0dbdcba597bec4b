import Derived.Test.YtjjmifcjailpaaaGreatTEWith
import Derived.Test.YtjjmifcjailpaaaGreatTERefLac
set_option linter.unusedSimpArgs false
set_option linter.unusedVariables false
namespace Go.Proofs.YtjjmifcjailpaaaGreat
open Go.RowKit
set_option maxRecDepth 100000 in
set_option maxHeartbeats 4000000 in
theorem rCheckPlace_any (c : Int) (A B : Option Addr) (n k m j : Nat) (ws ts : List Bnd) (d : Int) (C D : Option Addr) (n2 k2 m2 j2 : Nat) (ws2 ts2 : List Bnd) (p1 p2 p3 p4 : Int) (w : World) (h1 : RdB w A n k ws) (h2 : RdB w B m j ts) (hn : n ≤ maxLen) (hm : m ≤ maxLen) (h3 : RdB w C n2 k2 ws2) (h4 : RdB w D m2 j2 ts2) (hn2 : n2 ≤ maxLen) (hm2 : m2 ≤ maxLen) (X1 : Option Addr) (x1 k1 : Nat) (xa : List Int) (X2 : Option Addr) (x2 k2x : Nat) (xb : List Int) (X3 : Option Addr) (x3 k3 : Nat) (ya : List Int) (X4 : Option Addr) (x4 k4 : Nat) (yb : List Int) (hx0 : RdI w X1 x1 k1 xa) (hl0 : x1 ≤ maxLen) (hx1 : RdI w X2 x2 k2x xb) (hl1 : x2 ≤ maxLen) (hx2 : RdI w X3 x3 k3 ya) (hl2 : x3 ≤ maxLen) (hx3 : RdI w X4 x4 k4 yb) (hl3 : x4 ≤ maxLen) : Calls Tryz.prog 14 #[.agg #[.int .i64 c, .slice A n k, .slice B m j], .agg #[.int .i64 d, .slice C n2 k2, .slice D m2 j2], .agg #[.int .i64 p1, .int .i64 p2, .int .i64 p3, .int .i64 p4], .agg #[.slice X1 x1 k1, .slice X2 x2 k2x, .slice X3 x3 k3, .slice X4 x4 k4]] w fun e w' => e = .returned (.tuple #[.bool (checkPlaceV ⟨c, ws, ts⟩ ⟨d, ws2, ts2⟩ ⟨p1, p2, p3, p4⟩ xa xb ya yb).1, .int .i64 (checkPlaceV ⟨c, ws, ts⟩ ⟨d, ws2, ts2⟩ ⟨p1, p2, p3, p4⟩ xa xb ya yb).2]) ∧ Below w.heap.size w w' := by
 unfold checkPlaceV
 by_cases hq0 : asked ⟨c, ws, ts⟩ ⟨d, ws2, ts2⟩ ⟨p1, p2, p3, p4⟩ = 0
 · rw [if_pos hq0]
   have hq := (asked_ok hq0).1
   obtain ⟨oa, ob, sa, sb, hk⟩ := chkP_ok hq
   dsimp only at sa sb hk
   obtain ⟨ho1, ho2, ca1, ca2⟩ := chkO_ok oa
   obtain ⟨hb1, hb2, cb1, cb2⟩ := chkO_ok ob
   dsimp only at ho1 ho2 ca1 ca2 hb1 hb2 cb1 cb2
   obtain ⟨q1, rfl⟩ := Int.eq_ofNat_of_zero_le sa.1
   obtain ⟨q2, rfl⟩ := Int.eq_ofNat_of_zero_le (show 0 ≤ p2 by omega)
   obtain ⟨q3, rfl⟩ := Int.eq_ofNat_of_zero_le sb.1
   obtain ⟨q4, rfl⟩ := Int.eq_ofNat_of_zero_le (show 0 ≤ p4 by omega)
   obtain ⟨kk, hkn⟩ : ∃ kk : Nat, (q4 : Int) - q3 = kk := ⟨q4 - q3, by omega⟩
   have hkk : (Prg.mk (q1 : Int) q2 q3 q4).bt - (Prg.mk (q1 : Int) q2 q3 q4).bf = kk := hkn
   dsimp only
   rw [plR_eq hq hkk]
   unfold plR
   exact rCheckPlace_o c A B n k m j ws ts d C D n2 k2 m2 j2 ws2 ts2 q1 q2 q3 q4 w h1 h2 hn hm h3 h4 hn2 hm2 X1 x1 k1 xa X2 x2 k2x xb X3 x3 k3 ya X4 x4 k4 yb hx0 hl0 hx1 hl1 hx2 hl2 hx3 hl3 (Lib.hid hq0) ho1 ho2 hb1 hb2 (Lib.hid ca1) (Lib.hid cb1) (Lib.hid ca2) (Lib.hid cb2) _ _ _ _ _ _ _ _ (Lib.hid rfl) (Lib.hid rfl) (Lib.hid rfl) (Lib.hid rfl) (Lib.hid rfl) (Lib.hid rfl) (Lib.hid rfl) (Lib.hid rfl) kk (Lib.hid (by omega))
 · rw [if_neg hq0]
   exact rCheckPlace_e c A B n k m j ws ts d C D n2 k2 m2 j2 ws2 ts2 p1 p2 p3 p4 w h1 h2 hn hm h3 h4 hn2 hm2 X1 x1 k1 xa X2 x2 k2x xb X3 x3 k3 ya X4 x4 k4 yb hx0 hl0 hx1 hl1 hx2 hl2 hx3 hl3 _ (by simpa using hq0) (Lib.hid rfl)
end Go.Proofs.YtjjmifcjailpaaaGreat
