import Derived.Test.YtjjmifcjailpaaaGreatTEMeet
set_option linter.unusedSimpArgs false
set_option linter.unusedVariables false
namespace Go.Proofs.YtjjmifcjailpaaaGreat
open Go.RowKit
theorem jL_chk {a b : Otl} {p : Prg} (h : asked a b p = 0) (u : Bool) : chk (jP u a b p) (jL u a b p) = 0 := by
 cases u
 · exact wayL_chk h
 · exact turnL_chk h
theorem jL_len {a b : Otl} {p : Prg} (h : asked a b p = 0) (u : Bool) : (jL u a b p).length ≤ 400 := (chk_ok (jL_chk h u)).2.2.1
theorem CheckCircle_is (p : Int) (A B : Option Addr) (n c m d : Nat) (l : List Bnd) (x : List Int) (w : World) (hr : RdB w A n c l) (hn : n ≤ maxLen) (hq : RdI w B m d x) (hm : m ≤ maxLen) (V : Bool × Int) (hV : checkCircleV p l x = V) :
 Calls Tryz.prog 52 #[.agg #[.int .i64 p, .slice A n c], .slice B m d] w fun e w' => e = .returned (.tuple #[.bool V.1, .int .i64 V.2]) ∧ Below w.heap.size w w' := by
 subst hV
 exact CheckCircle_any p A B n c m d l x w hr hn hq hm
end Go.Proofs.YtjjmifcjailpaaaGreat
