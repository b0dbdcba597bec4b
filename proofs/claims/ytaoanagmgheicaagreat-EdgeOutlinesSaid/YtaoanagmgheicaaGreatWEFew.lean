import Derived.Test.YtaoanagmgheicaaGreatQMem
set_option linter.unusedSimpArgs false
set_option linter.unusedVariables false
namespace Go.Proofs.YtaoanagmgheicaaGreat
open Go.RowKit
def fewB (n m : Nat) : Bool := (decide (n ≤ 40) || (decide (395 < n) && decide (n ≤ 405))) && (decide (m ≤ 40) || (decide (395 < m) && decide (m ≤ 405)))
set_option maxRecDepth 100000 in
set_option maxHeartbeats 4000000 in
theorem few3_any (c : Int) (A B : Option Addr) (n k m j : Nat) (w : World) :
 Calls Tryz.prog 16 #[.agg #[.int .i64 c, .slice A n k, .slice B m j]] w fun e w' => e = .returned (.bool (fewB n m)) ∧ Below w.heap.size w w' := by
 by_cases h1n : (n : Int) ≤ 40
 · skip
   by_cases h1m : (m : Int) ≤ 40
   · skip
     go_enter Tryz.func16, Tryz.ntmps16
     go_wp2
     go_ret
     exact ⟨ret_bool (by simp [fewB]; omega), (by (repeat (first | exact Below.refl _ _ | refine Below.drew ?_ | refine Below.alloc ?_ (by simp) _)))⟩
   · by_cases h2m : (395 : Int) < m
     · by_cases h3m : (m : Int) ≤ 405
       · skip
         go_enter Tryz.func16, Tryz.ntmps16
         go_wp2
         go_ret
         exact ⟨ret_bool (by simp [fewB]; omega), (by (repeat (first | exact Below.refl _ _ | refine Below.drew ?_ | refine Below.alloc ?_ (by simp) _)))⟩
       · skip
         go_enter Tryz.func16, Tryz.ntmps16
         go_wp2
         go_ret
         exact ⟨ret_bool (by simp [fewB]; omega), (by (repeat (first | exact Below.refl _ _ | refine Below.drew ?_ | refine Below.alloc ?_ (by simp) _)))⟩
     · skip
       go_enter Tryz.func16, Tryz.ntmps16
       go_wp2
       go_ret
       exact ⟨ret_bool (by simp [fewB]; omega), (by (repeat (first | exact Below.refl _ _ | refine Below.drew ?_ | refine Below.alloc ?_ (by simp) _)))⟩
 · by_cases h2n : (395 : Int) < n
   · by_cases h3n : (n : Int) ≤ 405
     · skip
       by_cases h1m : (m : Int) ≤ 40
       · skip
         go_enter Tryz.func16, Tryz.ntmps16
         go_wp2
         go_ret
         exact ⟨ret_bool (by simp [fewB]; omega), (by (repeat (first | exact Below.refl _ _ | refine Below.drew ?_ | refine Below.alloc ?_ (by simp) _)))⟩
       · by_cases h2m : (395 : Int) < m
         · by_cases h3m : (m : Int) ≤ 405
           · skip
             go_enter Tryz.func16, Tryz.ntmps16
             go_wp2
             go_ret
             exact ⟨ret_bool (by simp [fewB]; omega), (by (repeat (first | exact Below.refl _ _ | refine Below.drew ?_ | refine Below.alloc ?_ (by simp) _)))⟩
           · skip
             go_enter Tryz.func16, Tryz.ntmps16
             go_wp2
             go_ret
             exact ⟨ret_bool (by simp [fewB]; omega), (by (repeat (first | exact Below.refl _ _ | refine Below.drew ?_ | refine Below.alloc ?_ (by simp) _)))⟩
         · skip
           go_enter Tryz.func16, Tryz.ntmps16
           go_wp2
           go_ret
           exact ⟨ret_bool (by simp [fewB]; omega), (by (repeat (first | exact Below.refl _ _ | refine Below.drew ?_ | refine Below.alloc ?_ (by simp) _)))⟩
     · skip
       go_enter Tryz.func16, Tryz.ntmps16
       go_wp2
       go_ret
       exact ⟨ret_bool (by simp [fewB]; omega), (by (repeat (first | exact Below.refl _ _ | refine Below.drew ?_ | refine Below.alloc ?_ (by simp) _)))⟩
   · skip
     go_enter Tryz.func16, Tryz.ntmps16
     go_wp2
     go_ret
     exact ⟨ret_bool (by simp [fewB]; omega), (by (repeat (first | exact Below.refl _ _ | refine Below.drew ?_ | refine Below.alloc ?_ (by simp) _)))⟩
end Go.Proofs.YtaoanagmgheicaaGreat
