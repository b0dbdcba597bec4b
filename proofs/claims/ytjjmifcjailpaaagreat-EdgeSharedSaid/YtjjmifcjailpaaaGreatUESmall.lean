import Derived.Shelf.SlSortCmp.NoneTotal
import Derived.Test.YtjjmifcjailpaaaGreatUEMax
import Derived.Test.YtjjmifcjailpaaaGreatUESort
import Derived.Test.YtjjmifcjailpaaaGreatUELongest
set_option linter.unusedSimpArgs false
set_option linter.unusedVariables false
namespace Go.Proofs.YtjjmifcjailpaaaGreat
open Go.Lib (hid)
open Go.RowKit
set_option maxRecDepth 100000 in
set_option maxHeartbeats 4000000 in
theorem small3_any (c:Int) (A B:Option Addr) (n k m j:Nat) (d:Int) (C D:Option Addr) (n2 k2 m2 j2:Nat) (g:Nat) (w:World) (hb:Blk w g 24 #[.int .i64 c,.slice A n k,.slice B m j,.int .i64 d,.slice C n2 k2,.slice D m2 j2]) :
 Calls Tryz.prog 8 #[.slice (some ⟨g,0,none⟩) 2 2] w fun e w'=>e=.returned (.bool (decide (n≤40)&&decide (m≤40)&&decide (n2≤40)&&decide (m2≤40)))∧Below w.heap.size w w':=by
 have HB:=hid hb;clear hb
 go_enter Tryz.func8,Tryz.ntmps8
 go_wp2
 go_loopw [3] (fun i wr=>(i=.int .i64 0∨(i=.int .i64 1∧n≤40∧m≤40)∨(i=.int .i64 2∧n≤40∧m≤40∧n2≤40∧m2≤40))∧Blk wr g 24 #[.int .i64 c,.slice A n k,.slice B m j,.int .i64 d,.slice C n2 k2,.slice D m2 j2]∧Below w.heap.size w wr) (fun i _=>2-(intOf i).toNat)
 case atStart=>exact ⟨.inl rfl,HB.out,Below.refl _ _⟩
 case round =>
  obtain ⟨hi,hb,hbe⟩:=hrel
  have c0:wr.cell? ⟨g,0,none⟩=some (.int .i64 c):=hb.cell 0
  have c1:wr.cell? ⟨g,1,none⟩=some (.slice A n k):=hb.cell 1
  have c2:wr.cell? ⟨g,2,none⟩=some (.slice B m j):=hb.cell 2
  have c3:wr.cell? ⟨g,3,none⟩=some (.int .i64 d):=hb.cell 3
  have c4:wr.cell? ⟨g,4,none⟩=some (.slice C n2 k2):=hb.cell 4
  have c5:wr.cell? ⟨g,5,none⟩=some (.slice D m2 j2):=hb.cell 5
  have hlt:=hb.lt;have HBB:=hid hb;have HBE:=hid hbe;clear hb hbe
  rcases hi with rfl|⟨rfl,k1,k2⟩|⟨rfl,k1,k2,k3,k4⟩
  · by_cases hx:n≤40
    · have hx':¬ (40:Int)<n:=by omega
      by_cases hy:m≤40
      · have hy':¬ (40:Int)<m:=by omega
        go_wp2
        go_roundw
        case rel=>exact ⟨.inr (.inl ⟨rfl,hx,hy⟩),HBB.out,HBE.out⟩
        case measure=>simp [intOf]
      · have hy':(40:Int)<m:=by omega
        go_wp2
        go_ret
        exact ⟨ret_bool (by simp [hx,hy]),HBE.out⟩
    · have hx':(40:Int)<n:=by omega
      go_wp2
      go_ret
      exact ⟨ret_bool (by simp [hx]),HBE.out⟩
  · by_cases hx:n2≤40
    · have hx':¬ (40:Int)<n2:=by omega
      by_cases hy:m2≤40
      · have hy':¬ (40:Int)<m2:=by omega
        go_wp2
        go_roundw
        case rel=>exact ⟨.inr (.inr ⟨rfl,k1,k2,hx,hy⟩),HBB.out,HBE.out⟩
        case measure=>simp [intOf]
      · have hy':(40:Int)<m2:=by omega
        go_wp2
        go_ret
        exact ⟨ret_bool (by simp [k1,k2,hx,hy]),HBE.out⟩
    · have hx':(40:Int)<n2:=by omega
      go_wp2
      go_ret
      exact ⟨ret_bool (by simp [k1,k2,hx]),HBE.out⟩
  · go_wp2
    go_ret
    exact ⟨ret_bool (by simp [k1,k2,k3,k4]),HBE.out⟩
theorem small3_is (c:Int) (A B:Option Addr) (n k m j:Nat) (d:Int) (C D:Option Addr) (n2 k2 m2 j2:Nat) (g:Nat) (w:World) (hb:Blk w g 24 #[.int .i64 c,.slice A n k,.slice B m j,.int .i64 d,.slice C n2 k2,.slice D m2 j2]) (v:Bool) (hs:(decide (n≤40)&&decide (m≤40)&&decide (n2≤40)&&decide (m2≤40))=v) :
 Calls Tryz.prog 8 #[.slice (some ⟨g,0,none⟩) 2 2] w fun e w'=>e=.returned (.bool v)∧Below w.heap.size w w':=by
 subst hs
 exact small3_any c A B n k m j d C D n2 k2 m2 j2 g w hb
end Go.Proofs.YtjjmifcjailpaaaGreat
