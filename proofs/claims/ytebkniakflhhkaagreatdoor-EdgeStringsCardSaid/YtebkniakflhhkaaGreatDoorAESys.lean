import Derived.Test.YtebkniakflhhkaaGreatDoorAESpec
set_option linter.unusedSimpArgs false
set_option linter.unusedVariables false
namespace Go.Proofs.YtebkniakflhhkaaGreatDoor
open Go.Lib (hid)
open Go.RowKit
theorem ownWays_any (c:Int) (A B:Option Addr) (n k m j:Nat) (w:World) (hc:-1000000≤c) (hc':c≤1000000) :
 Calls Tryz.prog 69 #[.agg #[.int .i64 c,.slice A n k,.slice B m j],.bool false] w fun e w'=>e=.returned (.agg #[.int .i64 (c+1),.slice A n k])∧Below w.heap.size w w':=by
 go_enter Tryz.func69,Tryz.ntmps69
 go_wp2
 refine bodyPost_ret (v:=.agg #[.int .i64 (c+1),.slice A n k]) (by simp [results,Tryz.results69,go_sem]) rfl ⟨rfl,(by (repeat (first|exact Below.refl _ _|refine Below.drew ?_|refine Below.alloc ?_ (by simp) _)))⟩
theorem ownTurns_any (c:Int) (A B:Option Addr) (n k m j:Nat) (w:World) :
 Calls Tryz.prog 69 #[.agg #[.int .i64 c,.slice A n k,.slice B m j],.bool true] w fun e w'=>e=.returned (.agg #[.int .i64 c,.slice B m j])∧Below w.heap.size w w':=by
 go_enter Tryz.func69,Tryz.ntmps69
 go_wp2
 refine bodyPost_ret (v:=.agg #[.int .i64 c,.slice B m j]) (by simp [results,Tryz.results69,go_sem]) rfl ⟨rfl,(by (repeat (first|exact Below.refl _ _|refine Below.drew ?_|refine Below.alloc ?_ (by simp) _)))⟩
set_option maxRecDepth 100000 in
set_option maxHeartbeats 1000000 in
theorem CheckOutline_any (c:Int) (A B:Option Addr) (n k m j:Nat) (ws ts:List Bnd) (w:World) (h1:RdB w A n k ws) (h2:RdB w B m j ts) (hn:n≤maxLen) (hm:m≤maxLen) :
 Calls Tryz.prog 41 #[.agg #[.int .i64 c,.slice A n k,.slice B m j]] w fun e w'=>e=.returned (.int .i64 (chkO ⟨c,ws,ts⟩))∧Below w.heap.size w w':=by
 have H1:=hid h1;have H2:=hid h2;clear h1 h2
 by_cases h3:3≤c
 · by_cases h16:c≤16
   · obtain ⟨q,hq⟩:∃ q,chkO ⟨c,ws,ts⟩=q:=⟨_,rfl⟩
     rw [hq]
     have HQ:=hid hq;clear hq
     go_enter Tryz.func41,Tryz.ntmps41
     go_wp2
     go_loopw [15] (fun i wr=>(i=.int .i64 0∨(i=.int .i64 1∧chk (c+1) ws=0)∨(i=.int .i64 2∧chk (c+1) ws=0∧chk c ts=0))∧Below (w.heap.size+1) (w.alloc (.cells #[.int .i64 c,.slice A n k,.slice B m j] 35)) wr) (fun i _=>2-(intOf i).toNat)
     case atStart=>exact ⟨.inl rfl,Below.refl _ _⟩
     case round =>
      obtain ⟨hi,hb⟩:=hrel
      have hz:=box_size hb
      have hc0:wr.cell? ⟨w.heap.size,0,none⟩=some (.int .i64 c):=box_cell hb 0
      have hc1:wr.cell? ⟨w.heap.size,1,none⟩=some (.slice A n k):=box_cell hb 1
      have hc2:wr.cell? ⟨w.heap.size,2,none⟩=some (.slice B m j):=box_cell hb 2
      have ho:=box_out hb
      have HB:=hid hb;clear hb
      have hx0:∀ W,(Instr.index 127 (.agg #[.bool false,.bool true]) (.int .i64 0)).run Tryz.prog W=.ok (.bool false) W:=fun W=>by kernel_rfl
      have hx1:∀ W,(Instr.index 127 (.agg #[.bool false,.bool true]) (.int .i64 1)).run Tryz.prog W=.ok (.bool true) W:=fun W=>by kernel_rfl
      rcases hi with rfl|⟨rfl,k1⟩|⟨rfl,k1,k2⟩
      · go_wp2_with fail
        refine (ownWays_any c A B n k m j _ (by omega) (by omega)).mono ?_
        rintro e w2 ⟨rfl,hb2⟩
        go_wp2_with fail
        refine (checkSystem_any (c+1) A n k ws _ (H1.out.below (ho.trans (hb2.mono ho.size))) hn).mono ?_
        rintro e w3 ⟨rfl,hb3⟩
        have a0:=hb2.trans (hb3.mono hb2.size)
        have ho3:=ho.trans (a0.mono ho.size)
        have a1:=HB.out.trans (a0.mono hz)
        clear hb2 hb3 a0
        by_cases hk:chk (c+1) ws=0
        · rw [hk]
          have HK:=hid hk;clear hk
          go_wp2
          go_roundw
          case rel=>exact ⟨.inr (.inl ⟨by go_num,HK.out⟩),a1⟩
          case measure=>simp [intOf]
        · have hne:(chk (c+1) ws != 0)=true:=by simpa using hk
          have HK:=hid hk;clear hk
          have hq:chk (c+1) ws=q:=by rw [← HQ.out];unfold chkO;rw [if_neg (by simp;omega),if_pos HK.out]
          rw [hq] at hne ⊢
          clear hq
          go_wp2
          go_ret
          exact ⟨rfl,ho3⟩
      · have K1:=hid k1;clear k1
        go_wp2_with fail
        refine (ownTurns_any c A B n k m j _).mono ?_
        rintro e w2 ⟨rfl,hb2⟩
        go_wp2_with fail
        refine (checkSystem_any c B m j ts _ (H2.out.below (ho.trans (hb2.mono ho.size))) hm).mono ?_
        rintro e w3 ⟨rfl,hb3⟩
        have a0:=hb2.trans (hb3.mono hb2.size)
        have ho3:=ho.trans (a0.mono ho.size)
        have a1:=HB.out.trans (a0.mono hz)
        clear hb2 hb3 a0
        by_cases hk:chk c ts=0
        · rw [hk]
          have HK:=hid hk;clear hk
          go_wp2
          go_roundw
          case rel=>exact ⟨.inr (.inr ⟨by go_num,K1.out,HK.out⟩),a1⟩
          case measure=>simp [intOf]
        · have hne:(chk c ts != 0)=true:=by simpa using hk
          have HK:=hid hk;clear hk
          have hq:chk c ts=q:=by rw [← HQ.out];unfold chkO;rw [if_neg (by simp;omega),if_neg (by simpa using K1.out)]
          rw [hq] at hne ⊢
          clear hq
          go_wp2
          go_ret
          exact ⟨rfl,ho3⟩
      · have K1:=hid k1;have K2:=hid k2;clear k1 k2
        obtain rfl:q=0:=by rw [← HQ.out];unfold chkO;rw [if_neg (by simp;omega),if_neg (by simpa using K1.out)];exact K2.out
        go_wp2
        go_ret
        exact ⟨rfl,ho⟩
   · go_enter Tryz.func41,Tryz.ntmps41
     go_wp2
     go_ret
     exact ⟨ret_int (by unfold chkO;rw [if_pos (by simp;omega)]),(by (repeat (first|exact Below.refl _ _|refine Below.drew ?_|refine Below.alloc ?_ (by simp) _)))⟩
 · go_enter Tryz.func41,Tryz.ntmps41
   go_wp2
   go_ret
   exact ⟨ret_int (by unfold chkO;rw [if_pos (by simp;omega)]),(by (repeat (first|exact Below.refl _ _|refine Below.drew ?_|refine Below.alloc ?_ (by simp) _)))⟩
end Go.Proofs.YtebkniakflhhkaaGreatDoor
