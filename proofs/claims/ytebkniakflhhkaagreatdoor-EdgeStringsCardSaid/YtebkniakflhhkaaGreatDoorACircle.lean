import Derived.Test.YtebkniakflhhkaaGreatDoorASolve
import Derived.Test.YtebkniakflhhkaaGreatDoorAWlk
set_option linter.unusedSimpArgs false
set_option linter.unusedVariables false
namespace Go.Proofs.YtebkniakflhhkaaGreatDoor
open Go.Lib (hid)
open Go.RowKit
def rowsF (f:Nat→List Int):List (List Int):=(List.range 60).map f
theorem rowsF_length (f:Nat→List Int):(rowsF f).length=60:=by simp [rowsF]
theorem rowsF_get (f:Nat→List Int) {q:Nat} (h:q<60):(rowsF f)[q]?=some (f q):=by
 unfold rowsF
 rw [List.getElem?_map,List.getElem?_range h]
 rfl
theorem rowsF_sixty {f:Nat→List Int} (h:∀ q,q<60→(f q).length=60):Sixty (rowsF f):=fun r hr=>by
 unfold rowsF at hr
 obtain ⟨q,hq,rfl⟩:=List.mem_map.1 hr
 exact h q (List.mem_range.1 hq)
theorem rowsF_set (f g:Nat→List Int) {k:Nat} {y:List Int} (hk:k<60) (h1:g k=y) (h2:∀ q,q<60→q≠k→f q=g q):(rowsF f).set k y=rowsF g:=by
 apply List.ext_getElem?
 intro q
 by_cases hq:q<60
 · rw [rowsF_get g hq,List.getElem?_set,rowsF_length,rowsF_get f hq]
   by_cases e:k=q
   · subst e;rw [if_pos rfl,if_pos hk,h1]
   · rw [if_neg e,h2 q hq (fun h=>e h.symm)]
 · rw [List.getElem?_eq_none (by simp [rowsF_length];omega),List.getElem?_eq_none (by rw [rowsF_length];omega)]
theorem rowsF_congr {f g:Nat→List Int} (h:∀ q,q<60→f q=g q):rowsF f=rowsF g:=List.map_congr_left (fun q hq=>h q (List.mem_range.1 hq))
theorem zeroRows_F:zeroRows=rowsF (fun _=>zeros):=by unfold zeroRows rowsF;rw [List.map_const',List.length_range]
def neg (l:List Bnd) (r p:Nat):Bool:=decide (at_ (rounds l r (startL p)) p<0)
def scanP (l:List Bnd) (r:Nat):Nat→Nat→Option Nat
 | 0,_=>none
 | n+1,p=>if neg l (r+1) p=true then some p else scanP l r n (p+1)
def scanR (l:List Bnd) (P:Nat):Nat→Nat→Option (Nat × Nat)
 | 0,_=>none
 | n+1,r=>match scanP l r P 0 with|some p=>some (r+1,p)|none=>scanR l P n (r+1)
def circleO (l:List Bnd) (P:Nat):Option (List Nat):=(scanR l P P 0).map (fun q=>backL l (startL q.2) q.1 q.2)
def circleL (l:List Bnd) (P:Nat):List Int:=((circleO l P).getD []).map (fun i:Nat=>(i:Int))
theorem scanP_step {l:List Bnd} {r P k:Nat} (h:k<P):scanP l r (P-k) k=if neg l (r+1) k=true then some k else scanP l r (P-(k+1)) (k+1):=by
 obtain ⟨d,hd⟩:∃ d,P-k=d+1:=⟨P-k-1,by omega⟩
 rw [hd,show P-(k+1)=d from by omega]
 rfl
theorem scanR_step {l:List Bnd} {P r:Nat} (h:r<P):scanR l P (P-r) r=match scanP l r P 0 with|some p=>some (r+1,p)|none=>scanR l P (P-(r+1)) (r+1):=by
 obtain ⟨d,hd⟩:∃ d,P-r=d+1:=⟨P-r-1,by omega⟩
 rw [hd,show P-(r+1)=d from by omega]
 rfl
theorem neg_zero (l:List Bnd) {p:Nat} (hp:p<60):neg l 0 p=false:=by
 unfold neg rounds
 rw [at_startL hp p hp,if_pos rfl]
 rfl
section
variable {P:Program} {op:Oper} {a:Act} {w:World} {Q:Exit→Act→World→Prop}
theorem wp_load_mid_arr {K:Act→World→Prop} (ty:TypeId) (x:Operand) (ho:op.op=.load ty x) (b o:Nat) (hx:a.eval x=.pointer (some ⟨b,o,none⟩)) {r:List Int} (d:TypeDesc) (hc:w.rangeAt b o (r.map (Value.int .i64)))
 (hu:P.underlying ty=some d) (hd:d.isRow=true) (hi:(P.info? ty).map (·.size)=some (r.map (Value.int .i64)).length) (h:K (a.put op.dst (.agg (arr r))) w):op.wp P a w K Q :=
 wp_load_mid ty x ho b o hx _ d hc hu hd hi h
theorem wp_store_mid_arr {K:Act→World→Prop} (ty:TypeId) (x y:Operand) (ho:op.op=.store ty x y) (b o:Nat) {r:List Int} (hr:r.length=60) (hx:a.eval x=.pointer (some ⟨b,o,none⟩)) (hy:a.eval y=.agg (arr r)) (ht:w.there b o 60)
 (hi:(P.info? ty).map (·.size)=some (arr r).size) (h:K (a.put op.dst undef) (w.setCells b o (r.map (Value.int .i64)))):op.wp P a w K Q :=
 wp_store_mid ty x y ho b o (arr r) hx hy (by rw [arr_size,hr];exact ht) hi (arr_one r) h
theorem wpList_store_mid_arr {ops:Array Oper} {rest:List Oper} (hgd:op.guard=none) (ty:TypeId) (x y:Operand) (ho:op.op=.store ty x y) (b o:Nat) {r:List Int} (hr:r.length=60) (hx:a.eval x=.pointer (some ⟨b,o,none⟩)) (hy:a.eval y=.agg (arr r)) (ht:w.there b o 60)
 (hi:(P.info? ty).map (·.size)=some (arr r).size) (h:wpList P ops Q rest (a.put op.dst undef) (w.setCells b o (r.map (Value.int .i64)))):wpList P ops Q (op::rest) a w :=
 wpList_store_mid hgd ty x y ho b o (arr r) hx hy (by rw [arr_size,hr];exact ht) hi (arr_one r) h
end
def RetB (V:List Int) (ok:Bool) (w:World) (e:Ending) (w':World):Prop :=
 ∃ A n c,e=.returned (.tuple #[.slice A n c,.bool ok])∧OwnI w' w.heap.size A n c V∧Below w.heap.size w w'
def fStart (k q:Nat):List Int:=if q<k then startL q else zeros
def fRound (l:List Bnd) (P r k q:Nat):List Int:=if q<P then rounds l (if q<k then r+1 else r) (startL q) else zeros
theorem fStart_length (k q:Nat):(fStart k q).length=60:=by unfold fStart;split;exact startL_length q;rfl
theorem fRound_length (l:List Bnd) (P r k q:Nat):(fRound l P r k q).length=60:=by unfold fRound;split;rw [rounds_length];exact startL_length q;rfl
theorem fRound_start (l:List Bnd) (P:Nat):rowsF (fStart P)=rowsF (fRound l P 0 0):=rowsF_congr (fun q _=>by unfold fStart fRound;simp [rounds])
theorem fRound_next (l:List Bnd) (P r:Nat):rowsF (fRound l P r P)=rowsF (fRound l P (r+1) 0):=rowsF_congr (fun q _=>by
 unfold fRound
 by_cases h:q<P
 · rw [if_pos h,if_pos h,if_pos h,if_neg (by omega)]
 · rw [if_neg h,if_neg h])
theorem fRound_set (l:List Bnd) {P r k:Nat} (hk:k<60) (hP:k<P):(rowsF (fRound l P r k)).set k (rounds l (r+1) (startL k))=rowsF (fRound l P r (k+1)):=rowsF_set _ _ hk (by unfold fRound;rw [if_pos hP,if_pos (by omega)]) (fun q _ hq=>by
 unfold fRound
 by_cases h:q<P
 · rw [if_pos h,if_pos h]
   by_cases h2:q<k
   · rw [if_pos h2,if_pos (by omega)]
   · rw [if_neg h2,if_neg (by omega)]
 · rw [if_neg h,if_neg h])
theorem fStart_set {k:Nat} (hk:k<60):(rowsF (fStart k)).set k (startL k)=rowsF (fStart (k+1)):=rowsF_set _ _ hk (by unfold fStart;rw [if_pos (by omega)]) (fun q _ hq=>by
 unfold fStart
 by_cases h:q<k
 · rw [if_pos h,if_pos (by omega)]
 · rw [if_neg h,if_neg (by omega)])
set_option maxRecDepth 100000 in
set_option maxHeartbeats 4000000 in
theorem circle_any (P:Nat) (A:Option Addr) (n c:Nat) (l:List Bnd) (hP:P≤60) (hn400:n≤402) (hok:OkB l) (w:World) (hr:RdB w A n c l) :
 Calls Tryz.prog 106 #[.agg #[.int .i64 (P:Int),.slice A n c]] w (RetB (circleL l P) (circleO l P).isSome w):=by
 have HR:=hid hr;have HOK:=hid hok;clear hr hok
 have b0:=(Blk.new w 133 #[.int .i64 (P:Int),.slice A n c]).alloc (.cells (arr (flat (rowsF (fStart 0)))) 206)
 have b1:=Blk.new (w.alloc (.cells #[.int .i64 (P:Int),.slice A n c] 133)) 206 (arr (flat (rowsF (fStart 0))))
 simp only [World.size_alloc] at b1
 have hB:Below w.heap.size w ((w.alloc (.cells #[.int .i64 (P:Int),.slice A n c] 133)).alloc (.cells (arr (flat (rowsF (fStart 0)))) 206)):=((Below.refl _ w).alloc (Nat.le_refl _) _).alloc (by simp) _
 have hz:=zero_rows.1
 have h0:zeroRows=rowsF (fStart 0):=by rw [zeroRows_F];exact rowsF_congr (fun q _=>by simp [fStart])
 rw [h0] at hz
 have B0:=hid b0;have B1:=hid b1;have HZ:=hid hz;clear b0 b1 hz h0
 obtain ⟨O,hO⟩:∃ O,scanR l P P 0=O:=⟨_,rfl⟩
 have hO2:circleO l P=O.map (fun q=>backL l (startL q.2) q.1 q.2):=by unfold circleO;rw [hO]
 have HO:=hid hO;have HO2:=hid hO2;clear hO hO2
 go_enter Tryz.func106,Tryz.ntmps106
 go_wp2
 go_step3
 go_wp2_with (first | (refine wpList_alloc_row rfl 206 rfl (arr (flat (rowsF (fStart 0)))) HZ.out ?_;simp only [World.size_alloc]))
 have k0:((w.alloc (.cells #[.int .i64 (P:Int),.slice A n c] 133)).alloc (.cells (arr (flat (rowsF (fStart 0)))) 206)).cell? ⟨w.heap.size,0,none⟩=some (.int .i64 (P:Int)):=B0.out.cell 0
 go_loopw [10] (fun i wr=>∃ k:Nat,k≤P∧i=.int .i64 k∧Blk wr w.heap.size 133 #[.int .i64 (P:Int),.slice A n c]∧Blk wr (w.heap.size+1) 206 (arr (flat (rowsF (fStart k))))∧Below w.heap.size w wr) (fun i _=>P-(intOf i).toNat)
 case atStart=>exact ⟨0,Nat.zero_le _,rfl,B0.out,B1.out,hB⟩
 case round =>
  obtain ⟨k,hk,rfl,c0,c1,hbr⟩:=hrel
  have C0:=hid c0;have C1:=hid c1;clear c0 c1
  by_cases hlt:k<P
  · have hlt':(k:Int)<P:=by omega
    have hk60:k<60:=by omega
    have hk60':(k:Int)<60:=by omega
    go_wp2_with fail
    refine (start_any k hk60 wr).mono ?_
    rintro e w1 ⟨rfl,hb1⟩
    have D1:=hid (C1.out.keep hb1)
    go_wp2_with (refine wpList_store_mid_arr rfl 196 (.tmp 16) (.tmp 15) rfl (w.heap.size+1) (k * 60) (r:=startL k) (startL_length k) rfl rfl (Blk.there D1.out (rowsF_sixty (fun q _=>fStart_length k q)) (by rw [rowsF_length];exact hk60)) (size_sums (startL_length k)) ?_)
    go_roundw
    case rel=>exact ⟨k+1,by omega,by go_num,(C0.out.keep hb1).farRow (by omega) _ _,by rw [← fStart_set hk60];exact D1.out.rowSet (rowsF_sixty (fun q _=>fStart_length k q)) (by rw [rowsF_length];exact hk60) (startL_length k),below_setCells (by omega) _ _ _ (hbr.trans (hb1.mono hbr.size))⟩
    case measure=>simp [intOf];omega
  · obtain rfl:k=P:=by omega
    rw [fRound_start l k] at C1
    have k0:wr.cell? ⟨w.heap.size,0,none⟩=some (.int .i64 (k:Int)):=C0.out.cell 0
    go_wp2
    go_step3
    have hP':k≤60:=hP
    obtain ⟨P,hPk⟩:∃ P,P=k:=⟨_,rfl⟩
    subst hPk
    have hk1:wr.cell? ⟨w.heap.size,1,none⟩=some (.slice A n c):=C0.out.cell 1
    go_wp2
    obtain ⟨wP,hwP⟩:∃ wP,wP=wr:=⟨_,rfl⟩
    subst hwP
    go_loopw [22,6] (fun i fv wr=>∃ r:Nat,r≤P∧i=.int .i64 r∧fv=.int .i64 (P:Int)∧scanR l P (P-r) r=O∧(∀ j,j≤r→∀ q,q<P→neg l j q=false)∧Blk wr w.heap.size 133 #[.int .i64 (P:Int),.slice A n c]∧Blk wr (w.heap.size+1) 206 (arr (flat (rowsF (fRound l P r 0))))∧Below w.heap.size w wr) (fun i _ _=>P-(intOf i).toNat)
    case atStart=>exact ⟨0,Nat.zero_le _,rfl,rfl,HO.out,fun j hj q hq=>(by obtain rfl:j=0:=(by omega);exact neg_zero l (by omega)),C0.out,C1.out,hbr⟩
    case round =>
     obtain ⟨r,hr60,rfl,rfl,hsc,hnn,c0,c1,hbr2⟩:=hrel
     have HSC:=hid hsc;have HNN:=hid hnn;have D0:=hid c0;have D1:=hid c1;clear hsc hnn c0 c1
     have k2:wr.cell? ⟨w.heap.size,0,none⟩=some (.int .i64 (P:Int)):=D0.out.cell 0
     by_cases hrP:r<P
     · have hrP':(r:Int)<P:=by omega
       go_wp2
       obtain ⟨wQ,hwQ⟩:∃ wQ,wQ=wr:=⟨_,rfl⟩
       subst hwQ
       go_loopw [26,6] (fun i fv wr=>∃ k:Nat,k≤P∧i=.int .i64 k∧fv=.int .i64 (P:Int)∧scanP l r (P-k) k=scanP l r P 0∧(∀ q,q<k→neg l (r+1) q=false)∧Blk wr w.heap.size 133 #[.int .i64 (P:Int),.slice A n c]∧Blk wr (w.heap.size+1) 206 (arr (flat (rowsF (fRound l P r k))))∧Below w.heap.size w wr) (fun i _ _=>P-(intOf i).toNat)
       case atStart=>exact ⟨0,Nat.zero_le _,rfl,rfl,rfl,fun q hq=>absurd hq (Nat.not_lt_zero q),D0.out,D1.out,hbr2⟩
       case round =>
        obtain ⟨k,hkl,rfl,rfl,hsp,hnp,c0,c1,hbr3⟩:=hrel
        have HSP:=hid hsp;have HNP:=hid hnp;clear hsp hnp
        by_cases hkP:k<P
        · have hkP':(k:Int)<P:=by omega
          have hk60:k<60:=by omega
          have hk60':(k:Int)<60:=by omega
          have hget:=rowsF_get (fRound l P r k) hk60
          rw [show fRound l P r k k=rounds l r (startL k) from by unfold fRound;rw [if_pos hkP,if_neg (by omega)]] at hget
          have HGET:=hid hget;clear hget
          have hlr:(rounds l r (startL k)).length=60:=by rw [rounds_length];exact startL_length k
          have hlr1:(rounds l (r+1) (startL k)).length=60:=by rw [rounds_length];exact startL_length k
          have HLR:=hid hlr;have HLR1:=hid hlr1;clear hlr hlr1
          have hlo:=fun w' hw'=>longer_any (P:Int) A n c l (rounds l r (startL k)) HLR.out hn400 HOK.out (fun i hi=>by
           rcases ((wdk_rounds HOK.out (Int.le_refl 0) (wd_startL (Int.le_refl 0) hk60) r)).2 i hi with h|h
           · exact .inl h
           · exact .inr (by omega)) w' hw'
          rw [show longer l (rounds l r (startL k))=rounds l (r+1) (startL k) from rfl] at hlo
          have HLO:=hid hlo;clear hlo
          have C0:=hid c0.drew;have C1:=hid c1.drew;have HBE:=hid hbr3.drew;have RD1:=hid (HR.out.below hbr3).drew
          clear c0 c1 hbr3
          go_wp2
          refine wp_region_any (by kernel_rfl) ?_
          change wpAny _ _ _ _ _ _ _ (World.drew _)
          obtain ⟨a5,a2⟩:∃ w',w'=wr.drew:=⟨_,rfl⟩
          rw [← a2] at C0 C1 HBE RD1
          rw [← a2]
          clear a2
          refine' twY 0 ?_
          refine' twY 2 ?_
          refine' twY 3 ?_
          try simp only [pq]
          refine wpAny_ready (rs:=[1,4]) (by kernel_rfl) (by simp) ?_
          refine rdY rfl (fun K hK=>?_) ?_
          · -- 1: load
           rw [if_pos (by rfl)]
           refine wp_load_row 133 (.tmp 1) rfl w.heap.size rfl 133 #[.int .i64 (P:Int),.slice A n c] (0,0) _ C0.out Tryz.underlying133 rfl (by kernel_rfl) ?_
           refine hK _ _ ?_;clear hK K
           try simp only [pq]
           refine oneY 4 rfl fun K hK=>?_
           rw [if_pos (by rfl)]
           refine wp_load_mid_arr 196 (.tmp 32) rfl (w.heap.size+1) (k * 60) rfl (r:=rounds l r (startL k)) _ (Blk.range (C1.out) (rowsF_sixty (fun q _=>fRound_length l P r k q)) HGET.out) Tryz.underlying196 rfl (size_map HLR.out) ?_
           refine hK _ _ ?_;clear hK K
           try simp only [pq]
           refine oneY 5 rfl fun K hK=>?_
           go_simp
           go_at_call 139
           refine (HLO.out _ RD1.out).mono ?_
           rintro e a3 ⟨rfl,a0⟩
           dsimp only
           replace a0:=hid a0
           refine hK _ _ ?_;clear hK K
           try simp only [pq]
           refine' twY 6 ?_
           try simp only [pq]
           refine oneY 7 rfl fun K hK=>?_
           replace C1:=kH C1 a0
           replace HBE:=bH HBE a0
           replace C0:=kH C0 a0
           rw [if_pos (by rfl)]
           refine wp_store_mid_arr 196 (.tmp 35) (.tmp 34) rfl (w.heap.size+1) (k * 60) (r:=rounds l (r+1) (startL k)) HLR1.out rfl rfl (Blk.there (C1.out) (rowsF_sixty (fun q _=>fRound_length l P r k q)) (by rw [rowsF_length];exact hk60)) (size_sums HLR1.out) ?_
           refine hK _ _ ?_;clear hK K
           try simp only [pq]
           refine wpAny_done (by kernel_rfl) ?_ _
           have hb1:=Blk.rowSet (C1.out) (rowsF_sixty (fun q _=>fRound_length l P r k q)) (k:=k) (by rw [rowsF_length];exact hk60) HLR1.out
           rw [fRound_set l hk60 hkP] at hb1
           have hb0:=Blk.farRow (C0.out) (b:=w.heap.size+1) (by omega) (k * 60) ((rounds l (r+1) (startL k)).map (Value.int .i64))
           have hbe:=below_setCells (b:=w.heap.size+1) (by omega) ((rounds l (r+1) (startL k)).map (Value.int .i64)) (k * 60) _ HBE.out
           generalize (a3.setCells (w.heap.size+1) (k * 60) ((rounds l (r+1) (startL k)).map (Value.int .i64)))=wq at *
           have hcell:wq.cell? ⟨w.heap.size+1,k * 60+k,none⟩=some (.int .i64 (at_ (rounds l (r+1) (startL k)) k)):=by
            have hget:=rowsF_get (fRound l P r (k+1)) hk60
            rw [show fRound l P r (k+1) k=rounds l (r+1) (startL k) from by unfold fRound;rw [if_pos hkP,if_pos (by omega)]] at hget
            exact Blk.at hb1 (rowsF_sixty (fun q _=>fRound_length l P r (k+1) q)) hget hk60
           have hneg:neg l (r+1) k=decide (at_ (rounds l (r+1) (startL k)) k<0):=rfl
           have hwk:=walk_any (P:Int) k k (r+1) (-1) A n c l hk60 hk60 (by omega) hn400 HOK.out
           have hbe1:=hbe.size
           obtain ⟨v,hv⟩:∃ v,at_ (rounds l (r+1) (startL k)) k=v:=⟨_,rfl⟩
           rw [hv] at hcell hneg hwk
           have HB0:=hid hb0;have HB1:=hid hb1;have HBE2:=hid hbe;have HWK:=hid hwk;have HNEG:=hid hneg;clear hb0 hb1 hbe hwk hneg hv
           have hl1:=HB1.out.lt
           have g0:wq.cell? ⟨w.heap.size,0,none⟩=some (.int .i64 (P:Int)):=HB0.out.cell 0
           have g1:wq.cell? ⟨w.heap.size,1,none⟩=some (.slice A n c):=HB0.out.cell 1
           by_cases hn:v<0
           · have hO:O=some (r+1,k):=by
              rw [← HSC.out,scanR_step hrP,← HSP.out,scanP_step hkP,if_pos (by rw [HNEG.out];exact decide_eq_true hn)]
             rw [hO] at HO2
             have hkne:((k:Int) == (P:Int))=false:=by simp;omega
             go_wp2_with fail
             refine (HWK.out (by omega) (fun j hj=>?_) wq (HR.out.below HBE2.out)).mono ?_
             · have h1:=HNN.out j (by omega) k hkP
               unfold neg at h1
               have h2:=of_decide_eq_false h1
               omega
             rintro e w3 ⟨g3,rfl,ho3,hb3⟩
             have HO3:=hid ho3;clear ho3
             go_wp2
             rw [Exit.noGoto_ret]
             go_ret2
             refine ⟨some ⟨g3,0,none⟩,r+1,r+1,(by rw [HO2.out];rfl),?_,HBE2.out.trans (hb3.mono HBE2.out.size)⟩
             unfold circleL
             rw [HO2.out]
             exact owns_base HO3.out HBE2.out.size
           · go_wp2
             go_roundw
             case rel=>exact ⟨k+1,by omega,by go_num,rfl,by rw [← HSP.out,scanP_step (l:=l) (r:=r) hkP,if_neg (by rw [HNEG.out];simpa using hn)],fun q hq=>(by rcases Nat.lt_or_ge q k with h|h;exact HNP.out q h;obtain rfl:q=k:=(by omega);rw [HNEG.out];exact decide_eq_false hn),HB0.out,HB1.out,HBE2.out⟩
             case measure=>(simp [intOf];omega)
          refine rdY rfl (fun K hK=>?_) ?_
          · -- 4: load
           rw [if_pos (by rfl)]
           refine wp_load_mid_arr 196 (.tmp 32) rfl (w.heap.size+1) (k * 60) rfl (r:=rounds l r (startL k)) _ (Blk.range (C1.out) (rowsF_sixty (fun q _=>fRound_length l P r k q)) HGET.out) Tryz.underlying196 rfl (size_map HLR.out) ?_
           refine hK _ _ ?_;clear hK K
           try simp only [pq]
           refine oneY 1 rfl fun K hK=>?_
           rw [if_pos (by rfl)]
           refine wp_load_row 133 (.tmp 1) rfl w.heap.size rfl 133 #[.int .i64 (P:Int),.slice A n c] (0,0) _ C0.out Tryz.underlying133 rfl (by kernel_rfl) ?_
           refine hK _ _ ?_;clear hK K
           try simp only [pq]
           refine oneY 5 rfl fun K hK=>?_
           go_simp
           go_at_call 139
           refine (HLO.out _ RD1.out).mono ?_
           rintro e a4 ⟨rfl,a1⟩
           dsimp only
           replace a1:=hid a1
           refine hK _ _ ?_;clear hK K
           try simp only [pq]
           refine' twY 6 ?_
           try simp only [pq]
           refine oneY 7 rfl fun K hK=>?_
           replace C1:=kH C1 a1
           replace HBE:=bH HBE a1
           replace C0:=kH C0 a1
           rw [if_pos (by rfl)]
           refine wp_store_mid_arr 196 (.tmp 35) (.tmp 34) rfl (w.heap.size+1) (k * 60) (r:=rounds l (r+1) (startL k)) HLR1.out rfl rfl (Blk.there (C1.out) (rowsF_sixty (fun q _=>fRound_length l P r k q)) (by rw [rowsF_length];exact hk60)) (size_sums HLR1.out) ?_
           refine hK _ _ ?_;clear hK K
           try simp only [pq]
           refine wpAny_done (by kernel_rfl) ?_ _
           have hb1:=Blk.rowSet (C1.out) (rowsF_sixty (fun q _=>fRound_length l P r k q)) (k:=k) (by rw [rowsF_length];exact hk60) HLR1.out
           rw [fRound_set l hk60 hkP] at hb1
           have hb0:=Blk.farRow (C0.out) (b:=w.heap.size+1) (by omega) (k * 60) ((rounds l (r+1) (startL k)).map (Value.int .i64))
           have hbe:=below_setCells (b:=w.heap.size+1) (by omega) ((rounds l (r+1) (startL k)).map (Value.int .i64)) (k * 60) _ HBE.out
           generalize (a4.setCells (w.heap.size+1) (k * 60) ((rounds l (r+1) (startL k)).map (Value.int .i64)))=wq at *
           have hcell:wq.cell? ⟨w.heap.size+1,k * 60+k,none⟩=some (.int .i64 (at_ (rounds l (r+1) (startL k)) k)):=by
            have hget:=rowsF_get (fRound l P r (k+1)) hk60
            rw [show fRound l P r (k+1) k=rounds l (r+1) (startL k) from by unfold fRound;rw [if_pos hkP,if_pos (by omega)]] at hget
            exact Blk.at hb1 (rowsF_sixty (fun q _=>fRound_length l P r (k+1) q)) hget hk60
           have hneg:neg l (r+1) k=decide (at_ (rounds l (r+1) (startL k)) k<0):=rfl
           have hwk:=walk_any (P:Int) k k (r+1) (-1) A n c l hk60 hk60 (by omega) hn400 HOK.out
           have hbe1:=hbe.size
           obtain ⟨v,hv⟩:∃ v,at_ (rounds l (r+1) (startL k)) k=v:=⟨_,rfl⟩
           rw [hv] at hcell hneg hwk
           have HB0:=hid hb0;have HB1:=hid hb1;have HBE2:=hid hbe;have HWK:=hid hwk;have HNEG:=hid hneg;clear hb0 hb1 hbe hwk hneg hv
           have hl1:=HB1.out.lt
           have g0:wq.cell? ⟨w.heap.size,0,none⟩=some (.int .i64 (P:Int)):=HB0.out.cell 0
           have g1:wq.cell? ⟨w.heap.size,1,none⟩=some (.slice A n c):=HB0.out.cell 1
           by_cases hn:v<0
           · have hO:O=some (r+1,k):=by
              rw [← HSC.out,scanR_step hrP,← HSP.out,scanP_step hkP,if_pos (by rw [HNEG.out];exact decide_eq_true hn)]
             rw [hO] at HO2
             have hkne:((k:Int) == (P:Int))=false:=by simp;omega
             go_wp2_with fail
             refine (HWK.out (by omega) (fun j hj=>?_) wq (HR.out.below HBE2.out)).mono ?_
             · have h1:=HNN.out j (by omega) k hkP
               unfold neg at h1
               have h2:=of_decide_eq_false h1
               omega
             rintro e w3 ⟨g3,rfl,ho3,hb3⟩
             have HO3:=hid ho3;clear ho3
             go_wp2
             rw [Exit.noGoto_ret]
             go_ret2
             refine ⟨some ⟨g3,0,none⟩,r+1,r+1,(by rw [HO2.out];rfl),?_,HBE2.out.trans (hb3.mono HBE2.out.size)⟩
             unfold circleL
             rw [HO2.out]
             exact owns_base HO3.out HBE2.out.size
           · go_wp2
             go_roundw
             case rel=>exact ⟨k+1,by omega,by go_num,rfl,by rw [← HSP.out,scanP_step (l:=l) (r:=r) hkP,if_neg (by rw [HNEG.out];simpa using hn)],fun q hq=>(by rcases Nat.lt_or_ge q k with h|h;exact HNP.out q h;obtain rfl:q=k:=(by omega);rw [HNEG.out];exact decide_eq_false hn),HB0.out,HB1.out,HBE2.out⟩
             case measure=>(simp [intOf];omega)
          exact AllReady.nil
        · obtain rfl:k=P:=by omega
          rw [fRound_next] at c1
          have C0:=hid c0;have C1:=hid c1;clear c0 c1
          have hsc2:scanR l k (k-(r+1)) (r+1)=O:=by
           rw [← HSC.out,scanR_step hrP,← HSP.out,Nat.sub_self]
           rfl
          have HSC2:=hid hsc2;clear hsc2
          go_wp2
          go_roundw
          case rel=>exact ⟨r+1,by omega,by go_num,rfl,HSC2.out,fun j hj q hq=>(by rcases Nat.lt_or_ge r j with h|h;obtain rfl:j=r+1:=(by omega);exact HNP.out q hq;exact HNN.out j h q hq),C0.out,C1.out,hbr3⟩
          case measure=>simp [intOf];omega
     · obtain rfl:r=P:=by omega
       have hO:O=none:=by rw [← HSC.out,Nat.sub_self];rfl
       rw [hO] at HO2
       go_wp2
       rw [Exit.noGoto_ret]
       go_ret2
       refine ⟨none,0,0,(by rw [HO2.out];rfl),?_,hbr2⟩
       unfold circleL
       rw [HO2.out]
       exact OwnI.nil_ _ _
end Go.Proofs.YtebkniakflhhkaaGreatDoor
