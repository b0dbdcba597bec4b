import Derived.Deep.OwnRows
import Derived.Test.YtebkniakflhhkaaGreatDoorAFrom
import Derived.Test.YtebkniakflhhkaaGreatDoorAJoined
import Derived.Test.YtebkniakflhhkaaGreatDoorAStep
set_option linter.unusedSimpArgs false
set_option linter.unusedVariables false
namespace Go.Proofs.YtebkniakflhhkaaGreatDoor
open Go.Lib (hid)
open Go.RowKit
def frm (l:List Bnd) (i:Nat):Int:=match l[i]? with|some b=>b.f|none=>0
def backL (l:List Bnd) (x0:List Int):Nat→Int→List Nat
 | 0,_=>[]
 | k+1,b=>backL l x0 k (frm l (stepL l (rounds l k x0) b (look (rounds l (k+1) x0) b)))++[stepL l (rounds l k x0) b (look (rounds l (k+1) x0) b)]
theorem outs_mem {l:List Bnd} {x:List Int} {n i:Nat} {s:Int}:(i,s)∈outs l x n ↔ i<n∧∃ c,l[i]?=some c∧look x c.f≠Inf∧s=look x c.f+c.m:=by
 unfold outs
 rw [List.mem_filterMap]
 constructor
 · rintro ⟨j,hj,ho⟩
   rw [List.mem_range] at hj
   unfold out at ho
   cases hc:l[j]? with
   | none=>rw [hc] at ho;cases ho
   | some c =>
    rw [hc] at ho
    simp only at ho
    by_cases hI:look x c.f=Inf
    · rw [if_pos hI] at ho;cases ho
    · rw [if_neg hI] at ho
      injection ho with ho
      injection ho with e1 e2
      subst e1
      exact ⟨hj,c,hc,hI,e2.symm⟩
 · rintro ⟨hi,c,hc,hI,rfl⟩
   refine ⟨i,List.mem_range.2 hi,?_⟩
   unfold out
   rw [hc]
   simp only
   rw [if_neg hI]
theorem hit_spec {l:List Bnd} {to want:Int} {q:Nat × Int} (h:hit l to want q=true):∃ c,l[q.1]?=some c∧c.t=to∧q.2=want:=by
 unfold hit at h
 cases hc:l[q.1]? with
 | none=>rw [hc] at h;cases h
 | some c=>rw [hc] at h;simp only [decide_eq_true_eq] at h;exact ⟨c,rfl,h⟩
theorem step_spec {l:List Bnd} {x:List Int} {b:Int} (hok:OkB l) (hb0:0≤b) (hlt:look (longer l x) b<look x b) :
 ∃ c,l[stepL l x b (look (longer l x) b)]?=some c∧c.t=b∧look x c.f≠Inf∧look x c.f+c.m=look (longer l x) b:=by
 rw [look_eq,look_eq] at hlt
 rcases longer_cases l x b.toNat with h|⟨c,hc,hI,ht,hv⟩
 · omega
 obtain ⟨i,hi,hci⟩:=List.mem_iff_getElem.1 hc
 have hci':l[i]?=some c:=by rw [List.getElem?_eq_getElem hi,hci]
 obtain ⟨_,_,t0,_,_,_⟩:=hok c hc
 have hmem:(i,look x c.f+c.m)∈outs l x l.length:=outs_mem.2 ⟨hi,c,hci',hI,rfl⟩
 have hhit:hit l b (look (longer l x) b) (i,look x c.f+c.m)=true:=by
  unfold hit
  rw [hci']
  simp only [decide_eq_true_eq]
  exact ⟨by omega,by rw [look_eq (longer l x),hv]⟩
 cases hf:(outs l x l.length).find? (hit l b (look (longer l x) b)) with
 | none=>exact absurd hhit (by have:=List.find?_eq_none.1 hf _ hmem;simpa using this)
 | some q =>
  have hq:=List.find?_some hf
  have hm:=List.mem_of_find?_eq_some hf
  obtain ⟨c',hc',ht',hs'⟩:=hit_spec hq
  obtain ⟨_,c2,hc2,hI2,hs2⟩:=outs_mem.1 (show (q.1,q.2)∈outs l x l.length from hm)
  rw [hc'] at hc2
  injection hc2 with hc2
  subst hc2
  refine ⟨c',?_,ht',hI2,by rw [← hs2,hs']⟩
  unfold stepL
  rw [hf]
  exact hc'
theorem strict_next {l:List Bnd} {x0:List Int} {k:Nat} {c:Bnd} (hx:x0.length=60) (hok:OkB l) (hc:c∈l) (hI:look (rounds l (k+1) x0) c.f≠Inf)
 (hv:look (rounds l (k+1) x0) c.f+c.m=look (rounds l (k+2) x0) c.t) (hlt:look (rounds l (k+2) x0) c.t<look (rounds l (k+1) x0) c.t) :
 look (rounds l (k+1) x0) c.f<look (rounds l k x0) c.f:=by
 have h1:=rounds_le_step l x0 k c.f.toNat
 obtain ⟨_,_,t0,t1,_,_⟩:=hok c hc
 rw [← look_eq,← look_eq] at h1
 rcases Int.lt_or_eq_of_le h1 with h|h
 · exact h
 · have h2:=longer_edge (l:=l) (x:=rounds l k x0) (c:=c) hc (by rw [← h];exact hI) (by rw [rounds_length,hx];omega)
   rw [← look_eq] at h2
   have h3:look (rounds l (k+1) x0) c.t≤look (rounds l k x0) c.f+c.m:=h2
   omega
theorem wdk_rounds {l:List Bnd} (hok:OkB l) {r:Int} (hr:0≤r) {x:List Int} (h:Wd r x):∀ k:Nat,Wd (r+k * 100000000) (rounds l k x)
 | 0=>by show Wd _ x;simpa using h
 | k+1=>by
  have:=(wdk_rounds hok hr h k).longer hok (by omega)
  rw [show r+(k:Int) * 100000000+100000000=r+((k+1:Nat):Int) * 100000000 from by omega] at this
  exact this
theorem Wd.le {r s:Int} {x:List Int} (h:Wd r x) (hrs:r≤s):Wd s x:=⟨h.1,fun i hi=>by
 rcases h.2 i hi with h1|h1
 · exact .inl h1
 · exact .inr (by omega)⟩
def rowsL (l:List Bnd) (x0:List Int) (k:Nat):List (List Int):=(List.range (k+1)).map (fun j=>rounds l j x0)
theorem rowsL_succ (l:List Bnd) (x0:List Int) (k:Nat):rowsL l x0 (k+1)=rowsL l x0 k++[rounds l (k+1) x0]:=by
 unfold rowsL
 rw [List.range_succ,List.map_append]
 rfl
theorem rowsL_get (l:List Bnd) (x0:List Int) {k j:Nat} (h:j≤k):(rowsL l x0 k)[j]?=some (rounds l j x0):=by
 unfold rowsL
 rw [List.getElem?_map,List.getElem?_range (by omega)]
 rfl
theorem rowsL_sixty {l:List Bnd} {x0:List Int} (hx:x0.length=60) (k:Nat):Sixty (rowsL l x0 k):=fun r hr=>by
 unfold rowsL at hr
 obtain ⟨j,_,rfl⟩:=List.mem_map.1 hr
 rw [rounds_length,hx]
theorem made_arr (n:Nat):madeCells #[.int .i64 0] n=arr (List.replicate n 0):=by
 apply Array.toList_inj.1
 rw [toList_madeCells_one]
 simp [arr]
theorem wpList_make_ints {w:World} {ops:Array Oper} {rest:List Oper} {o:Oper} {a:Act} {Q:Exit→Act→World→Prop}
 (hg:o.guard=none) (l c:Operand) (hop:o.op=Op.makeSlice 51 l c) (L C:Int) (n:Nat) (hl:a.eval l=.int .i64 L) (hc:a.eval c=.int .i64 C) (hL:L=(n:Int)) (hC:C=(n:Int)) (hn:n≤100000)
 (hK:wpList Tryz.prog ops Q rest (a.put o.dst (.slice (some ⟨w.heap.size,0,none⟩) n n)) (w.alloc (.cells (arr (List.replicate n 0)) 3))) :
 wpList Tryz.prog ops Q (o::rest) a w:=by
 subst hL hC
 obtain ⟨i,hi,hz,hs,hb⟩:=info_parts (show (Tryz.prog.info? 3).map (fun i=>(i.zero,i.size,i.bytes))=some (some (.int .i64 0),1,8) by kernel_rfl)
 refine wpList_make_row w hg l c _ hop 3 i _ Tryz.underlying51 hi hz hs rfl .i64 .i64 n hl hc (by rw [hb];omega) (by omega) ?_
 rw [made_arr]
 exact hK
theorem own_of_blk {w:World} {g base:Nat} {L:List Int} (h:Blk w g 3 (arr L)) (hb:base≤g) {n:Nat} (hn:L.length=n) (hm:n≤maxLen):OwnI w base (some ⟨g,0,none⟩) n n L:=by
 subst hn
 exact ⟨by simp,.inr ⟨g,L.length,arr L,rfl,hb,h,Nat.le_refl _,hm,by simp [arr_size],by simp only [arr];exact List.take_of_length_le (by simp)⟩⟩
theorem wpList_build_one {w:World} {ops:Array Oper} {rest:List Oper} {o:Oper} {a:Act} {Q:Exit→Act→World→Prop} (hgd:o.guard=none) (x:Operand) (ho:o.op=.buildSlice 229 1 #[(0,x)]) {z:List Int} (hx:a.eval x=.agg (arr z)) (hz:z.length=60)
 (h:wpList Tryz.prog ops Q rest (a.put o.dst (.slice (some ⟨w.heap.size,0,none⟩) 1 1)) (w.alloc (.cells (arr z) 196))):wpList Tryz.prog ops Q (o::rest) a w :=
 wpList_plain hgd fun K hK=>by
  unfold Oper.wp execOp
  simp only [ho,List.map_toArray,List.map_cons,List.map_nil,hx,Sem.run_bind,run_build_one w hz,Result.andThen_ok]
  exact hK _ _ h
theorem own_rows {w:World} {base n:Nat} {v:Value} {rs:List (List Int)} (h:w.ownsRow base 196 60 v n ((flat rs).map (Value.int .i64))) (hn:0<n) (hs:Sixty rs) :
 ∃ g cap cur,v=.slice (some ⟨g,0,none⟩) n cap∧n≤cap∧base≤g∧Blk w g 196 cur∧∀ k r,rs[k]?=some r→∀ j,j<60→cur[k * 60+j]?=some (.int .i64 (at_ r j)):=by
 obtain ⟨hlen,h⟩:=h
 rcases h with ⟨_,h⟩|⟨g,cap,cur,hv,hb,hg,hle,hm,hsz,ht⟩
 · omega
 · refine ⟨g,cap,cur,hv,hle,hb,hg,fun k r hk j hj=>?_⟩
   have h1:=flat_get hs hk hj
   have hl:=hs.get hk
   have h2:(cur.toList.take (n * 60))[k * 60+j]?=some (.int .i64 (at_ r j)):=by
    rw [ht,List.getElem?_map,h1]
    simp [at_,List.getD_eq_getElem?_getD,List.getElem?_eq_getElem (show j<r.length by omega)]
   rw [List.getElem?_take] at h2
   split at h2
   · simpa using h2
   · cases h2
theorem exec_row {o:Oper} {a:Act} {W:World} (x:Operand) (ho:o.op=.load 196 x) (g off:Nat) (hx:a.eval x=.pointer (some ⟨g,off,none⟩)) {r:List Int} (hr:r.length=60) {t:TypeId} {cur:Array Value} (hb:Blk W g t cur)
 (hc:∀ j,j<60→cur[off+j]?=some (.int .i64 (at_ r j))):(execOp a.eval o).run Tryz.prog W=.ok (.value (.agg (arr r))) W:=by
 have hrange:W.rangeAt g off (r.map (Value.int .i64)):=fun j v hv=>by
  have hj:j<60:=by
   have:=(List.getElem?_eq_some_iff.1 hv).1
   rw [List.length_map,hr] at this
   exact this
  rw [hb.cell,hc j hj,← hv,List.getElem?_map]
  simp [at_,List.getD_eq_getElem?_getD,List.getElem?_eq_getElem (show j<r.length by omega)]
 unfold execOp
 simp only [ho,hx,Instr.loadAt,Instr.sureAddr,Sem.run_bind,Sem.run_pure,Result.andThen_ok,run_loadVar_mid W g off 196 _ _ hrange Tryz.underlying196 rfl (size_map hr)]
 rfl
theorem repl_set (d:Nat) (i:Int) (T:List Int):(List.replicate (d+1) (0:Int)++T).set d i=List.replicate d 0++i::T:=by
 rw [List.replicate_succ',List.append_assoc,List.set_append_right _ _ (by simp),List.length_replicate,Nat.sub_self]
 rfl
end Go.Proofs.YtebkniakflhhkaaGreatDoor
/- walk of gauge. -/
namespace Go.Proofs.YtebkniakflhhkaaGreatDoor
open Go.Lib (hid)
open Go.RowKit
theorem own_from {w w':World} {base:Nat} {e:TypeId} {size:Nat} {v:Value} {n:Nat} {xs:List Value} (h:w.ownsRow base e size v n xs) (hk:∀ g,base≤g→w'.heap[g]?=w.heap[g]?):w'.ownsRow base e size v n xs:=by
 obtain ⟨h0,h⟩:=h
 refine ⟨h0,?_⟩
 rcases h with h|⟨g,cap,cur,hv,hb,hg,h⟩
 · exact .inl h
 · exact .inr ⟨g,cap,cur,hv,hb,(hk g hb).trans hg,h⟩
theorem blk_grown {w w':World} {row:Option Nat} {g:Nat} {t:TypeId} {cs:Array Value} (h:Blk w g t cs) (hg:w.grownBy w' row) (hne:row≠some g):Blk w' g t cs:=(hg.block g h.lt (fun e=>hne (by rw [e]))).trans h
set_option maxRecDepth 100000 in
set_option maxHeartbeats 4000000 in
theorem walk_any (p:Int) (a b K:Nat) (most:Int) (A:Option Addr) (n c:Nat) (l:List Bnd) (ha:a<60) (hb:b<60) (hK:K≤60) (hn400:n≤402) (hok:OkB l)
 (hdone:at_ (rounds l K (startL a)) b≤most) (hmin:∀ k,k<K→most<at_ (rounds l k (startL a)) b) (w:World) (hr:RdB w A n c l) :
 Calls Tryz.prog 140 #[.agg #[.int .i64 p,.slice A n c],.int .i64 (a:Int),.int .i64 (b:Int),.int .i64 most] w fun e w'=>∃ g,e=.returned (.slice (some ⟨g,0,none⟩) K K)∧OwnI w' w.heap.size (some ⟨g,0,none⟩) K K ((backL l (startL a) K b).map (fun i:Nat=>(i:Int)))∧Below w.heap.size w w':=by
 have HR:=hid hr;have HOK:=hid hok;have HD:=hid hdone;have HM:=hid hmin;clear hr hok hdone hmin
 have hx0:=startL_length a
 have hwd:=fun k=>(wdk_rounds HOK.out (Int.le_refl 0) (wd_startL (Int.le_refl 0) ha) k:Wd _ (rounds l k (startL a)))
 obtain ⟨x0,hx⟩:∃ x0,x0=startL a:=⟨_,rfl⟩
 have hst:=start_any a ha
 rw [← hx] at hx0 hst HD HM hwd ⊢
 have HX0:=hid hx0;have HST:=hid hst;have HWD:=hid hwd;clear hx0 hst hwd hx
 have hs60:∀ k,(rounds l k x0).length=60:=fun k=>by rw [rounds_length,HX0.out]
 have HS:=hid hs60;clear hs60
 obtain ⟨i0,hi0,hz0,hz1,hz2⟩:=info_parts infoS
 have HI:=hid hi0;have HZ0:=hid hz0;have HZ1:=hid hz1;have HZ2:=hid hz2;clear hi0 hz0 hz1 hz2
 have hB0:Below w.heap.size w (w.alloc (.cells #[.int .i64 p,.slice A n c] 133)):=(Below.refl _ w).alloc (Nat.le_refl _) _
 have b0:=Blk.new w 133 #[.int .i64 p,.slice A n c]
 have B0:=hid b0;have HB0:=hid hB0;clear b0 hB0
 go_enter Tryz.func140,Tryz.ntmps140
 go_wp2_with fail
 refine (HST.out _).mono ?_
 rintro e w1 ⟨rfl,hb1⟩
 have hs1:=hb1.size
 rw [World.size_alloc] at hs1
 have D1:=hid (Blk.new w1 196 (arr x0))
 have Z1:=hid (Blk.new w1 196 (arr zeros))
 have C0:=hid ((B0.out.keep hb1).alloc (.cells (arr x0) 196))
 have HB1:=hid ((HB0.out.trans (hb1.mono HB0.out.size)).alloc (Nat.le_trans HB0.out.size hb1.size) (.cells (arr x0) 196))
 have HS1:=hid hs1;clear hs1 hb1
 have hlt0:w.heap.size≠w1.heap.size:=by have:=HS1.out;omega
 go_wp2_with (first | (refine wpList_alloc_row rfl 196 rfl (arr zeros) zero_sums.1 ?_;simp only [World.size_alloc]) | (refine wpList_store_row rfl 196 (.tmp 9) (.tmp 14) rfl _ (arr x0) rfl rfl _ (arr zeros) Z1.out (size_sums HX0.out) ((arr_size _).trans (zeros_length.trans (HX0.out.symm.trans (arr_size _).symm))) (arr_one _) ?_;rw [World.setRow_alloc_new]) | (refine wpList_load_row rfl 196 (.tmp 9) rfl _ rfl _ (arr x0) (0,0) _ D1.out Tryz.underlying196 rfl (size_sums HX0.out) ?_) | (refine wpList_build_one rfl (.tmp 15) rfl (z:=x0) rfl HX0.out ?_))
 have hown:((w1.alloc (.cells (arr x0) 196)).alloc (.cells (arr x0) 196)).ownsRow (w1.heap.size+1) 196 60 (.slice (some ⟨(w1.alloc (.cells (arr x0) 196)).heap.size,0,none⟩) 1 1) 1 ((flat (rowsL l x0 0)).map (Value.int .i64)):=by
  have h1:=World.ownsRow_lit (base:=w1.heap.size+1) (e:=196) (size:=60) (w1.alloc (.cells (arr x0) 196)) (arr x0) 1 (by simp) (by unfold maxLen;omega) (by rw [arr_size,HX0.out])
  have h2:(arr x0).toList=(flat (rowsL l x0 0)).map (Value.int .i64):=by simp [arr,flat,rowsL,rounds]
  rw [h2] at h1
  exact h1
 simp only [World.size_alloc] at hown
 have HOWN:=hid hown;clear hown
 go_loopw [10] (fun v wr=>∃ (k:Nat),k≤K∧wr.ownsRow (w1.heap.size+1) 196 60 v (k+1) ((flat (rowsL l x0 k)).map (Value.int .i64))∧Blk wr w1.heap.size 196 (arr (rounds l k x0))∧Blk wr w.heap.size 133 #[.int .i64 p,.slice A n c]∧Below w.heap.size w wr) (fun v _=>match v with | .slice _ m _=>K+1-m|_=>0)
 case atStart=>exact ⟨0,Nat.zero_le _,HOWN.out,D1.out.alloc _,C0.out.alloc _,(HB1.out.alloc HB1.out.size _)⟩
 case round =>
  obtain ⟨k,hk,hown,d1,c0,hbr⟩:=hrel
  obtain ⟨g,cap,cur,rfl,hcap,hgb,hcur,hcells⟩:=own_rows hown (Nat.succ_pos _) (rowsL_sixty HX0.out k)
  have D:=hid d1;have C:=hid c0;have HO:=hid hown;have HBR:=hid hbr;have CUR:=hid hcur;have CELLS:=hid hcells;clear d1 c0 hown hbr hcur hcells
  have hgl:=CUR.out.lt
  have hl1:=D.out.lt
  have k0:wr.cell? ⟨w.heap.size,0,none⟩=some (.int .i64 p):=C.out.cell 0
  have k1:wr.cell? ⟨w.heap.size,1,none⟩=some (.slice A n c):=C.out.cell 1
  have k2:wr.cell? ⟨w1.heap.size,b,none⟩=some (.int .i64 (at_ (rounds l k x0) b)):=(D.out.cell b).trans (arr_get _ b (by rw [HS.out];exact hb))
  have hb':(b:Int)<60:=by omega
  by_cases hlt:k<K
  · have hgt:=HM.out k hlt
    obtain ⟨v,hv⟩:∃ v,at_ (rounds l k x0) b=v:=⟨_,rfl⟩
    rw [hv] at k2 hgt
    clear hv
    go_wp2_with (first | (refine wpList_load_row rfl 196 (.tmp 9) rfl _ rfl _ (arr (rounds l k x0)) (0,0) _ D.out Tryz.underlying196 rfl (size_sums (HS.out k)) ?_))
    refine (longer_any p A n c l (rounds l k x0) (HS.out k) hn400 HOK.out (fun i hi=>?_) wr (HR.out.below HBR.out)).mono ?_
    · rcases (HWD.out k).2 i hi with h|h
      · exact .inl h
      · exact .inr (by omega)
    rintro e w2 ⟨rfl,hb2⟩
    have e1:longer l (rounds l k x0)=rounds l (k+1) x0:=rfl
    rw [e1]
    clear e1
    have hb2s:=hb2.size
    have D2:=hid (D.out.keep hb2)
    have D3:=hid (D2.out.row (arr (rounds l (k+1) x0)))
    have ho3:=own_from (owns_below HO.out hb2) (w':=w2.setRow w1.heap.size (arr (rounds l (k+1) x0))) (fun g hg=>setRow_other _ _ _ _ (by omega))
    have HOA:=hid (ho3.alloc (.cells (arr (rounds l (k+1) x0)) 196))
    have CA:=hid (((C.out.keep hb2).rowFar (g':=w1.heap.size) hlt0 (arr (rounds l (k+1) x0))).alloc (.cells (arr (rounds l (k+1) x0)) 196))
    have DA:=hid (D3.out.alloc (.cells (arr (rounds l (k+1) x0)) 196))
    have hbs3:Below w.heap.size w (w2.setRow w1.heap.size (arr (rounds l (k+1) x0))):=below_setRow (HBR.out.trans (hb2.mono HBR.out.size)) (by have:=HS1.out;omega) _
    have HBA:=hid (hbs3.alloc hbs3.size (.cells (arr (rounds l (k+1) x0)) 196))
    have N3:=hid (Blk.new (w2.setRow w1.heap.size (arr (rounds l (k+1) x0))) 196 (arr (rounds l (k+1) x0)))
    have hsz3:(w2.setRow w1.heap.size (arr (rounds l (k+1) x0))).heap.size=w2.heap.size:=by simp
    have HSZ3:=hid hsz3;have HBS3:=hid hbs3;clear hsz3 ho3 hbs3
    go_wp2_with (first | (refine wpList_store_row rfl 196 (.tmp 9) (.tmp 24) rfl _ (arr (rounds l (k+1) x0)) rfl rfl _ (arr (rounds l k x0)) D2.out (size_sums (HS.out (k+1))) ((arr_size _).trans ((HS.out k).trans ((HS.out (k+1)).symm.trans (arr_size _).symm))) (arr_one _) ?_) | (refine wpList_load_row rfl 196 (.tmp 9) rfl _ rfl _ (arr (rounds l (k+1) x0)) (0,0) _ D3.out Tryz.underlying196 rfl (size_sums (HS.out (k+1))) ?_) | (refine wpList_build_one rfl (.tmp 26) rfl (z:=rounds l (k+1) x0) rfl (HS.out (k+1)) ?_) | (at_builtin;refine wpList_append_own _ rfl (.tmp 25) (.tmp 27) 229 rfl (w1.heap.size+1) 196 i0 _ 60 480 Tryz.underlying229 HI.out HZ0.out HZ1.out HZ2.out (by simp [Value.cells,arr_size,zeros_length]) (by omega) _ (k+1) _ rfl HOA.out ⟨(w2.setRow w1.heap.size (arr (rounds l (k+1) x0))).heap.size,0,none⟩ 1 1 ((rounds l (k+1) x0).map (Value.int .i64)) rfl (by rw [List.length_map,HS.out]) (fun j u hu=>by rw [Addr.add_lit,Nat.zero_add,N3.out.cell];simpa [arr] using hu) (ints_oneCell _ _) (by unfold maxLen;omega) (by omega) (by rw [World.size_alloc,HSZ3.out];have:=D2.out.lt;omega) ?_;intro v' w4 hown4 hg4 _;have HO4:=hid hown4;have HG4:=hid hg4;clear hown4 hg4))
    have ho4:=HO4.out
    rw [← List.map_append,← (show flat (rowsL l x0 (k+1))=flat (rowsL l x0 k)++rounds l (k+1) x0 by rw [rowsL_succ,flat_append];simp [flat])] at ho4
    obtain ⟨g4,cap4,cur4,rfl,-,-,-,-⟩:=own_rows ho4 (Nat.succ_pos _) (rowsL_sixty HX0.out (k+1))
    have HO5:=hid ho4;clear ho4 HO4
    go_wp2
    go_roundw
    case rel=>exact ⟨k+1,by omega,HO5.out,blk_grown DA.out HG4.out (fun e=>by have e:some g=some w1.heap.size:=e;injection e with e;omega),blk_grown CA.out HG4.out (fun e=>by have e:some g=some w.heap.size:=e;injection e with e;have:=HS1.out;omega),HBA.out.grown HG4.out HBA.out.size (fun q e=>by have e:some g=some q:=e;injection e with e;have:=HS1.out;omega)⟩
    case measure=>(show K+1-(k+1+1)<K+1-(k+1);omega)
  · obtain rfl:k=K:=by omega
    obtain ⟨wP,hwP⟩:∃ wP,wP=wr:=⟨_,rfl⟩
    subst hwP
    have hle:=HD.out
    obtain ⟨v,hv⟩:∃ v,at_ (rounds l k x0) b=v:=⟨_,rfl⟩
    rw [hv] at k2 hle
    clear hv
    have hgw:=CUR.out.lt
    go_wp2_with (at_make;refine wpList_make_ints rfl _ _ rfl _ _ k rfl rfl (by first|omega | (simp;done) | (simp;omega)) (by first|omega | (simp;done) | (simp;omega)) (by omega) ?_)
    have hL0:wP.heap.size≠w.heap.size∧wP.heap.size≠g:=by have:=HS1.out;omega
    have L1:=hid (Blk.new wP 3 (arr (List.replicate k 0)))
    have G1:=hid (C.out.alloc (.cells (arr (List.replicate k 0)) 3))
    have R1:=hid (CUR.out.alloc (.cells (arr (List.replicate k 0)) 3))
    have BE:=hid (HBR.out.alloc HBR.out.size (.cells (arr (List.replicate k 0)) 3))
    obtain ⟨B,hB⟩:∃ B,backL l x0 k b=B:=⟨_,rfl⟩
    have hB':backL l x0 k (b:Int)=B:=hB
    have HBK:=hid hB';clear hB hB'
    have hwrb:=HBR.out.size
    have hgw2:g<wP.heap.size:=hgw
    obtain ⟨wA,hwA⟩:∃ wA,wA=wP.alloc (.cells (arr (List.replicate k 0)) 3):=⟨_,rfl⟩
    rw [← hwA] at L1 G1 R1 BE ⊢
    clear hwA k0 k1 k2 hle hgw hgl hl1
    go_loopw [12,2] (fun i bv wz=>∃ (j b':Nat) (z:Int) (tail:List Nat),j≤k∧i=.int .i64 z∧z=(j:Int)-1∧bv=.int .i64 (b':Int)∧b'<60∧B=backL l x0 j b'++tail∧j+tail.length=k∧(∀ d,j=d+1→at_ (rounds l (d+1) x0) b'<at_ (rounds l d x0) b')∧Blk wz wP.heap.size 3 (arr (List.replicate j 0++tail.map (fun i:Nat=>(i:Int))))∧Blk wz w.heap.size 133 #[.int .i64 p,.slice A n c]∧Blk wz g 196 cur∧Below w.heap.size w wz) (fun i _ _=>(intOf i+1).toNat)
    case atStart=>exact ⟨k,b,(k:Int)-1,[],Nat.le_refl _,rfl,rfl,rfl,hb,by rw [HBK.out,List.append_nil],rfl,fun d hd=>Int.lt_of_le_of_lt (hd ▸ HD.out) (HM.out d (by omega)),by simpa using L1.out,G1.out,R1.out,BE.out⟩
    case round =>
     obtain ⟨j,b',z,tail,hj,rfl,hz,rfl,hb2,hback,hlen,hstrict,l1,g1,r1,be⟩:=hrel
     by_cases hpos:1≤j
     · obtain ⟨d,rfl⟩:∃ d,j=d+1:=⟨j-1,by omega⟩
       obtain rfl:z=(d:Int):=by omega
       clear hz
       have hlt:=hstrict d rfl
       obtain ⟨⟨f,t,m,bb⟩,hc,hct,hcI,hcv⟩:=step_spec (l:=l) (x:=rounds l d x0) (b:=(b':Int)) HOK.out (by omega) hlt
       have hbk:=hback
       rw [backL] at hbk
       have hstep:=fun w' hw'=>step_any p A n c l (rounds l d x0) (b':Int) (at_ (rounds l (d+1) x0) b') ((HWD.out d).le (by omega)) hn400 HOK.out w' hw'
       have hwant:look (longer l (rounds l d x0)) (b':Int)=at_ (rounds l (d+1) x0) b':=rfl
       have hwant2:look (rounds l (d+1) x0) (b':Int)=at_ (rounds l (d+1) x0) b':=rfl
       rw [hwant] at hc hcv
       rw [hwant2] at hbk
       obtain ⟨i,hi⟩:∃ i,stepL l (rounds l d x0) (b':Int) (at_ (rounds l (d+1) x0) b')=i:=⟨_,rfl⟩
       rw [hi] at hc hbk
       simp only [hi] at hstep
       have hbd:=HOK.out _ (List.mem_of_getElem? hc)
       dsimp only at hbd hct hcI hcv
       obtain ⟨f0,f1,-,-,-,-⟩:=hbd
       obtain ⟨f,rfl⟩:=Int.eq_ofNat_of_zero_le f0
       have hf60:f<60:=by omega
       have hfrm:frm l i=(f:Int):=by unfold frm;rw [hc]
       rw [hfrm] at hbk
       have hnext:∀ d',d=d'+1→at_ (rounds l (d'+1) x0) f<at_ (rounds l d' x0) f:=fun d' hd'=>by
        subst hd'
        subst hct
        exact strict_next (c:=⟨(f:Int),(b':Int),m,bb⟩) HX0.out HOK.out (List.mem_of_getElem? hc) hcI hcv hlt
       have hin:i<n:=by have:=(List.getElem?_eq_some_iff.1 hc).1;have:=HR.out.len;omega
       have HBKD:=hid hbk;have HNEXT:=hid hnext;have HC:=hid hc;have HSTEP:=hid hstep;clear hbk hnext hc hstep hback hstrict hlt hcI hcv hfrm hwant hwant2 hi hct
       have hset:=repl_set d (i:Int) (tail.map (fun i:Nat=>(i:Int)))
       have hd60:(arr (List.replicate (d+1) 0++tail.map (fun i:Nat=>(i:Int))))[d]?=some (.int .i64 0):=by
        rw [arr_get _ _ (by simp;omega)]
        congr 2
        unfold at_
        rw [List.getD_eq_getElem?_getD,List.getElem?_append_left (by simp),List.getElem?_replicate]
        simp
       have HSET:=hid hset;have HD60:=hid hd60;clear hset hd60
       have b0:=g1;have b1:=r1;have b2:=l1;have rd:=HR.out.below be
       have C0:=hid b0.drew;have C1:=hid b1.drew;have C2:=hid b2.drew;have RD1:=hid rd.drew;have HBE:=hid be.drew
       clear b0 b1 b2 rd be g1 r1 l1
       have hdk:d<k:=by omega
       have hcap':k+1≤cap:=hcap
       have hix1:(d:Int)<(k:Int)+1:=by omega
       have hix2:(d:Int)+1<(k:Int)+1:=by omega
       have hwr:IntKind.i64.wrap ((d:Int)+1)=(d:Int)+1:=IntWalk.i64_in _ (by omega)
       have htn:((d:Int)+1).toNat=d+1:=by omega
       have hix0:0≤(d:Int)+1:=by omega
       have hix3:(d:Int)<(k:Int):=by omega
       have hix4:(b':Int)<60:=by omega
       go_wp2
       refine wp_region_held_drew (S:=(fun W'=>Blk W' w.heap.size 133 #[.int .i64 p,.slice A n c]∧Blk W' g 196 cur)) (by kernel_rfl) ⟨C0.out,C1.out⟩ (fun _=>?_)
       obtain ⟨a8,a2⟩:∃ w',w'=wr.drew:=⟨_,rfl⟩
       rw [← a2] at C0 C1 C2 HBE RD1
       rw [← a2]
       clear a2
       refine' twH 0 ⟨C0.out,C1.out⟩ ?_
       refine' twH 1 ⟨C0.out,C1.out⟩ ?_
       refine' tkH 2 ⟨C0.out,C1.out⟩ ?a4 ?_
       case a4=>(rintro W' ⟨hS0,hS1⟩;have hc0:=Blk.nth hS0 0;have hc1:=Blk.nth hS0 1;clear hS0 hS1;go_simp;try with_reducible rfl)
       refine' twH 3 ⟨C0.out,C1.out⟩ ?_
       try simp only [pq]
       refine' twH 4 ⟨C0.out,C1.out⟩ ?_
       refine' twH 5 ⟨C0.out,C1.out⟩ ?_
       refine' tkH 6 ⟨C0.out,C1.out⟩ ?a5 ?_
       case a5=>(rintro W' ⟨hS0,hS1⟩;refine exec_row (.tmp 45) ?_ g (d * 60) ?_ (HS.out d) hS1 ?_;exact rfl;exact rfl;exact CELLS.out d _ (rowsL_get l x0 (by omega)))
       refine' twH 7 ⟨C0.out,C1.out⟩ ?_
       try simp only [pq]
       refine' twH 8 ⟨C0.out,C1.out⟩ ?_
       refine' twH 9 ⟨C0.out,C1.out⟩ ?_
       refine' twH 10 ⟨C0.out,C1.out⟩ ?_
       refine' twH 11 ⟨C0.out,C1.out⟩ ?_
       try simp only [pq]
       refine' twH 12 ⟨C0.out,C1.out⟩ ?_
       refine' twH 13 ⟨C0.out,C1.out⟩ ?_
       refine' tkH 14 ⟨C0.out,C1.out⟩ ?a6 ?_
       case a6=>(rintro W' ⟨hS0,hS1⟩;have hc0:W'.cell? ⟨g,(d+1) * 60+b',none⟩=some (.int .i64 (at_ (rounds l (d+1) x0) b')):=(Blk.cell hS1 _).trans (CELLS.out (d+1) _ (rowsL_get l x0 (by omega)) b' hb2);clear hS0 hS1;go_simp;try with_reducible rfl)
       try simp only [pq]
       refine oneH 15 rfl fun K hK=>?_
       go_simp
       go_at_call 161
       refine (HSTEP.out _ RD1.out).mono ?_
       rintro e a1 ⟨rfl,a0⟩
       dsimp only
       replace a0:=hid a0
       replace C0:=kH C0 a0
       replace C1:=kH C1 a0
       refine hK.out _ _ ⟨C0.out,C1.out⟩ (fun _=>?_);clear hK K
       try simp only [pq]
       refine' twH 16 ⟨C0.out,C1.out⟩ ?_
       try simp only [pq]
       refine oneH 17 rfl fun K hK=>?_
       replace C2:=kH C2 a0
       replace HBE:=bH HBE a0
       replace RD1:=rH RD1 a0
       have v0:a1.cell? ⟨wP.heap.size,d,none⟩=some (.int .i64 0):=(Blk.cell C2.out d).trans HD60.out
       have f0:a1.frozen? ⟨wP.heap.size,d,none⟩=false:=Blk.frozen C2.out d
       go_simp
       have a3:=hid (Blk.far (C0.out) (p:=⟨wP.heap.size,d,none⟩) (by first|omega | (simp;done) | (simp;omega)) (.int .i64 (i:Int)))
       have a7:=hid (Blk.far (C1.out) (p:=⟨wP.heap.size,d,none⟩) (by first|omega | (simp;done) | (simp;omega)) (.int .i64 (i:Int)))
       refine hK.out _ _ ⟨a3.out,a7.out⟩ (fun _=>?_);clear hK K
       try simp only [pq]
       refine wpAnyH_done (by kernel_rfl) ?_ _
       have q0:(a1.setCell ⟨wP.heap.size,d,none⟩ (.int .i64 (i:Int))).cell? ⟨w.heap.size,1,none⟩=some (.slice A n c):=Blk.cell a3.out 1
       have q1:(a1.setCell ⟨wP.heap.size,d,none⟩ (.int .i64 (i:Int))).cell? ⟨wP.heap.size,d,none⟩=some (.int .i64 (i:Int)):=World.cell?_setCell_same' _ _ _ (by rw [v0];rfl)
       have hl1:=Blk.set_ C2.out d (.int .i64 (i:Int))
       rw [arr_set,HSET.out] at hl1
       have hbe:=Below.setCell (HBE.out) (p:=⟨wP.heap.size,d,none⟩) (by simp;omega) (.int .i64 (i:Int))
       obtain ⟨g0,o0,ff,tt,mm,ii,rfl,hbw,hxx,e0,e1,e2,e3⟩:=(HR.out.below hbe).get hin
       rw [HC.out] at hxx
       injection hxx with hxx
       injection hxx with hf1 hf2 hf3 hf4
       subst hf1 hf2 hf3 hf4
       have HL1:=hid hl1;have HBE1:=hid hbe;clear hl1 hbe v0 f0
       have K0:=hid a3.out;have K1:=hid a7.out
       have hz0:=Blk.lt K0.out
       have hz1:=Blk.lt HL1.out
       generalize (a1.setCell ⟨wP.heap.size,d,none⟩ (.int .i64 (i:Int)))=wq at *
       go_wp2
       go_quiet (fail)
       go_wp2
       go_roundw
       case rel=>exact ⟨d,f,(d:Int)-1,i::tail,by omega,by go_num,rfl,rfl,hf60,by rw [HBKD.out,List.append_assoc];rfl,by simp only [List.length_cons];omega,HNEXT.out,HL1.out,K0.out,K1.out,bdN HBE1.out _⟩
       case measure=>(simp [intOf];try omega)
     · obtain rfl:j=0:=by omega
       have hz':z<0:=by omega
       clear hz
       have hback':B=tail:=by rw [hback];rfl
       have L2:=hid l1;clear l1
       have HBT:=hid hback';clear hback hback'
       go_wp2
       go_ret
       have hl2:Blk wr wP.heap.size 3 (arr (B.map (fun i:Nat=>(i:Int)))):=by rw [HBT.out];simpa using L2.out
       exact ⟨wP.heap.size,rfl,by rw [HBK.out];exact own_of_blk hl2 (by omega) (by rw [HBT.out,List.length_map];omega) (by unfold maxLen;omega),be⟩
end Go.Proofs.YtebkniakflhhkaaGreatDoor
