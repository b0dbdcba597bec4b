import Derived.Great.BuildSlice
import Derived.Test.YtebkniakflhhkaaGreatDoorAOnw
set_option linter.unusedSimpArgs false
set_option linter.unusedVariables false
namespace Go.Proofs.YtebkniakflhhkaaGreatDoor
open Go.Lib (hid)
open Go.RowKit
theorem eql_sums {x y:List Int} (hx:x.length=60) (hy:y.length=60) (w:World):(Op.equalIn 10000 196 (.agg (arr x)) (.agg (arr y))).run Tryz.prog w=.ok (decide (x=y)) w :=
 run_equal_arr 9998 196 3 60 Tryz.underlying196 Tryz.underlying3 (fun w=>by kernel_rfl) x y hx hy w
def Wd (r:Int) (x:List Int):Prop:=x.length=60∧∀ i,i<60→at_ x i=Inf∨(-r≤at_ x i∧at_ x i≤r)
def OkB (l:List Bnd):Prop:=∀ b∈l,0≤b.f∧b.f<60∧0≤b.t∧b.t<60∧-100000000≤b.m∧b.m≤100000000
theorem Wd.longer {l:List Bnd} {r:Int} {x:List Int} (h:Wd r x) (hok:OkB l) (hr:0≤r):Wd (r+100000000) (longer l x):=by
 refine ⟨by rw [longer_length];exact h.1,fun i hi=>?_⟩
 rcases longer_cases l x i with e|⟨c,hc,hf,ht,he⟩
 · rw [e]
   rcases h.2 i hi with h1|h1
   · exact .inl h1
   · exact .inr (by omega)
 · obtain ⟨f0,f1,t0,t1,m0,m1⟩:=hok c hc
   rw [look_eq] at hf he
   rcases h.2 c.f.toNat (by omega) with h1|h1
   · exact absurd h1 hf
   · exact .inr (by omega)
theorem settle_step {l:List Bnd} {p k:Nat} {y:List Int} (hk:k<p):settle l (p-k) y=if longer l y=y then some y else settle l (p-(k+1)) (longer l y):=by
 obtain ⟨d,hd⟩:∃ d,p-k=d+1:=⟨p-k-1,by omega⟩
 rw [hd,show p-(k+1)=d from by omega]
 rfl
def SettledR (l:List Bnd) (p:Nat) (x:List Int) (w:World) (e:Ending) (w':World):Prop :=
 ∃ y ok,y.length=60∧e=.returned (.tuple #[.agg (arr y),.bool ok])∧Below w.heap.size w w'∧((ok=true∧settle l p x=some y)∨(ok=false∧settle l p x=none∧y=zeros))
set_option maxRecDepth 100000 in
set_option maxHeartbeats 2000000 in
theorem settled_any (p:Nat) (A:Option Addr) (n c:Nat) (l:List Bnd) (x:List Int) (hx:Wd 800000000000 x) (hp:p≤60) (hn400:n≤402) (hok:OkB l) (w:World) (hr:RdB w A n c l) :
 Calls Tryz.prog 156 #[.agg #[.int .i64 (p:Int),.slice A n c],.agg (arr x)] w (SettledR l p x w):=by
 have HR:=hid hr;clear hr
 have HX:=hid hx;clear hx
 have HOK:=hid hok;clear hok
 have b1:=(Blk.new (w.alloc (.cells #[.int .i64 (p:Int),.slice A n c] 133)) 196 (arr x)).alloc (.cells (arr zeros) 196)
 have b2:=Blk.new ((w.alloc (.cells #[.int .i64 (p:Int),.slice A n c] 133)).alloc (.cells (arr x) 196)) 196 (arr zeros)
 have b0:=((Blk.new w 133 #[.int .i64 (p:Int),.slice A n c]).alloc (.cells (arr x) 196)).alloc (.cells (arr zeros) 196)
 simp only [World.size_alloc] at b1 b2
 have B0:=hid b0;have B1:=hid b1;have B2:=hid b2;clear b0 b1 b2
 have hm:Tryz.prog.eqGuardType Tryz.prog.depth 196=false:=by kernel_rfl
 go_enter Tryz.func156,Tryz.ntmps156
 go_wp2_with (first | (refine wpList_alloc_row rfl 196 rfl (arr zeros) zero_sums.1 ?_;simp only [World.size_alloc]))
 have hB0:Below w.heap.size w (((w.alloc (.cells #[.int .i64 (p:Int),.slice A n c] 133)).alloc (.cells (arr x) 196)).alloc (.cells (arr zeros) 196)):=(((Below.refl _ w).alloc (Nat.le_refl _) _).alloc (by simp) _).alloc (by simp;omega) _
 go_loopw [9] (fun i wr=>∃ (k:Nat) (y:List Int),k≤p∧i=.int .i64 k∧Wd (800000000000+k * 100000000) y∧settle l (p-k) y=settle l p x∧Blk wr w.heap.size 133 #[.int .i64 (p:Int),.slice A n c]∧Blk wr (w.heap.size+1) 196 (arr y)∧Blk wr (w.heap.size+2) 196 (arr zeros)∧Below w.heap.size w wr) (fun i _=>p-(intOf i).toNat)
 case atStart=>exact ⟨0,x,Nat.zero_le _,rfl,by simpa using HX.out,rfl,B0.out,B1.out,B2.out,hB0⟩
 case round =>
  obtain ⟨k,y,hk,rfl,hy,hset,c0,c1,c2,hB⟩:=hrel
  have k0:wr.cell? ⟨w.heap.size,0,none⟩=some (.int .i64 (p:Int)):=c0.cell 0
  have k1:wr.cell? ⟨w.heap.size,1,none⟩=some (.slice A n c):=c0.cell 1
  have C0:=hid c0;have C1:=hid c1;have C2:=hid c2;clear c0 c1 c2
  have HY:=hid hy;have HSET:=hid hset;clear hy hset
  have hlt2:=C2.out.lt
  by_cases hlt:k<p
  · have hlt':(k:Int)<p:=by omega
    go_wp2_with (first | (refine wpList_load_row rfl 196 (.tmp 3) rfl _ rfl _ (arr y) (0,0) _ C1.out Tryz.underlying196 rfl (size_sums HY.out.1) ?_))
    refine (longer_any (p:Int) A n c l y HY.out.1 hn400 HOK.out (fun i hi=>?_) wr (HR.out.below (hB.mono (Nat.le_refl _)))).mono ?_
    · rcases HY.out.2 i hi with h|h
      · exact .inl h
      · exact .inr (by omega)
    rintro e w1 ⟨rfl,hb1⟩
    have hstep:=settle_step (l:=l) (y:=y) hlt
    have HST:=hid hstep;clear hstep
    have hlong:=HY.out.longer HOK.out (by omega)
    have HL:=hid hlong;clear hlong
    have hs1:=hb1.size
    have d1:=(C1.out.keep hb1).alloc (.cells (arr (longer l y)) 196)
    have d2:=(C2.out.keep hb1).alloc (.cells (arr (longer l y)) 196)
    have d0:=(C0.out.keep hb1).alloc (.cells (arr (longer l y)) 196)
    have d3:=Blk.new w1 196 (arr (longer l y))
    have z3:=Blk.new w1 196 (arr zeros)
    have hBw:Below w.heap.size w (w1.alloc (.cells (arr (longer l y)) 196)):=(hB.trans (hb1.mono hB.size)).alloc (Nat.le_trans hB.size hs1) _
    have D0:=hid d0;have D1:=hid d1;have D2:=hid d2;have D3:=hid d3;have Z3:=hid z3;clear d0 d1 d2 d3 z3
    by_cases heq:longer l y=y
    · have heqv:∀ w,(Op.equalIn 10000 196 (.agg (arr (longer l y))) (.agg (arr y))).run Tryz.prog w=.ok true w:=fun w=>by rw [eql_sums HL.out.1 HY.out.1,decide_eq_true heq]
      have HEQ:=hid heq;clear heq
      go_wp2_with (first | (refine wpList_alloc_row rfl 196 rfl (arr zeros) zero_sums.1 ?_;simp only [World.size_alloc]) | (refine wpList_store_row rfl 196 (.tmp 6) (.tmp 13) rfl _ (arr (longer l y)) rfl rfl _ (arr zeros) Z3.out (size_sums HL.out.1) ((arr_size _).trans (zeros_length.trans (HL.out.1.symm.trans (arr_size _).symm))) (arr_one _) ?_;rw [World.setRow_alloc_new]) | (refine wpList_load_row rfl 196 (.tmp 6) rfl _ rfl _ (arr (longer l y)) (0,0) _ D3.out Tryz.underlying196 rfl (size_sums HL.out.1) ?_) | (refine wpList_load_row rfl 196 (.tmp 3) rfl _ rfl _ (arr y) (0,0) _ D1.out Tryz.underlying196 rfl (size_sums HY.out.1) ?_) | (refine wpList_store_row rfl 196 (.tmp 4) (.tmp 17) rfl _ (arr y) rfl rfl _ (arr zeros) D2.out (size_sums HY.out.1) ((arr_size _).trans (zeros_length.trans (HY.out.1.symm.trans (arr_size _).symm))) (arr_one _) ?_))
      refine bodyPost_ret (results_row_tmp rfl _ _ (w.heap.size+2) 196 (arr y) (0,0) _ rfl (D2.out.row (arr y)) Tryz.underlying196 rfl (size_sums HY.out.1)) rfl ?_
      exact ⟨y,true,HY.out.1,rfl,below_setRow hBw (by omega) _,.inl ⟨rfl,by rw [← HSET.out,HST.out,if_pos HEQ.out]⟩⟩
    · have heqv:∀ w,(Op.equalIn 10000 196 (.agg (arr (longer l y))) (.agg (arr y))).run Tryz.prog w=.ok false w:=fun w=>by rw [eql_sums HL.out.1 HY.out.1,decide_eq_false heq]
      have HEQ:=hid heq;clear heq
      go_wp2_with (first | (refine wpList_alloc_row rfl 196 rfl (arr zeros) zero_sums.1 ?_;simp only [World.size_alloc]) | (refine wpList_store_row rfl 196 (.tmp 6) (.tmp 13) rfl _ (arr (longer l y)) rfl rfl _ (arr zeros) Z3.out (size_sums HL.out.1) ((arr_size _).trans (zeros_length.trans (HL.out.1.symm.trans (arr_size _).symm))) (arr_one _) ?_;rw [World.setRow_alloc_new]) | (refine wpList_load_row rfl 196 (.tmp 6) rfl _ rfl _ (arr (longer l y)) (0,0) _ D3.out Tryz.underlying196 rfl (size_sums HL.out.1) ?_) | (refine wpList_load_row rfl 196 (.tmp 3) rfl _ rfl _ (arr y) (0,0) _ D1.out Tryz.underlying196 rfl (size_sums HY.out.1) ?_) | (refine wpList_store_row rfl 196 (.tmp 3) (.tmp 18) rfl _ (arr (longer l y)) rfl rfl _ (arr y) D1.out (size_sums HL.out.1) ((arr_size _).trans (HY.out.1.trans (HL.out.1.symm.trans (arr_size _).symm))) (arr_one _) ?_))
      go_roundw
      case rel=>exact ⟨k+1,longer l y,by omega,by go_num,by have:=HL.out;rwa [show (800000000000+(k:Int) * 100000000+100000000)=800000000000+((k+1:Nat):Int) * 100000000 from by omega] at this,by rw [← HSET.out,HST.out,if_neg HEQ.out],D0.out.rowFar (by omega) _,D1.out.row _,D2.out.rowFar (by omega) _,below_setRow hBw (by omega) _⟩
      case measure=>simp [intOf];omega
  · obtain rfl:k=p:=by omega
    go_wp2_with (first | (refine wpList_build0 rfl 196 rfl (arr zeros) built_sums ?_) | (refine wpList_store_row rfl 196 (.tmp 4) (.tmp 20) rfl _ (arr zeros) rfl rfl _ (arr zeros) C2.out (size_sums zeros_length) ((arr_size _).trans (zeros_length.trans (zeros_length.symm.trans (arr_size _).symm))) (arr_one _) ?_))
    refine bodyPost_ret (results_row_tmp rfl _ _ (w.heap.size+2) 196 (arr zeros) (0,0) _ rfl (C2.out.row (arr zeros)) Tryz.underlying196 rfl (size_sums zeros_length)) rfl ?_
    refine ⟨zeros,false,zeros_length,rfl,below_setRow hB (by omega) _,.inr ⟨rfl,?_,rfl⟩⟩
    rw [← HSET.out,Nat.sub_self]
    rfl
end Go.Proofs.YtebkniakflhhkaaGreatDoor
/- Rows of sixty numbers in one block: arrays of arrays, and slices of arrays. -/
namespace Go.Proofs.YtebkniakflhhkaaGreatDoor
open Go.Lib (hid)
open Go.RowKit
def flat (rs:List (List Int)):List Int:=rs.flatten
def Sixty (rs:List (List Int)):Prop:=∀ r∈rs,r.length=60
theorem flat_length:∀ {rs:List (List Int)},Sixty rs→(flat rs).length=rs.length * 60
 | [],_=>rfl
 | r::rs,h=>by
  have ih:=flat_length (rs:=rs) (fun x hx=>h x (List.mem_cons_of_mem _ hx))
  have h1:=h r (List.mem_cons_self ..)
  unfold flat at ih ⊢
  rw [List.flatten_cons,List.length_append,ih,h1,List.length_cons]
  omega
theorem flat_append (a b:List (List Int)):flat (a++b)=flat a++flat b:=List.flatten_append
theorem flat_get:∀ {rs:List (List Int)},Sixty rs→∀ {k:Nat} {r:List Int},rs[k]?=some r→∀ {j:Nat},j<60→(flat rs)[k * 60+j]?=r[j]?
 | [],_,k,r,h,_,_=>by simp at h
 | x::rs,hs,0,r,h,j,hj=>by
  have h1:=hs x (List.mem_cons_self ..)
  simp only [List.getElem?_cons_zero,Option.some.injEq] at h
  subst h
  unfold flat
  rw [List.flatten_cons,Nat.zero_mul,Nat.zero_add,List.getElem?_append_left (by omega)]
 | x::rs,hs,k+1,r,h,j,hj=>by
  have h1:=hs x (List.mem_cons_self ..)
  rw [List.getElem?_cons_succ] at h
  have ih:=flat_get (rs:=rs) (fun y hy=>hs y (List.mem_cons_of_mem _ hy)) h hj
  unfold flat at ih ⊢
  rw [List.flatten_cons,List.getElem?_append_right (by omega),h1,show (k+1) * 60+j-60=k * 60+j from by omega,ih]
theorem Sixty.set {rs:List (List Int)} (h:Sixty rs) (k:Nat) {y:List Int} (hy:y.length=60):Sixty (rs.set k y):=fun r hr=>by
 rcases List.mem_or_eq_of_mem_set hr with h1|h1
 · exact h r h1
 · rw [h1];exact hy
theorem Sixty.get {rs:List (List Int)} (h:Sixty rs) {k:Nat} {r:List Int} (hk:rs[k]?=some r):r.length=60:=h r (List.mem_of_getElem? hk)
theorem flat_set:∀ {rs:List (List Int)},Sixty rs→∀ {k:Nat} {y:List Int},k<rs.length→y.length=60→flat (rs.set k y)=(flat rs).take (k * 60)++y++(flat rs).drop (k * 60+60)
 | [],_,k,_,h,_=>by simp at h
 | x::rs,hs,0,y,_,hy=>by
  have h1:=hs x (List.mem_cons_self ..)
  unfold flat
  rw [List.set_cons_zero,List.flatten_cons,List.flatten_cons,Nat.zero_mul,Nat.zero_add,List.take_zero,List.nil_append,List.drop_append,List.drop_eq_nil_of_le (by omega),h1,Nat.sub_self,List.drop_zero,List.nil_append]
 | x::rs,hs,k+1,y,h,hy=>by
  have h1:=hs x (List.mem_cons_self ..)
  have ih:=flat_set (rs:=rs) (fun z hz=>hs z (List.mem_cons_of_mem _ hz)) (k:=k) (y:=y) (by simpa using h) hy
  unfold flat at ih ⊢
  have e1:(x++rs.flatten).take ((k+1) * 60)=x++rs.flatten.take (k * 60):=by
   rw [List.take_append,List.take_of_length_le (by omega),h1,show (k+1) * 60-60=k * 60 from by omega]
  have e2:(x++rs.flatten).drop ((k+1) * 60+60)=rs.flatten.drop (k * 60+60):=by
   rw [List.drop_append,List.drop_eq_nil_of_le (by omega),h1,show (k+1) * 60+60-60=k * 60+60 from by omega,List.nil_append]
  rw [List.set_cons_succ,List.flatten_cons,List.flatten_cons,ih,e1,e2]
  simp only [List.append_assoc]
theorem blk_setCells {t:TypeId} {b:Nat}:∀ (y:List Int) (o:Nat) (w:World) (x:List Int),Blk w b t (arr x)→o+y.length≤x.length →
 Blk (w.setCells b o (y.map (Value.int .i64))) b t (arr (x.take o++y++x.drop (o+y.length)))
 | [],o,w,x,h,_=>by
  rw [List.append_nil,List.length_nil,Nat.add_zero,List.take_append_drop]
  exact h
 | v::y,o,w,x,h,hl=>by
  rw [List.length_cons] at hl
  have h1:=h.set_ o (.int .i64 v)
  rw [arr_set] at h1
  have ih:=blk_setCells y (o+1) _ (x.set o v) h1 (by rw [List.length_set];omega)
  rw [List.map_cons,World.setCells]
  have e1:(x.set o v).take (o+1)=x.take o++[v]:=by
   rw [List.take_add_one,List.take_set_of_le (Nat.le_refl _),List.getElem?_set_self (by omega)]
   rfl
  have e2:(x.set o v).drop (o+1+y.length)=x.drop (o+(v::y).length):=by
   rw [List.drop_set_of_lt (by omega),List.length_cons,show o+1+y.length=o+(y.length+1) from by omega]
  rw [e1,e2] at ih
  simpa using ih
theorem setCells_other {b g:Nat} (hg:g≠b):∀ (y:List Value) (o:Nat) (w:World),(w.setCells b o y).heap[g]?=w.heap[g]?
 | [],_,_=>rfl
 | v::y,o,w=>by rw [World.setCells,setCells_other hg y (o+1)];exact heap_setCell_other _ _ _ _ (by simpa using hg)
theorem below_setCells {B:Nat} {a:World} {b:Nat} (hb:B≤b):∀ (y:List Value) (o:Nat) (w:World),Below B a w→Below B a (w.setCells b o y)
 | [],_,_,h=>h
 | v::y,o,w,h=>by rw [World.setCells];exact below_setCells hb y (o+1) _ (h.setCell (by simpa using hb) _)
theorem Blk.farRow {w:World} {g b:Nat} {t:TypeId} {cs:Array Value} (h:Blk w g t cs) (hg:g≠b) (o:Nat) (y:List Value):Blk (w.setCells b o y) g t cs:=(setCells_other hg y o w).trans h
theorem Blk.range {w:World} {b:Nat} {t:TypeId} {rs:List (List Int)} (h:Blk w b t (arr (flat rs))) (hs:Sixty rs) {k:Nat} {r:List Int} (hk:rs[k]?=some r):w.rangeAt b (k * 60) (r.map (Value.int .i64)):=fun j v hv=>by
 have hj:j<60:=by
  have:=(List.getElem?_eq_some_iff.1 hv).1
  rw [List.length_map,hs.get hk] at this
  exact this
 rw [h.cell]
 have h1:=flat_get hs hk hj
 rw [List.getElem?_map] at hv
 simp only [arr,List.getElem?_toArray,List.getElem?_map,h1]
 exact hv
theorem Blk.there {w:World} {b:Nat} {t:TypeId} {rs:List (List Int)} (h:Blk w b t (arr (flat rs))) (hs:Sixty rs) {k:Nat} (hk:k<rs.length):w.there b (k * 60) 60:=fun j hj=>by
 refine ⟨?_,h.frozen _⟩
 rw [h.cell,arr_get _ _ (by rw [flat_length hs];omega)]
 rfl
theorem Blk.rowSet {w:World} {b:Nat} {t:TypeId} {rs:List (List Int)} (h:Blk w b t (arr (flat rs))) (hs:Sixty rs) {k:Nat} (hk:k<rs.length) {y:List Int} (hy:y.length=60) :
 Blk (w.setCells b (k * 60) (y.map (Value.int .i64))) b t (arr (flat (rs.set k y))):=by
 have:=blk_setCells y (k * 60) w (flat rs) h (by rw [hy,flat_length hs];omega)
 rw [hy] at this
 rw [flat_set hs hk hy]
 exact this
theorem Blk.at {w:World} {b:Nat} {t:TypeId} {rs:List (List Int)} (h:Blk w b t (arr (flat rs))) (hs:Sixty rs) {k:Nat} {r:List Int} (hk:rs[k]?=some r) {j:Nat} (hj:j<60):w.cell? ⟨b,k * 60+j,none⟩=some (.int .i64 (at_ r j)):=by
 rw [h.cell]
 have h1:=flat_get hs hk hj
 have hl:=hs.get hk
 simp only [arr,List.getElem?_toArray,List.getElem?_map,h1]
 simp [at_,List.getD_eq_getElem?_getD,List.getElem?_eq_getElem (show j<r.length by omega)]
def zeroRows:List (List Int):=List.replicate 60 zeros
theorem zero_rows:(∀ w,(zeroValue 206).run Tryz.prog w=.ok (.agg (arr (flat zeroRows))) w)∧(Tryz.prog.info? 206).map (·.size)=some 3600 :=
 zero_of_info (by kernel_rfl)
theorem size_map {x:List Int} (h:x.length=60):(Tryz.prog.info? 196).map (·.size)=some (x.map (Value.int .i64)).length:=by rw [zero_sums.2,List.length_map,h]
theorem infoS:(Tryz.prog.info? 196).map (fun i=>(i.zero,i.size,i.bytes))=some (some (.agg (arr zeros)),60,480):=by kernel_rfl
theorem run_build_one (w:World) {x:List Int} (hx:x.length=60):(Instr.buildSlice 229 1 #[(0,.agg (arr x))]).run Tryz.prog w=.ok (.slice (some ⟨w.heap.size,0,none⟩) 1 1) (w.alloc (.cells (arr x) 196)):=by
 obtain ⟨ie,hq,hz,hs,-⟩:=info_parts infoS
 refine run_buildSlice w _ 196 1 _ (arr x) ie _ Tryz.underlying229 hq hz (by rw [hs];decide) (by rw [hs];decide) ?_
 have:=Great.fill_whole (s:=60) (by decide) [.agg (arr x)] ((Array.range (1 * ie.size)).map (fun k=>(Value.agg (arr zeros)).cells[k % (Value.agg (arr zeros)).cells.size]!)) (by simp [Value.cells,arr_size,hx]) (by simp [hs])
 simpa [hs,Value.cells] using this
end Go.Proofs.YtebkniakflhhkaaGreatDoor
/- A region that draws its order and only reads, inside a round of a range over a function. -/
namespace Go.Proofs.YtebkniakflhhkaaGreatDoor
open Go.Lib (hid)
open Go.RowKit
section
variable {F:Fence} {n:Nat} {P:Program}
theorem wpIn_round {o:Oper} {a:Act} {w:World} {K:Act→World→Prop} {Q:Exit→Act→World→Prop} {l:Nat} (hro:F.round=none) (hd:∀ c,o.op≠.defer c) (h:o.wpIn F n P a w K Q):o.wpIn (F.inRound l) n P a w K Q:=by
 refine ⟨h.1,?_⟩
 have h2:=h.2
 rw [hro,Oper.semAt_none] at h2
 rw [show (F.inRound l).round=some l from rfl,Oper.semAt_some l _ _ hd]
 exact h2
def noDefer (o:Oper):Bool:=match o.op with | .defer _=>false|_=>true
theorem noDefer_spec {o:Oper} (h:noDefer o=true):∀ c,o.op≠.defer c:=by
 intro c hc
 unfold noDefer at h
 rw [hc] at h
 cases h
theorem wpAny_round {md:Region.Mode} {ops:Array Oper} {Q:Exit→Act→World→Prop} {l:Nat} (hro:F.round=none) (hd:∀ (i:Nat) o,ops[i]?=some o→noDefer o=true):∀ (fuel:Nat) (listed:Array Bool) (a:Act) (w:World),
 wpAnyIn F n P md ops Q fuel listed a w→wpAnyIn (F.inRound l) n P md ops Q fuel listed a w
 | 0,_,_,_,h=>h
 | fuel+1,listed,a,w,h=>by
  refine ⟨h.1,fun i hi=>?_⟩
  have h1:=h.2 i hi
  unfold wpOpIn at h1 ⊢
  cases ho:ops[i]? with
  | none=>rw [ho] at h1;exact wpAny_round hro hd fuel _ _ _ h1
  | some o =>
   rw [ho] at h1
   simp only at h1 ⊢
   by_cases hw:Region.wanted o (yielded ops a.tmps)=true
   · rw [if_pos hw] at h1 ⊢
     exact wpIn_round hro (noDefer_spec (hd i o ho)) (Oper.wpIn_mono (fun a w h=>wpAny_round hro hd fuel _ _ _ h) h1)
   · rw [if_neg hw] at h1 ⊢
     exact ⟨h1.1,wpAny_round hro hd fuel _ _ _ h1.2⟩
theorem wpIn_region_quiet_round {id:Nat} {Q:Exit→Act→World→Prop} {a:Act} {w:World} {lp:Nat} {l:List Oper} (hro:F.round=none) (hm:P.follows .mixedOrders=true) (hB:Region.lexB .any l.toArray=true) (hd:l.all noDefer=true)
 (h:wpQuietIn F n P l.toArray (fun w'=>∃ n,w'=w.drewN n) (fun a'=>∀ w',(∃ n,w'=w.drewN n)→Q .normal a' w') l a):(Code.region id l.toArray true).wpIn (F.inRound lp) n P Q a w:=by
 simp only [Region.lexB,Bool.and_eq_true] at hB
 refine wpIn_region_any hm (wpAny_round hro (fun i o ho=>?_) _ _ _ _ (wpAnyIn_of_quiet (Q:=fun a'=>∀ w',(∃ n,w'=w.drewN n)→Q .normal a' w') hro (fun _ w' hw' h=>h w' hw') _ _ _ _ ⟨1,rfl⟩ ?_))
 · exact List.all_eq_true.1 hd o (List.mem_of_getElem? (by simpa using ho))
 · have:=wpAnyQIn_lex (F:=F) (n:=n) (C:=fun w'=>∃ n,w'=w.drewN n) (md:=.any) hB.1 l 0 (Array.replicate l.toArray.size false) a (by simp) (by simpa using hB.2) h
   simpa using this
end
end Go.Proofs.YtebkniakflhhkaaGreatDoor
