import Derived.Test.YtebkniakflhhkaaGreatDoorAStep
import Derived.Test.YtebkniakflhhkaaGreatDoorAEMap
set_option linter.unusedSimpArgs false
set_option linter.unusedVariables false
namespace Go.Proofs.YtebkniakflhhkaaGreatDoor
open Go.RowKit Go.Maps
set_option maxRecDepth 100000 in
set_option maxHeartbeats 1000000 in
theorem eql_pr (p q:Prg) (w:World):(Op.equalIn 10000 25 (encV p) (encV q)).run Tryz.prog w=.ok (decide (p=q)) w:=by
 obtain ⟨p1,p2,p3,p4⟩:=p
 obtain ⟨q1,q2,q3,q4⟩:=q
 have u3:=Tryz.underlying3
 have a3:=Tryz.isAgg3
 have z3:=Tryz.sizeOf3
 have a26:=Tryz.isAgg23
 have z26:=Tryz.sizeOf23
 have hS:Tryz.prog.underlying 25=some (.struct (Tryz.prog.fieldsOf 25)):=by kernel_rfl
 have hp:Tryz.prog.stoodInHeld 25=false:=by kernel_rfl
 have hS2:Tryz.prog.underlying 23=some (.struct (Tryz.prog.fieldsOf 23)):=by kernel_rfl
 have hp2:Tryz.prog.stoodInHeld 23=false:=by kernel_rfl
 have two:∀ (d:Nat) (x1 x2 y1 y2:Int) (w:World),(Op.equalIn (d+1+1) 23 (.agg #[.int .i64 x1,.int .i64 x2]) (.agg #[.int .i64 y1,.int .i64 y2])).run Tryz.prog w=.ok (decide (x1=y1∧x2=y2)) w:=by
  intro d x1 x2 y1 y2 w
  rw [run_equalIn_agg w (d+1) 23 _ _ hS2 hp2]
  simp only [Program.fieldsOf,Tryz.underlying23]
  go_simp
  by_cases h1:x1=y1<;>by_cases h2:x2=y2<;>simp [h1,h2]
 have t1:∀ w,(Op.equalIn 9999 23 (.agg #[.int .i64 p1,.int .i64 p2]) (.agg #[.int .i64 q1,.int .i64 q2])).run Tryz.prog w=.ok (decide (p1=q1∧p2=q2)) w:=two 9997 p1 p2 q1 q2
 have t2:∀ w,(Op.equalIn 9999 23 (.agg #[.int .i64 p3,.int .i64 p4]) (.agg #[.int .i64 q3,.int .i64 q4])).run Tryz.prog w=.ok (decide (p3=q3∧p4=q4)) w:=two 9997 p3 p4 q3 q4
 have hd:decide ((⟨p1,p2,p3,p4⟩:Prg)=⟨q1,q2,q3,q4⟩)=(decide (p1=q1∧p2=q2)&&decide (p3=q3∧p4=q4)):=by
  rw [Bool.eq_iff_iff];simp [and_assoc]
 rw [hd]
 clear hd two
 generalize decide (p1=q1∧p2=q2)=b1 at *
 generalize decide (p3=q3∧p4=q4)=b2 at *
 unfold encV
 rw [show (10000:Nat)=9999+1 from rfl,run_equalIn_agg w 9999 25 _ _ hS hp]
 simp only [Program.fieldsOf,Tryz.underlying25]
 go_simp
 cases b1<;>cases b2<;>simp
theorem OwnP.ne_mark {w:World} {b:Nat} {S:List Prg} (h:OwnP w b S) {D:Nat} {x:Option (List Deferred)} (hd:w.heap[D]?=some (.deferred x)):some D≠some b:=by
 rintro e
 injection e with e
 subst e
 obtain ⟨n,D',⟨es,clock,hh,_⟩,_⟩:=h
 rw [hd] at hh
 cases hh
def RangeP (w:World) (b r:Nat) (S came:List Prg) (cnt:Nat):Prop :=
 ∃ n D left,w.ranges Tryz.prog 25 (plainElem (H:=Unit) Tryz.prog 4) b r n D left cnt∧n≤S.length∧SetP D S∧(∀ p∈S,WfP p)∧came.Nodup∧(∀ p∈came,p∈S) ∧
  ∀ p,WfP p→left (keyP p)=decide (p∈S∧p ∉ came)
theorem RangeP.own {w:World} {b r:Nat} {S came:List Prg} {cnt:Nat} (h:RangeP w b r S came cnt):OwnP w b S:=by
 obtain ⟨n,D,left,h1,h2,h3,h4,_⟩:=h
 exact ⟨n,D,h1.owns,h2,h3,h4⟩
theorem RangeP.lt {w:World} {b r:Nat} {S came:List Prg} {cnt:Nat} (h:RangeP w b r S came cnt):r<w.heap.size:=by obtain ⟨n,D,left,h1,_⟩:=h;exact h1.lt
theorem RangeP.left_eq {w:World} {b r:Nat} {S came:List Prg} {cnt:Nat} (h:RangeP w b r S came cnt):w.rangeLeft b r=cnt:=by obtain ⟨n,D,left,h1,_⟩:=h;exact h1.left_eq
theorem RangeP.keep_ {w w':World} {b r:Nat} {S came:List Prg} {cnt:Nat} (h:RangeP w b r S came cnt) (hb:w'.heap[b]?=w.heap[b]?) (hr:w'.heap[r]?=w.heap[r]?):RangeP w' b r S came cnt:=by
 obtain ⟨n,D,left,⟨es,clock,since,seen,c0,g1,F,g2,g3,g4,g5⟩,h2⟩:=h
 exact ⟨n,D,left,⟨es,clock,since,seen,c0,hb.trans g1,F,g2,g3,hr.trans g4,g5⟩,h2⟩
theorem RangeP.keep {w w':World} {b r:Nat} {S came:List Prg} {cnt:Nat} (h:RangeP w b r S came cnt) (hb:Below w.heap.size w w'):RangeP w' b r S came cnt:=h.keep_ (hb.block b h.own.lt) (hb.block r h.lt)
theorem RangeP.alloc {w:World} {b r:Nat} {S came:List Prg} {cnt:Nat} (h:RangeP w b r S came cnt) (o:Obj):RangeP (w.alloc o) b r S came cnt:=h.keep_ (Below.heap_alloc w o b h.own.lt) (Below.heap_alloc w o r h.lt)
theorem RangeP.drew {w:World} {b r:Nat} {S came:List Prg} {cnt:Nat} (h:RangeP w b r S came cnt):RangeP w.drew b r S came cnt:=h.keep_ rfl rfl
theorem mark_ne_row {w:World} {D:Nat} {x:Option (List Deferred)} (hd:w.heap[D]?=some (.deferred x)) {base:Nat} {e:TypeId} {size:Nat} {v:Value} {n:Nat} {xs:List Value} (ho:w.ownsRow base e size v n xs):some D≠v.ownBlock:=by
 intro hv
 rcases ho.2 with ⟨rfl,_⟩|⟨g,cap,cur,rfl,_,hg,_⟩
 · simp [Value.ownBlock] at hv
 · obtain rfl:D=g:=by simpa [Value.ownBlock] using hv
   rw [hg] at hd
   cases hd
theorem OwnP.ne_row {w:World} {b:Nat} {S:List Prg} (h:OwnP w b S) {base:Nat} {e:TypeId} {size:Nat} {v:Value} {n:Nat} {xs:List Value} (ho:w.ownsRow base e size v n xs):some b≠v.ownBlock:=by
 intro hv
 obtain ⟨m,D',⟨es,clock,hh,_⟩,_⟩:=h
 rcases ho.2 with ⟨rfl,_⟩|⟨g,cap,cur,rfl,_,hg,_⟩
 · simp [Value.ownBlock] at hv
 · obtain rfl:b=g:=by simpa [Value.ownBlock] using hv
   rw [hg] at hh
   cases hh
theorem RangeP.ne_row {w:World} {b r:Nat} {S came:List Prg} {cnt:Nat} (h:RangeP w b r S came cnt) {base:Nat} {e:TypeId} {size:Nat} {v:Value} {n:Nat} {xs:List Value} (ho:w.ownsRow base e size v n xs):v.ownBlock≠some r:=by
 intro hv
 obtain ⟨n,D,left,⟨es,clock,since,seen,c0,g1,F,g2,g3,g4,g5⟩,h2⟩:=h
 rcases ho.2 with ⟨rfl,_⟩|⟨g,cap,cur,rfl,_,hg,_⟩
 · simp [Value.ownBlock] at hv
 · obtain rfl:g=r:=by simpa [Value.ownBlock] using hv
   rw [hg] at g4
   cases g4
theorem RangeP.ne_mark {w:World} {b r:Nat} {S came:List Prg} {cnt:Nat} (h:RangeP w b r S came cnt) {D:Nat} {x:Option (List Deferred)} (hd:w.heap[D]?=some (.deferred x)):some D≠some r:=by
 intro e
 injection e with e
 subst e
 obtain ⟨n,D',left,⟨es,clock,since,seen,c0,g1,F,g2,g3,g4,g5⟩,h2⟩:=h
 rw [hd] at g4
 cases g4
section
variable (w:World) {ops:Array Oper} {rest:List Oper} {o:Oper} {a:Act} {Q:Exit→Act→World→Prop}
set_option maxRecDepth 100000 in
theorem wpList_next_P (hg:o.guard=none) (it:Operand) (hop:o.op=Op.next it false) (b r:Nat) (S came:List Prg) (cnt:Nat) (hit:a.eval it=.pointer (some ⟨r,0,none⟩)) (h:RangeP w b r S came cnt)
 (hDone:(∀ p∈S,p∈came)→wpList Tryz.prog ops Q rest (a.put o.dst (.tuple #[.bool false])) w)
 (hMore:∀ (x:Prg) (c:Bool) (w':World) (cnt':Nat),x∈S→x ∉ came→RangeP w' b r S (came++[x]) cnt'→cnt'<cnt→w.grownBy w' (some r)→w'.heap.size=w.heap.size →
  (Instr.entry (.pointer (some ⟨r,0,none⟩))).run Tryz.prog w'=.ok (.tuple #[encV x,.bool c]) w'→wpList Tryz.prog ops Q rest (a.put o.dst (.tuple #[.bool true,encV x,.bool c])) w') :
 wpList Tryz.prog ops Q (o::rest) a w:=by
 obtain ⟨n,D,left,h1,h2,h3,h4,h5,h6,h7⟩:=h
 refine wpList_next_ranges (α:={ p:Prg // WfP p }) (β:=Bool) w hg it hop 25 lawPR _ (fun x=>encV x.1) Value.bool (fun key kl hk=>?_) (fun v y hv=>?_) b r n D left cnt hit h1 (fun _ hl=>hDone fun p hp=>?_) ?_
 · obtain ⟨p,e,hp⟩:=keyOf_inv hk
   exact ⟨⟨p,hp⟩,e⟩
 · unfold plainElem at hv
   rw [Tryz.underlying4] at hv
   cases v<;>simp at hv
   exact ⟨_,rfl⟩
 · have h8:=h7 p (h4 p hp)
   rw [hl] at h8
   have h9:=of_decide_eq_false h8.symm
   by_cases hc:p∈came
   · exact hc
   · exact absurd ⟨hp,hc⟩ h9
 · rintro ⟨x,hx⟩ c kl y w' cnt' hkey hlk hv hat hrg hlt hgr hsz hen
   obtain rfl:kl=keyP x:=by
    have h8:=keyP_of hx
    rw [hkey] at h8
    injection h8
   rw [h7 x hx] at hlk
   obtain ⟨hxS,hxc⟩:=of_decide_eq_true hlk
   refine hMore x c w' cnt' hxS hxc ⟨n,D,_,hrg,h2,h3,h4,List.nodup_append.2 ⟨h5,by simp,fun a ha b hb e=>by simp at hb;subst e;subst hb;exact hxc ha⟩,fun p hp=>?_,fun p hp=>?_⟩ hlt hgr hsz hen
   · rcases List.mem_append.1 hp with hp|hp
     · exact h6 p hp
     · simp at hp;subst hp;exact hxS
   · show (left (keyP p)&&!(keyP p).sameKey (keyP x))=_
     rw [h7 p hp]
     by_cases e:p=x
     · subst e
       rw [WideAt.sameKey_self (keyP_key hp)]
       simp
     · have hne:(keyP p).sameKey (keyP x)=false:=Maps.sameKey_ne (keyP_ne hp hx e)
       rw [hne]
       simp [e]
end
section
variable {nF:Nat} {F:Fence} (w:World) {ops:Array Oper} {rest:List Oper} {o:Oper} {a:Act} {Q:Exit→Act→World→Prop}
theorem wpListIn_range_P (hg:o.guard=none) (m:Operand) (hop:o.op=Op.range 88 m) (b:Nat) (S:List Prg) (hm:a.eval m=.map (some b)) (hown:OwnP w b S)
 (hK:∀ w' cnt,RangeP w' b w.heap.size S [] cnt→cnt≤S.length→w.grownBy w' none→w'.heap.size=w.heap.size+1→wpListIn F nF Tryz.prog ops Q rest (a.put o.dst (.pointer (some ⟨w.heap.size,0,none⟩))) w') :
 wpListIn F nF Tryz.prog ops Q (o::rest) a w:=by
 obtain ⟨n,D,hown,hn,hS,hw⟩:=hown
 refine wpListIn_range_own w hg m 88 hop 25 4 lawPR Tryz.underlying88 _ b n D hm hown ?_
 intro w' hr hgr hs
 refine hK w' _ ⟨n,D,_,hr,hn,hS,hw,List.nodup_nil,(fun p h=>by cases h),fun p hp=>?_⟩ (Nat.le_trans hown.size_le hn) hgr hs
 rw [hS.2.1 p hp]
 simp
theorem wpListIn_store_P (hg:o.guard=none) (m x v:Operand) (hop:o.op=Op.mapUpdate 88 m x v) (b:Nat) (S:List Prg) (hm:a.eval m=.map (some b)) (hown:OwnP w b S) (hl:S.length<100000)
 (p:Prg) (hx:a.eval x=encV p) (hp:WfP p) (hv:a.eval v=.bool true)
 (hK:∀ w',OwnP w' b (S++[p])→w.grownBy w' (some b)→wpListIn F nF Tryz.prog ops Q rest (a.put o.dst undef) w'):wpListIn F nF Tryz.prog ops Q (o::rest) a w:=by
 obtain ⟨n,D,hown,hn,hS,hw⟩:=hown
 refine wpListIn_mapUpdate_own w hg m x v 88 hop 25 4 lawPR Tryz.underlying88 _ b n D hm hown (by unfold maxLen;omega) _ _ (keyP p) hx hv (keyP_of hp) _ [] (plainElem_bool Tryz.underlying4 true) ?_
 intro w' h1 h2
 refine hK w' ⟨n+1,_,h1,by simp;omega,hS.put hp,fun q hq=>?_⟩ h2
 rcases List.mem_append.1 hq with hq|hq
 · exact hw q hq
 · simp at hq;subst hq;exact hp
end
end Go.Proofs.YtebkniakflhhkaaGreatDoor
