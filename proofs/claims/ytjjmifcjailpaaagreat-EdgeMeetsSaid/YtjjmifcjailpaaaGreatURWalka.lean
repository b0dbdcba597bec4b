import Derived.Test.YtjjmifcjailpaaaGreatUEWays
import Derived.Laws.AppendOwnNone
import Derived.Test.YtjjmifcjailpaaaGreatUSet
import Derived.Test.YtjjmifcjailpaaaGreatUWlk
import Derived.Test.YtjjmifcjailpaaaGreatUSums
import Derived.Test.YtjjmifcjailpaaaGreatUChn
import Derived.Test.YtjjmifcjailpaaaGreatURWalk
set_option maxHeartbeats 8000000
set_option linter.unusedSimpArgs false
set_option linter.unusedVariables false
namespace Go.Proofs.YtjjmifcjailpaaaGreat
open Go.Lib (hid)
open Go.RowKit
theorem run_append_where {P:Program} (w:World) (base:Nat) (t ty e:TypeId) (i:TypeInfo) (z:Value) (size bytes:Nat) (ht:P.underlying t=some (.slice e)) (hi:P.info? e=some i) (hz:i.zero=some z)
 (hsize:i.size=size) (hby:i.bytes=bytes) (v:Value) (n:Nat) (xs:List Value) (hown:w.ownsRow base e size v n xs)
 (a:Addr) (m c:Nat) (news:List Value) (hl:news.length=m * size) (hnews:∀ j u,news[j]?=some u→w.cell? (a.add j)=some u) (h1:∀ u∈news,u.oneCell'=true)
 (h63:n+m≤maxLen) (hbytes:(n+m) * bytes≤140737488355328) (hm:0<m) :
 ∃ v' w',(Builtin.append_ #[t,t] ty #[v,.slice (some a) m c]).run P w=.ok v' w'∧(v'.ownBlock=v.ownBlock∨v'.ownBlock=some w.heap.size):=by
 subst hsize
 subst hby
 have hsmall:n+m≤9223372036854775807:=by simp only [maxLen] at h63;omega
 rcases hown.2 with ⟨rfl,rfl⟩|⟨g,cap,cur,rfl,hbg,hg,hnc,hcm,hcs,htake⟩
 · exact ⟨_,_,run_append_nil (P:=P) w t ty e i z ht hi hz a m c news hl hnews hm (by omega) (by have hb:=hbytes;simp only [Nat.zero_add] at hb;omega),.inr rfl⟩
 · by_cases hroom:n+m≤cap
   · exact ⟨_,_,run_append_room (P:=P) w t ty e i ht hi g n cap cur hg a m c news hl hnews h1 hroom (by rw [hl,hcs,← Nat.add_mul];exact Nat.mul_le_mul_right _ hroom),.inl rfl⟩
   · exact ⟨_,_,run_append_grow (P:=P) w t ty e i z ht hi hz ⟨g,0,none⟩ n cap xs hown.1 (hown.cells (g:=g) rfl) a m c news hl hnews (by omega) (by omega) (growslice_fits (by omega) hbytes),.inr rfl⟩
theorem wp_append_own2 {P:Program} (w:World) {o:Oper} {a:Act} {K:Act→World→Prop} {Q:Exit→Act→World→Prop} (s x:Operand) (t:TypeId)
 (ho:o.op=.call { callee:=.builtin .append,args:=#[s,x],argTypes:=#[t,t] })
 (base:Nat) (e:TypeId) (i:TypeInfo) (z:Value) (size bytes:Nat) (ht:P.underlying t=some (.slice e)) (hi:P.info? e=some i) (hz:i.zero=some z)
 (hsize:i.size=size) (hby:i.bytes=bytes) (hzs:z.cells.size=size) (hsz:0<size)
 (v:Value) (n:Nat) (xs:List Value) (hs:a.eval s=v) (hown:w.ownsRow base e size v n xs)
 (ad:Addr) (m c:Nat) (news:List Value) (hx:a.eval x=.slice (some ad) m c) (hl:news.length=m * size) (hnews:∀ j u,news[j]?=some u→w.cell? (ad.add j)=some u) (h1:∀ u∈news,u.oneCell'=true)
 (h63:n+m≤maxLen) (hbytes:(n+m) * bytes≤140737488355328) (hbase:base≤w.heap.size) (hm:0<m)
 (h:∀ v' w',w'.ownsRow base e size v' (n+m) (xs++news)→w.grownBy w' v.ownBlock→(v'.ownBlock=v.ownBlock∨v'.ownBlock=some w.heap.size)→K (a.put o.dst v') w'):o.wp P a w K Q:=by
 obtain ⟨v',w',hr,h2,h3,h4⟩:=run_append_own (P:=P) w base t o.type e i z size bytes ht hi hz hsize hby hzs hsz v n xs hown ad m c news hl hnews h1 h63 hbytes hbase
 obtain ⟨v2,w2,hr2,h5⟩:=run_append_where (P:=P) w base t o.type e i z size bytes ht hi hz hsize hby v n xs hown ad m c news hl hnews h1 h63 hbytes hm
 rw [hr] at hr2
 injection hr2 with e1 e2
 subst e1
 unfold Oper.wp execOp
 simp only [ho,resolve,invoke,builtin,Sem.run_bind,Sem.run_pure,Result.andThen_ok,List.map_toArray,List.map_cons,List.map_nil,hs,hx,hr]
 exact h v' w' h2 h3 h5
theorem wpList_append_own2 {P:Program} (w:World) {ops:Array Oper} {rest:List Oper} {o:Oper} {a:Act} {Q:Exit→Act→World→Prop} (hgd:o.guard=none) (s x:Operand) (t:TypeId)
 (ho:o.op=.call { callee:=.builtin .append,args:=#[s,x],argTypes:=#[t,t] })
 (base:Nat) (e:TypeId) (i:TypeInfo) (z:Value) (size bytes:Nat) (ht:P.underlying t=some (.slice e)) (hi:P.info? e=some i) (hz:i.zero=some z)
 (hsize:i.size=size) (hby:i.bytes=bytes) (hzs:z.cells.size=size) (hsz:0<size)
 (v:Value) (n:Nat) (xs:List Value) (hs:a.eval s=v) (hown:w.ownsRow base e size v n xs)
 (ad:Addr) (m c:Nat) (news:List Value) (hx:a.eval x=.slice (some ad) m c) (hl:news.length=m * size) (hnews:∀ j u,news[j]?=some u→w.cell? (ad.add j)=some u) (h1:∀ u∈news,u.oneCell'=true)
 (h63:n+m≤maxLen) (hbytes:(n+m) * bytes≤140737488355328) (hbase:base≤w.heap.size) (hm:0<m)
 (h:∀ v' w',w'.ownsRow base e size v' (n+m) (xs++news)→w.grownBy w' v.ownBlock→(v'.ownBlock=v.ownBlock∨v'.ownBlock=some w.heap.size)→wpList P ops Q rest (a.put o.dst v') w'):wpList P ops Q (o::rest) a w :=
 wpList_plain hgd fun _ hK=>wp_append_own2 w s x t ho base e i z size bytes ht hi hz hsize hby hzs hsz v n xs hs hown ad m c news hx hl hnews h1 h63 hbytes hbase hm fun v' w' h2 h3 h4=>hK _ _ (h v' w' h2 h3 h4)
theorem own_kept2 {w w':World} {base:Nat} {e:TypeId} {size n:Nat} {v u:Value} {xs:List Value} (hu:w.ownsRow base e size u n xs) (hg:w.grownBy w' v.ownBlock) (h:Apart v u):w'.ownsRow base e size u n xs :=
 hu.kept hg (by rcases h.symm with h|h;exact .inl h;exact .inr h)
theorem has_any (A:Option Addr) (m d:Nat) (x:List Int) (v:Int) (w:World) (hr:RdI w A m d x) (hm:m≤maxLen) :
 Calls Tryz.prog 121 #[.slice A m d,.int .i64 v] w fun e w'=>e=.returned (.bool (x.contains v))∧w=w':=by
 unfold maxLen at hm
 have hl:=hr.len
 have HR:=hid hr;have HL:=hid hl;clear hr hl
 go_enter Tryz.func121,Tryz.ntmps121
 go_wp2
 go_loopw [5] (fun i wr=>∃ k:Nat,k≤m∧i=.int .i64 k∧v ∉ x.take k∧w=wr) (fun i _=>m-(intOf i).toNat)
 case atStart=>exact ⟨0,Nat.zero_le _,rfl,by simp,rfl⟩
 case round =>
  obtain ⟨k,hk,rfl,hno,rfl⟩:=hrel
  have HNO:=hid hno;clear hno
  by_cases hlt:k<m
  · obtain ⟨b,o,u,rfl,hbw,hx,c0⟩:=HR.out.get hlt
    have HX:=hid hx;clear hx
    by_cases hu:u=v
    · have h1:(u == v)=true:=by simpa using hu
      have HU:=hid hu;clear hu
      go_wp2
      go_ret
      exact ⟨ret_bool (by rw [List.contains_iff_mem.2 (by rw [← HU.out];exact List.mem_of_getElem? HX.out)]),by first|rfl|trivial⟩
    · have h1:(u == v)=false:=by simpa using hu
      have HU:=hid hu;clear hu
      go_wp2
      go_roundw
      case rel=>exact ⟨k+1,by omega,by go_num,(by
       rw [List.take_add_one,HX.out]
       intro h
       rcases List.mem_append.1 h with h|h
       · exact HNO.out h
       · simp at h;exact HU.out h.symm),by first|rfl|trivial⟩
      case measure=>simp [intOf];omega
  · obtain rfl:k=m:=by omega
    have hno:v ∉ x:=by have:=HNO.out;rwa [List.take_of_length_le (by rw [HL.out];exact Nat.le_refl _)] at this
    have HN:=hid hno;clear hno
    go_wp2
    go_ret
    exact ⟨ret_bool (by symm;rw [← Bool.not_eq_true,List.contains_iff_mem];exact HN.out),by first|rfl|trivial⟩
end Go.Proofs.YtjjmifcjailpaaaGreat
/- The reference's CheckSystem. -/
namespace Go.Proofs.YtjjmifcjailpaaaGreat
open Go.Lib (hid)
open Go.RowKit
end Go.Proofs.YtjjmifcjailpaaaGreat
/- The reference's asked. -/
namespace Go.Proofs.YtjjmifcjailpaaaGreat
open Go.Lib (hid)
open Go.RowKit
end Go.Proofs.YtjjmifcjailpaaaGreat
/- The reference's copied. -/
namespace Go.Proofs.YtjjmifcjailpaaaGreat
open Go.Lib (hid)
open Go.RowKit
end Go.Proofs.YtjjmifcjailpaaaGreat
/- The reference's SameSystem. -/
namespace Go.Proofs.YtjjmifcjailpaaaGreat
open Go.Lib (hid)
open Go.RowKit
end Go.Proofs.YtjjmifcjailpaaaGreat
/- wide, small, three: what the laws of layer 1 begin with. -/
namespace Go.Proofs.YtjjmifcjailpaaaGreat
open Go.Lib (hid)
open Go.RowKit
def lastNe (T:List Int) (f:Int):Bool:=match T.getLast? with|some t=>decide (t≠f)|none=>false
def walkR (l:List Bnd):List Int→List Int→List Int→Int→Int × Bool
 | [],_,_,s=>(s,true)
 | i::r,F,T,s =>
  if 0≤i∧i<l.length then
   match l[i.toNat]? with
   | some b=>if (F.contains b.f || T.contains b.t || lastNe T b.f)=true then (0,false) else walkR l r (F++[b.f]) (T++[b.t]) (s+b.m)
   | none=>(0,false)
  else (0,false)
theorem walkR_out {l:List Bnd} {i:Int} {r F T:List Int} {s:Int} (h:¬ (0≤i∧i<l.length)):walkR l (i::r) F T s=(0,false):=by unfold walkR;rw [if_neg h]
theorem walkR_in {l:List Bnd} {k:Nat} {b:Bnd} {r F T:List Int} {s:Int} (h:l[k]?=some b):walkR l ((k:Int)::r) F T s=if (F.contains b.f || T.contains b.t || lastNe T b.f)=true then (0,false) else walkR l r (F++[b.f]) (T++[b.t]) (s+b.m):=by
 have:=(List.getElem?_eq_some_iff.1 h).1
 rw [walkR,if_pos (by omega)]
 simp only [Int.toNat_natCast,h]
theorem lastNe_at {T:List Int} {j:Nat} {t f:Int} (hl:T.length=j+1) (h:T[j]?=some t):lastNe T f=decide (t≠f):=by
 have:T.getLast?=some t:=by rw [List.getLast?_eq_getElem?,hl];exact h
 unfold lastNe
 rw [this]
theorem own_drewN {w:World} {base:Nat} {e:TypeId} {size:Nat} {v:Value} {n:Nat} {xs:List Value} (h:w.ownsRow base e size v n xs) (q:Nat):(w.drewN q).ownsRow base e size v n xs:=h
set_option maxRecDepth 100000 in
theorem rwalk_any (p:Int) (A B:Option Addr) (n c m d:Nat) (l:List Bnd) (x:List Int) (w:World) (hr:RdB w A n c l) (hn4:n≤402) (hok:OkB l) (hq:RdI w B m d x) (hm:m≤100) :
 Calls Tryz.prog 88 #[.agg #[.int .i64 p,.slice A n c],.slice B m d] w fun e w'=>e=.returned (.tuple #[.int .i64 (walkR l x [] [] 0).1,.bool (walkR l x [] [] 0).2])∧Below w.heap.size w w':=by
 obtain ⟨V,hV⟩:∃ V,walkR l x [] [] 0=V:=⟨_,rfl⟩
 rw [hV]
 have hl:=hr.len
 have hxl:=hq.len
 obtain ⟨i0,hi0,hz0,hz1,hz2⟩:=info_parts infoI
 have HI:=hid hi0;have HZ0:=hid hz0;have HZ1:=hid hz1;have HZ2:=hid hz2;clear hi0 hz0 hz1 hz2
 have HR:=hid hr;have HQ:=hid hq;have HOK:=hid hok;clear hr hq hok
 have hB:Below w.heap.size w (w.alloc (.cells #[.int .i64 p,.slice A n c] 84)):=(Below.refl _ w).alloc (Nat.le_refl _) _
 have B0:=hid (Blk.new w 84 #[.int .i64 p,.slice A n c])
 go_enter Tryz.func88,Tryz.ntmps88
 go_wp2
 go_loopw [9,6,7,8] (fun i s vF vT wr=>∃ (j:Nat) (FF TT:List Int) (z:Int),j≤m∧i=.int .i64 j∧s=.int .i64 z∧walkR l (x.drop j) FF TT z=V∧TT.length=j∧-(j * 100000000)≤z∧z≤j * 100000000∧wr.ownsRow (w.heap.size+1) 3 1 vF j (FF.map (Value.int .i64))∧wr.ownsRow (w.heap.size+1) 3 1 vT j (TT.map (Value.int .i64))∧Apart vF vT∧Blk wr w.heap.size 84 #[.int .i64 p,.slice A n c]∧Below w.heap.size w wr) (fun i _ _ _ _=>m-(intOf i).toNat)
 case atStart=>exact ⟨0,[],[],0,Nat.zero_le _,rfl,rfl,hV,rfl,by omega,by omega,World.ownsRow_nil _ _ _ _,World.ownsRow_nil _ _ _ _,.inl rfl,B0.out,hB⟩
 case round =>
  clear B0 hB hV
  obtain ⟨j,FF,TT,z,hj,rfl,rfl,hV,hTl,hz1,hz2,hoF,hoT,hap,hbx,hbe⟩:=hrel
  have HV:=hid hV;have HBX:=hid hbx;have HBE:=hid hbe;clear hV hbx hbe
  obtain ⟨AF,cF,hvF,-⟩:=own_form hoF
  subst hvF
  obtain ⟨AT,cT,hvT,-⟩:=own_form hoT
  subst hvT
  have OFB:=hid hoF;have OTB:=hid hoT;have HAP:=hid hap;clear hoF hoT hap
  have z1:wr.cell? ⟨w.heap.size,1,none⟩=some (.slice A n c):=Blk.cell HBX.out 1
  by_cases hlt:j<m
  · have hlt':(j:Int)<m:=by omega
    obtain ⟨i,hi⟩:∃ v,x[j]?=some v:=⟨x[j]'(by omega),List.getElem?_eq_getElem _⟩
    have hdr:=drop_at hi
    obtain ⟨bx,ox,hBx⟩:=rdI_some HQ.out hi
    subst hBx
    have HXI:=hid hi;clear hi
    obtain ⟨ca,cl⟩:=rdI_at (RdI.below HQ.out HBE.out) HXI.out
    by_cases hin:0≤i∧i<n
    · obtain ⟨k,rfl⟩:=Int.eq_ofNat_of_zero_le hin.1
      have hkn:k<n:=by omega
      obtain ⟨⟨f,t,mm,id⟩,hx2⟩:∃ b,l[k]?=some b:=⟨l[k]'(by omega),List.getElem?_eq_getElem _⟩
      obtain ⟨ba,oa,hA⟩:=rdB_some HR.out hx2
      subst hA
      obtain ⟨-,-,-,-,hmm1,hmm2⟩:=HOK.out _ (List.mem_of_getElem? hx2)
      dsimp only at hmm1 hmm2
      have hstep:=(congrArg (fun q=>walkR l q FF TT z) hdr).trans (walkR_in (r:=x.drop (j+1)) (F:=FF) (T:=TT) (s:=z) hx2)
      dsimp only at hstep
      have HSTEP:=hid hstep;have HX:=hid hx2;clear hstep hx2 hdr
      have hd1:decide ((k:Int)<0)=false:=decide_eq_false (by omega)
      have hd2:decide ((n:Int)≤(k:Int))=false:=decide_eq_false (by omega)
      have hd3:decide (n≤k)=false:=decide_eq_false (by omega)
      go_wp2_with fail
      go_quiet (fail)
      go_wp2_with fail
      clear ca cl z1 hd1 hd2 hd3
      have C0:=hid (Blk.drew (blk_drewN HBX.out nq));have OF0:=hid (World.ownsRow.drew (own_drewN OFB.out nq));have OT0:=hid (World.ownsRow.drew (own_drewN OTB.out nq));have BE0:=hid (Below.drew (bdN HBE.out nq))
      have hws:(World.drewN wr nq).heap.size=wr.heap.size:=rfl
      generalize hW0:World.drewN wr nq=W0 at *
      refine wp_region_held_drew (S:=(fun W'=>Blk W' w.heap.size 84 #[.int .i64 p,.slice (some ⟨ba,oa,none⟩) n c]∧Below w.heap.size w W')) (by kernel_rfl) ⟨C0.out,BE0.out⟩ (fun _=>?_)
      obtain ⟨a4,a5⟩:∃ w',w'=W0.drew:=⟨_,rfl⟩
      rw [← a5] at C0 OF0 OT0 BE0
      rw [← a5]
      clear a5
      refine' twH 0 ⟨C0.out,BE0.out⟩ ?_
      refine' tkH 1 ⟨C0.out,BE0.out⟩ ?b3 ?_
      case b3=>(rintro W' ⟨hS0,hS1⟩;have hc0:=Blk.nth hS0 1;clear hS0 hS1;go_simp;try with_reducible rfl)
      refine' twH 2 ⟨C0.out,BE0.out⟩ ?_
      refine' twH 3 ⟨C0.out,BE0.out⟩ ?_
      try simp only [pq]
      refine' twH 4 ⟨C0.out,BE0.out⟩ ?_
      refine' tkH 5 ⟨C0.out,BE0.out⟩ ?b4 ?_
      case b4=>(rintro W' ⟨hS0,hS1⟩;obtain ⟨ca,cl⟩:=rdI_at (RdI.below HQ.out hS1) HXI.out;go_simp;try with_reducible rfl)
      refine' twH 6 ⟨C0.out,BE0.out⟩ ?_
      refine' tkH 7 ⟨C0.out,BE0.out⟩ ?b5 ?_
      case b5=>(rintro W' ⟨hS0,hS1⟩;obtain ⟨ca,cb,cc,cd,cl⟩:=rdB_at (RdB.below HR.out hS1) HX.out;go_simp;try with_reducible rfl)
      try simp only [pq]
      refine oneH 8 rfl fun K hK=>?_
      go_simp
      have NLF:=hid (fun (q:Nat) (e:Value.ownBlock (.slice AF j cF)=some q)=>show q<(a4).heap.size from (World.ownsRow.lt OF0.out q e).2)
      have NLT:=hid (fun (q:Nat) (e:Value.ownBlock (.slice AT j cT)=some q)=>show q<(a4).heap.size from (World.ownsRow.lt OT0.out q e).2)
      have b1:=hid (Nat.ne_of_lt (Blk.lt C0.out))
      have b2:=hid (BE0.out.size)
      obtain ⟨o_,ho_⟩:∃ o,o=(.cells #[.int .i64 0,.int .i64 0,.int .i64 0,.int .i64 0] 70:Obj):=⟨_,rfl⟩
      replace C0:=kA C0 o_
      replace OF0:=hid (World.ownsRow.alloc (OF0.out) (o_))
      replace OT0:=hid (World.ownsRow.alloc (OT0.out) (o_))
      replace BE0:=bA BE0 o_
      subst ho_
      have a2:=hid (Blk.new (a4) 70 #[.int .i64 0,.int .i64 0,.int .i64 0,.int .i64 0])
      obtain ⟨a0,a6⟩:∃ g,g=(a4).heap.size:=⟨_,rfl⟩
      obtain ⟨a3,a7⟩:∃ w',w'=(a4).alloc (.cells #[.int .i64 0,.int .i64 0,.int .i64 0,.int .i64 0] 70):=⟨_,rfl⟩
      rw [← a7] at C0 OF0 OT0 BE0 a2
      rw [← a6] at b1 b2 a2 NLF NLT
      rw [← a6,← a7]
      clear a6 a7
      refine hK.out _ _ ⟨C0.out,BE0.out⟩ (fun _=>?_);clear hK K
      try simp only [pq]
      refine oneH 9 rfl fun K hK=>?_
      have v0:a3.cell? ⟨a0,0,none⟩=some (.int .i64 0):=Blk.cell a2.out 0
      have f0:a3.frozen? ⟨a0,0,none⟩=false:=Blk.frozen a2.out 0
      have v1:a3.cell? ⟨a0,1,none⟩=some (.int .i64 0):=Blk.cell a2.out 1
      have f1:a3.frozen? ⟨a0,1,none⟩=false:=Blk.frozen a2.out 1
      have v2:a3.cell? ⟨a0,2,none⟩=some (.int .i64 0):=Blk.cell a2.out 2
      have f2:a3.frozen? ⟨a0,2,none⟩=false:=Blk.frozen a2.out 2
      have v3:a3.cell? ⟨a0,3,none⟩=some (.int .i64 0):=Blk.cell a2.out 3
      have f3:a3.frozen? ⟨a0,3,none⟩=false:=Blk.frozen a2.out 3
      have hgb:w.heap.size<a0:=by have:=Blk.lt C0.out;have:=b1.out;have:=b2.out;omega
      go_simp
      have b6:=hid ((Blk.set_ ((Blk.set_ ((Blk.set_ ((Blk.set_ (a2.out) 0 (.int .i64 f))) 1 (.int .i64 t))) 2 (.int .i64 mm))) 3 (.int .i64 id)))
      have a9:=hid ((Blk.far ((Blk.far ((Blk.far ((Blk.far (C0.out) (p:=⟨a0,0,none⟩) (by simp;omega) (.int .i64 f))) (p:=⟨a0,1,none⟩) (by simp;omega) (.int .i64 t))) (p:=⟨a0,2,none⟩) (by simp;omega) (.int .i64 mm))) (p:=⟨a0,3,none⟩) (by simp;omega) (.int .i64 id)))
      have b0:=hid ((Below.setCell ((Below.setCell ((Below.setCell ((Below.setCell (BE0.out) (p:=⟨a0,0,none⟩) (by simp;omega) (.int .i64 f))) (p:=⟨a0,1,none⟩) (by simp;omega) (.int .i64 t))) (p:=⟨a0,2,none⟩) (by simp;omega) (.int .i64 mm))) (p:=⟨a0,3,none⟩) (by simp;omega) (.int .i64 id)))
      have b7:=hid ((own_far ((own_far ((own_far ((own_far (OF0.out) (a:=⟨a0,0,none⟩) (fun e=>absurd (NLF.out _ e) (Nat.lt_irrefl _)) (.int .i64 f))) (a:=⟨a0,1,none⟩) (fun e=>absurd (NLF.out _ e) (Nat.lt_irrefl _)) (.int .i64 t))) (a:=⟨a0,2,none⟩) (fun e=>absurd (NLF.out _ e) (Nat.lt_irrefl _)) (.int .i64 mm))) (a:=⟨a0,3,none⟩) (fun e=>absurd (NLF.out _ e) (Nat.lt_irrefl _)) (.int .i64 id)))
      have b8:=hid ((own_far ((own_far ((own_far ((own_far (OT0.out) (a:=⟨a0,0,none⟩) (fun e=>absurd (NLT.out _ e) (Nat.lt_irrefl _)) (.int .i64 f))) (a:=⟨a0,1,none⟩) (fun e=>absurd (NLT.out _ e) (Nat.lt_irrefl _)) (.int .i64 t))) (a:=⟨a0,2,none⟩) (fun e=>absurd (NLT.out _ e) (Nat.lt_irrefl _)) (.int .i64 mm))) (a:=⟨a0,3,none⟩) (fun e=>absurd (NLT.out _ e) (Nat.lt_irrefl _)) (.int .i64 id)))
      obtain ⟨a1,a8⟩:∃ w',w'=((((a3.setCell ⟨a0,0,none⟩ (.int .i64 f)).setCell ⟨a0,1,none⟩ (.int .i64 t)).setCell ⟨a0,2,none⟩ (.int .i64 mm)).setCell ⟨a0,3,none⟩ (.int .i64 id)):=⟨_,rfl⟩
      rw [← a8] at b6 a9 b0 b7 b8
      rw [← a8]
      clear a8 v0 v1 v2 v3 f0 f1 f2 f3
      have b9:=hid (show Blk a1 a0 70 #[.int .i64 f,.int .i64 t,.int .i64 mm,.int .i64 id] from b6.out)
      refine hK.out _ _ ⟨a9.out,b0.out⟩ (fun _=>?_);clear hK K
      try simp only [pq]
      refine wpAnyH_done (by kernel_rfl) ?_ _
      have NB:=b9;have BX:=a9;have BE:=b0;have OF:=b7;have OT:=b8
      have hlg:=Blk.lt NB.out
      have n0:a1.cell? ⟨a0,0,none⟩=some (.int .i64 f):=Blk.cell NB.out 0
      have n1:a1.cell? ⟨a0,1,none⟩=some (.int .i64 t):=Blk.cell NB.out 1
      have n2:a1.cell? ⟨a0,2,none⟩=some (.int .i64 mm):=Blk.cell NB.out 2
      have hf:=has_any AF j cF FF f a1 (OwnI.rd OF.out).1 (by unfold maxLen;omega)
      have ht:=has_any AT j cT TT t a1 (OwnI.rd OT.out).1 (by unfold maxLen;omega)
      cases qF:FF.contains f
      · cases qT:TT.contains t
        · have HF:=hid (show Calls Tryz.prog 121 #[.slice AF j cF,.int .i64 f] a1 fun e w'=>e=.returned (.bool false)∧a1=w' from qF ▸ hf);have HT:=hid (show Calls Tryz.prog 121 #[.slice AT j cT,.int .i64 t] a1 fun e w'=>e=.returned (.bool false)∧a1=w' from qT ▸ ht);clear hf ht
          cases j with
          | zero =>
           have hln:lastNe TT f=false:=by rw [List.length_eq_zero_iff.1 hTl];rfl
           have HGV:=hid ((HSTEP.out.trans (if_neg (by rw [qF,qT,hln];simp))).symm.trans HV.out)
           clear qF qT hln
           go_wp2_with (first | (go_at_call 121;with_reducible refine HF.out.mono ?_;rintro e w' ⟨rfl,rfl⟩;clear HF) | (go_at_call 121;with_reducible refine HT.out.mono ?_;rintro e w' ⟨rfl,rfl⟩;clear HT))
           go_quiet (fail)
           have NB2:=hid (blk_drewN NB.out nq);have BX2:=hid (blk_drewN BX.out nq);have BE2:=hid (bdN BE.out nq);have OF2:=hid (own_drewN OF.out nq);have OT2:=hid (own_drewN OT.out nq)
           clear NB BX BE OF OT n0 n1 n2
           generalize World.drewN a1 nq=Wd at *
           have hle:=Below.size BE2.out;have hlb:=Blk.lt BX2.out
           have n0:Wd.cell? ⟨a0,0,none⟩=some (.int .i64 f):=Blk.cell NB2.out 0
           have N1:=hid (Blk.new Wd 3 #[.int .i64 f])
           have OF3:=hid (World.ownsRow.alloc OF2.out (.cells #[.int .i64 f] 3));have OT3:=hid (World.ownsRow.alloc OT2.out (.cells #[.int .i64 f] 3));have NB3:=hid (Blk.alloc NB2.out (.cells #[.int .i64 f] 3));have BX3:=hid (Blk.alloc BX2.out (.cells #[.int .i64 f] 3));have BE3:=hid (Below.alloc BE2.out hle (.cells #[.int .i64 f] 3))
           clear OF2 OT2 NB2 BX2 BE2
           go_wp2_with (at_builtin;first | (refine wpList_append_own2 _ rfl (.tmp 68) (.tmp 71) 34 rfl (w.heap.size+1) 3 i0 _ 1 8 Tryz.underlying34 HI.out HZ0.out HZ1.out HZ2.out rfl (by omega) (.slice AF 0 cF) 0 _ rfl OF3.out ⟨Wd.heap.size,0,none⟩ 1 1 [.int .i64 f] rfl rfl (fun j u hu=>by rw [Addr.add_lit,Nat.zero_add,N1.out.cell];simpa using hu) (by simp [Value.oneCell']) (by unfold maxLen;omega) (by omega) (by simp only [World.size_alloc];omega) (by omega) ?_;intro v4 w4 hown4 hg4 hwh4;have HO4:=hid hown4;have HG4:=hid hg4;have HW4:=hid hwh4;clear hown4 hg4 hwh4 n0;have hlr4:=World.ownsRow.lt OF3.out;have OT4:=hid (own_kept2 OT3.out HG4.out HAP.out);have HAP4:=hid (Apart.grown HAP.out HW4.out OT3.out);have NB4:=hid (blk_grown NB3.out HG4.out (fun e=>absurd (NLF.out _ e) (Nat.lt_irrefl _)));have BX4:=hid (blk_grown BX3.out HG4.out (fun e=>by have:=(hlr4 _ e).1;omega));have BE4:=hid (Below.grown BE3.out HG4.out BE3.out.size (fun q e=>by have:=(hlr4 q e).1;omega));clear OF3 OT3 NB3 BX3 BE3 hlr4 HG4 HW4 HAP;have hle4:=Below.size BE4.out;have hlb4:=Blk.lt BX4.out;have n1:w4.cell? ⟨a0,1,none⟩=some (.int .i64 t):=Blk.cell NB4.out 1;have N5:=hid (Blk.new w4 3 #[.int .i64 t]);have OF5:=hid (World.ownsRow.alloc HO4.out (.cells #[.int .i64 t] 3));have OT5:=hid (World.ownsRow.alloc OT4.out (.cells #[.int .i64 t] 3));have NB5:=hid (Blk.alloc NB4.out (.cells #[.int .i64 t] 3));have BX5:=hid (Blk.alloc BX4.out (.cells #[.int .i64 t] 3));have BE5:=hid (Below.alloc BE4.out hle4 (.cells #[.int .i64 t] 3));clear HO4 OT4 NB4 BX4 BE4) | (refine wpList_append_own2 _ rfl (.tmp 73) (.tmp 76) 34 rfl (w.heap.size+1) 3 i0 _ 1 8 Tryz.underlying34 HI.out HZ0.out HZ1.out HZ2.out rfl (by omega) (.slice AT 0 cT) 0 _ rfl OT5.out ⟨w4.heap.size,0,none⟩ 1 1 [.int .i64 t] rfl rfl (fun j u hu=>by rw [Addr.add_lit,Nat.zero_add,N5.out.cell];simpa using hu) (by simp [Value.oneCell']) (by unfold maxLen;omega) (by omega) (by simp only [World.size_alloc];omega) (by omega) ?_;intro v6 w6 hown6 hg6 hwh6;have HO6:=hid hown6;have HG6:=hid hg6;have HW6:=hid hwh6;clear hown6 hg6 hwh6 n1;have hlr6:=World.ownsRow.lt OT5.out;have OF6:=hid (own_kept2 OF5.out HG6.out (Apart.symm HAP4.out));have HAP6:=hid (Apart.symm (Apart.grown (Apart.symm HAP4.out) HW6.out OF5.out));have NB6:=hid (blk_grown NB5.out HG6.out (fun e=>absurd (NLT.out _ e) (Nat.lt_irrefl _)));have BX6:=hid (blk_grown BX5.out HG6.out (fun e=>by have:=(hlr6 _ e).1;omega));have BE6:=hid (Below.grown BE5.out HG6.out BE5.out.size (fun q e=>by have:=(hlr6 q e).1;omega));clear OF5 OT5 NB5 BX5 BE5 hlr6 HG6 HW6 HAP4;have n2:w6.cell? ⟨a0,2,none⟩=some (.int .i64 mm):=Blk.cell NB6.out 2))
           go_roundw
           case rel=>exact ⟨0+1,FF++[f],TT++[t],z+mm,by omega,by go_num,rfl,HGV.out,by rw [List.length_append,hTl];rfl,by omega,by omega,by rw [List.map_append];exact OF6.out,by rw [List.map_append];exact HO6.out,HAP6.out,BX6.out,BE6.out⟩
           case measure=>(simp [intOf];omega)
          | succ j =>
           obtain ⟨t1,ht1⟩:∃ v,TT[j]?=some v:=⟨TT[j]'(by omega),List.getElem?_eq_getElem _⟩
           have hln:=lastNe_at (f:=f) hTl ht1
           obtain ⟨bT,oT,hAT⟩:=rdI_some (OwnI.rd OT.out).1 ht1
           subst hAT
           obtain ⟨ct,clt⟩:=rdI_at (OwnI.rd OT.out).1 ht1
           clear ht1
           by_cases hlast:t1=f
           · subst hlast
             have HGV:=hid ((HSTEP.out.trans (if_neg (by rw [qF,qT,hln];simp))).symm.trans HV.out)
             clear qF qT hln
             go_wp2_with (first | (go_at_call 121;with_reducible refine HF.out.mono ?_;rintro e w' ⟨rfl,rfl⟩;clear HF) | (go_at_call 121;with_reducible refine HT.out.mono ?_;rintro e w' ⟨rfl,rfl⟩;clear HT))
             go_quiet (fail)
             have NB2:=hid (blk_drewN NB.out nq);have BX2:=hid (blk_drewN BX.out nq);have BE2:=hid (bdN BE.out nq);have OF2:=hid (own_drewN OF.out nq);have OT2:=hid (own_drewN OT.out nq)
             clear NB BX BE OF OT n0 n1 n2
             generalize World.drewN a1 nq=Wd at *
             have hle:=Below.size BE2.out;have hlb:=Blk.lt BX2.out
             have n0:Wd.cell? ⟨a0,0,none⟩=some (.int .i64 t1):=Blk.cell NB2.out 0
             have N1:=hid (Blk.new Wd 3 #[.int .i64 t1])
             have OF3:=hid (World.ownsRow.alloc OF2.out (.cells #[.int .i64 t1] 3));have OT3:=hid (World.ownsRow.alloc OT2.out (.cells #[.int .i64 t1] 3));have NB3:=hid (Blk.alloc NB2.out (.cells #[.int .i64 t1] 3));have BX3:=hid (Blk.alloc BX2.out (.cells #[.int .i64 t1] 3));have BE3:=hid (Below.alloc BE2.out hle (.cells #[.int .i64 t1] 3))
             clear OF2 OT2 NB2 BX2 BE2
             go_wp2_with (at_builtin;first | (refine wpList_append_own2 _ rfl (.tmp 68) (.tmp 71) 34 rfl (w.heap.size+1) 3 i0 _ 1 8 Tryz.underlying34 HI.out HZ0.out HZ1.out HZ2.out rfl (by omega) (.slice AF (j+1) cF) (j+1) _ rfl OF3.out ⟨Wd.heap.size,0,none⟩ 1 1 [.int .i64 t1] rfl rfl (fun j u hu=>by rw [Addr.add_lit,Nat.zero_add,N1.out.cell];simpa using hu) (by simp [Value.oneCell']) (by unfold maxLen;omega) (by omega) (by simp only [World.size_alloc];omega) (by omega) ?_;intro v4 w4 hown4 hg4 hwh4;have HO4:=hid hown4;have HG4:=hid hg4;have HW4:=hid hwh4;clear hown4 hg4 hwh4 n0;have hlr4:=World.ownsRow.lt OF3.out;have OT4:=hid (own_kept2 OT3.out HG4.out HAP.out);have HAP4:=hid (Apart.grown HAP.out HW4.out OT3.out);have NB4:=hid (blk_grown NB3.out HG4.out (fun e=>absurd (NLF.out _ e) (Nat.lt_irrefl _)));have BX4:=hid (blk_grown BX3.out HG4.out (fun e=>by have:=(hlr4 _ e).1;omega));have BE4:=hid (Below.grown BE3.out HG4.out BE3.out.size (fun q e=>by have:=(hlr4 q e).1;omega));clear OF3 OT3 NB3 BX3 BE3 hlr4 HG4 HW4 HAP;have hle4:=Below.size BE4.out;have hlb4:=Blk.lt BX4.out;have n1:w4.cell? ⟨a0,1,none⟩=some (.int .i64 t):=Blk.cell NB4.out 1;have N5:=hid (Blk.new w4 3 #[.int .i64 t]);have OF5:=hid (World.ownsRow.alloc HO4.out (.cells #[.int .i64 t] 3));have OT5:=hid (World.ownsRow.alloc OT4.out (.cells #[.int .i64 t] 3));have NB5:=hid (Blk.alloc NB4.out (.cells #[.int .i64 t] 3));have BX5:=hid (Blk.alloc BX4.out (.cells #[.int .i64 t] 3));have BE5:=hid (Below.alloc BE4.out hle4 (.cells #[.int .i64 t] 3));clear HO4 OT4 NB4 BX4 BE4) | (refine wpList_append_own2 _ rfl (.tmp 73) (.tmp 76) 34 rfl (w.heap.size+1) 3 i0 _ 1 8 Tryz.underlying34 HI.out HZ0.out HZ1.out HZ2.out rfl (by omega) (.slice (some ⟨bT,oT,none⟩) (j+1) cT) (j+1) _ rfl OT5.out ⟨w4.heap.size,0,none⟩ 1 1 [.int .i64 t] rfl rfl (fun j u hu=>by rw [Addr.add_lit,Nat.zero_add,N5.out.cell];simpa using hu) (by simp [Value.oneCell']) (by unfold maxLen;omega) (by omega) (by simp only [World.size_alloc];omega) (by omega) ?_;intro v6 w6 hown6 hg6 hwh6;have HO6:=hid hown6;have HG6:=hid hg6;have HW6:=hid hwh6;clear hown6 hg6 hwh6 n1;have hlr6:=World.ownsRow.lt OT5.out;have OF6:=hid (own_kept2 OF5.out HG6.out (Apart.symm HAP4.out));have HAP6:=hid (Apart.symm (Apart.grown (Apart.symm HAP4.out) HW6.out OF5.out));have NB6:=hid (blk_grown NB5.out HG6.out (fun e=>absurd (NLT.out _ e) (Nat.lt_irrefl _)));have BX6:=hid (blk_grown BX5.out HG6.out (fun e=>by have:=(hlr6 _ e).1;omega));have BE6:=hid (Below.grown BE5.out HG6.out BE5.out.size (fun q e=>by have:=(hlr6 q e).1;omega));clear OF5 OT5 NB5 BX5 BE5 hlr6 HG6 HW6 HAP4;have n2:w6.cell? ⟨a0,2,none⟩=some (.int .i64 mm):=Blk.cell NB6.out 2))
             go_roundw
             case rel=>exact ⟨(j+1)+1,FF++[t1],TT++[t],z+mm,by omega,by go_num,rfl,HGV.out,by rw [List.length_append,hTl];rfl,by omega,by omega,by rw [List.map_append];exact OF6.out,by rw [List.map_append];exact HO6.out,HAP6.out,BX6.out,BE6.out⟩
             case measure=>(simp [intOf];omega)
           · obtain rfl:V=(0,false):=HV.out.symm.trans (HSTEP.out.trans (if_pos (by rw [qF,qT,hln];simpa using hlast)))
             clear qF qT hln
             have hb1:(t1 == f)=false:=beq_eq_false_iff_ne.2 hlast;have hb2:decide (t1=f)=false:=decide_eq_false hlast;have hb3:(t1 != f)=true:=by simpa using hlast
             go_wp2_with (first | (go_at_call 121;with_reducible refine HF.out.mono ?_;rintro e w' ⟨rfl,rfl⟩;clear HF) | (go_at_call 121;with_reducible refine HT.out.mono ?_;rintro e w' ⟨rfl,rfl⟩;clear HT))
             go_quiet (fail)
             go_wp2
             go_ret2
             exact ⟨rfl,bdN BE.out _⟩
        · have HF:=hid (show Calls Tryz.prog 121 #[.slice AF j cF,.int .i64 f] a1 fun e w'=>e=.returned (.bool false)∧a1=w' from qF ▸ hf);have HT:=hid (show Calls Tryz.prog 121 #[.slice AT j cT,.int .i64 t] a1 fun e w'=>e=.returned (.bool true)∧a1=w' from qT ▸ ht);clear hf ht
          obtain rfl:V=(0,false):=HV.out.symm.trans (HSTEP.out.trans (if_pos (by rw [qF,qT];rfl)))
          clear qF qT
          go_wp2_with (first | (go_at_call 121;with_reducible refine HF.out.mono ?_;rintro e w' ⟨rfl,rfl⟩;clear HF) | (go_at_call 121;with_reducible refine HT.out.mono ?_;rintro e w' ⟨rfl,rfl⟩;clear HT))
          go_quiet (fail)
          go_wp2
          go_ret2
          exact ⟨rfl,bdN BE.out _⟩
      · cases qT:TT.contains t
        · have HF:=hid (show Calls Tryz.prog 121 #[.slice AF j cF,.int .i64 f] a1 fun e w'=>e=.returned (.bool true)∧a1=w' from qF ▸ hf);have HT:=hid (show Calls Tryz.prog 121 #[.slice AT j cT,.int .i64 t] a1 fun e w'=>e=.returned (.bool false)∧a1=w' from qT ▸ ht);clear hf ht
          obtain rfl:V=(0,false):=HV.out.symm.trans (HSTEP.out.trans (if_pos (by rw [qF];rfl)))
          clear qF qT
          go_wp2_with (first | (go_at_call 121;with_reducible refine HF.out.mono ?_;rintro e w' ⟨rfl,rfl⟩;clear HF) | (go_at_call 121;with_reducible refine HT.out.mono ?_;rintro e w' ⟨rfl,rfl⟩;clear HT))
          go_quiet (fail)
          go_wp2
          go_ret2
          exact ⟨rfl,bdN BE.out _⟩
        · have HF:=hid (show Calls Tryz.prog 121 #[.slice AF j cF,.int .i64 f] a1 fun e w'=>e=.returned (.bool true)∧a1=w' from qF ▸ hf);have HT:=hid (show Calls Tryz.prog 121 #[.slice AT j cT,.int .i64 t] a1 fun e w'=>e=.returned (.bool true)∧a1=w' from qT ▸ ht);clear hf ht
          obtain rfl:V=(0,false):=HV.out.symm.trans (HSTEP.out.trans (if_pos (by rw [qF];rfl)))
          clear qF qT
          go_wp2_with (first | (go_at_call 121;with_reducible refine HF.out.mono ?_;rintro e w' ⟨rfl,rfl⟩;clear HF) | (go_at_call 121;with_reducible refine HT.out.mono ?_;rintro e w' ⟨rfl,rfl⟩;clear HT))
          go_quiet (fail)
          go_wp2
          go_ret2
          exact ⟨rfl,bdN BE.out _⟩
    · obtain rfl:V=(0,false):=by rw [← HV.out,hdr];exact walkR_out (by rw [hl];exact hin)
      by_cases hi0:i<0
      · have hd1:decide (i<0)=true:=decide_eq_true hi0
        go_wp2_with fail
        go_quiet (fail)
        go_wp2
        go_ret2
        exact ⟨rfl,bdN HBE.out _⟩
      · have hd1:decide (i<0)=false:=decide_eq_false hi0
        have hd2:decide ((n:Int)≤i)=true:=decide_eq_true (by omega)
        go_wp2_with fail
        go_quiet (fail)
        go_wp2
        go_ret2
        exact ⟨rfl,bdN HBE.out _⟩
  · obtain rfl:j=m:=by omega
    obtain rfl:V=(z,true):=by rw [← HV.out,List.drop_eq_nil_of_le (by omega)];rfl
    go_wp2
    go_ret2
    exact ⟨rfl,HBE.out⟩
end Go.Proofs.YtjjmifcjailpaaaGreat
