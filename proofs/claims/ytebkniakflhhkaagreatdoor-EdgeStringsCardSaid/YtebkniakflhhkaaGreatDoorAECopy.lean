import Derived.Deep.AppendLies
import Derived.Test.YtebkniakflhhkaaGreatDoorAJoined
import Derived.Test.YtebkniakflhhkaaGreatDoorAERen
set_option linter.unusedSimpArgs false
set_option linter.unusedVariables false
namespace Go.Proofs.YtebkniakflhhkaaGreatDoor
open Go.Lib (hid)
open Go.RowKit
def OwnsX (w:World) (base:Nat) (e:TypeId) (size:Nat) (v:Value) (n:Nat) (xs:List Value):Prop:=w.ownsRow base e size v n xs∨∃ A,v=.slice A 0 0∧n=0∧xs=[]
theorem OwnsX.below {w w':World} {base:Nat} {e:TypeId} {size:Nat} {v:Value} {n:Nat} {xs:List Value} (h:OwnsX w base e size v n xs) (hb:Below w.heap.size w w'):OwnsX w' base e size v n xs :=
 h.imp (fun h=>owns_below h hb) id
theorem OwnsX.base {w:World} {base base':Nat} {e:TypeId} {size:Nat} {v:Value} {n:Nat} {xs:List Value} (h:OwnsX w base e size v n xs) (hb:base'≤base):OwnsX w base' e size v n xs :=
 h.imp (fun h=>owns_base h hb) id
theorem OwnsX.drew {w:World} {base:Nat} {e:TypeId} {size:Nat} {v:Value} {n:Nat} {xs:List Value} (h:OwnsX w base e size v n xs):OwnsX w.drew base e size v n xs :=
 h.imp (fun h=>h.drew) id
theorem OwnsX.alloc {w:World} {base:Nat} {e:TypeId} {size:Nat} {v:Value} {n:Nat} {xs:List Value} (h:OwnsX w base e size v n xs) (o:Obj):OwnsX (w.alloc o) base e size v n xs :=
 h.imp (fun h=>h.alloc o) id
theorem OwnsX.ne {w:World} {base:Nat} {e:TypeId} {size:Nat} {A:Option Addr} {n c:Nat} {xs:List Value} (h:OwnsX w base e size (.slice A n c) n xs) {k:Nat} (hk:w.heap.size≤k) (hc:c≠0):(Value.slice A n c).ownBlock≠some k:=by
 intro he
 rcases h with h|⟨A',h1,-⟩
 · have:=(h.lt k he).2;omega
 · injection h1 with _ _ h1
   exact hc h1
theorem OwnsX.either {w:World} {base:Nat} {e:TypeId} {size:Nat} {A:Option Addr} {n c:Nat} {xs:List Value} (h:OwnsX w base e size (.slice A n c) n xs):(c≠0∧w.ownsRow base e size (.slice A n c) n xs)∨(n=0∧c=0∧xs=[]):=by
 rcases h with h|⟨A',h1,h2,h3⟩
 · obtain ⟨A2,c2,h4,h5,-⟩:=own_form h
   injection h4 with _ _ h4
   subst h4
   by_cases hc:c=0
   · subst hc
     obtain rfl:n=0:=by omega
     exact .inr ⟨rfl,rfl,List.length_eq_zero_iff.1 (by rw [h.1];simp)⟩
   · exact .inl ⟨hc,h⟩
 · injection h1 with _ h4 h5
   exact .inr ⟨h2,h5,h3⟩
section
variable {P:Program} (w:World)
theorem run_append_X (t ty:TypeId) (base:Nat) (e:TypeId) (i:TypeInfo) (z:Value) (size bytes:Nat) (ht:P.underlying t=some (.slice e)) (hi:P.info? e=some i) (hz:i.zero=some z)
 (hsize:i.size=size) (hby:i.bytes=bytes) (hzs:z.cells.size=size) (hsz:0<size)
 (A:Option Addr) (n c0:Nat) (xs:List Value) (hown:OwnsX w base e size (.slice A n c0) n xs)
 (ad:Addr) (m c:Nat) (news:List Value) (hl:news.length=m * size) (hnews:∀ j u,news[j]?=some u→w.cell? (ad.add j)=some u) (h1:∀ u∈news,u.oneCell'=true)
 (hm:0<m) (h63:n+m≤maxLen) (hbytes:(n+m) * bytes≤140737488355328) (hbase:base≤w.heap.size) :
 ∃ g cap w',(Builtin.append_ #[t,t] ty #[.slice A n c0,.slice (some ad) m c]).run P w=.ok (.slice (some ⟨g,0,none⟩) (n+m) cap) w' ∧
  w'.ownsRow base e size (.slice (some ⟨g,0,none⟩) (n+m) cap) (n+m) (xs++news)∧Below base w w'∧g<w'.heap.size ∧
  ∀ k,k<w.heap.size→(c0≠0→(Value.slice A n c0).ownBlock≠some k)→w'.heap[k]?=w.heap[k]?:=by
 rcases hown.either with ⟨hc,hown⟩|⟨rfl,rfl,rfl⟩
 · obtain ⟨g,cap,w',hr,h2,h3,h4,h5⟩:=run_append_lies (P:=P) w t ty base e i z size bytes ht hi hz hsize hby hzs hsz _ n xs hown ad m c news hl hnews h1 hm h63 hbytes hbase _ rfl
   exact ⟨g,cap,w',hr,h2,(Below.refl _ w).grown h3 hbase (fun k e=>(hown.lt k e).1),h5,fun k hk hne=>h3.block k hk (fun e=>hne hc e.symm)⟩
 · cases A with
   | none =>
    obtain ⟨g,cap,w',hr,h2,h3,h4,h5⟩:=run_append_lies (P:=P) w t ty base e i z size bytes ht hi hz hsize hby hzs hsz _ 0 [] (World.ownsRow_nil w base e size) ad m c news hl hnews h1 hm h63 hbytes hbase _ rfl
    exact ⟨g,cap,w',hr,h2,(Below.refl _ w).grown h3 hbase (fun k e=>by cases e),h5,fun k hk _=>h3.block k hk (fun e=>by cases e)⟩
   | some b =>
    subst hsize
    subst hby
    have hr:=run_append_grow (P:=P) w t ty e i z ht hi hz b 0 0 [] (by simp) (by simp) ad m c news hl hnews (by omega) (by unfold maxLen at h63;omega) (growslice_fits (by omega) hbytes)
    have hge:=grownCap_ge w (0+m) 0 e
    have hcm:grownCap w (0+m) 0 e≤maxLen:=grownCap_le_maxLen w (0+m) 0 e h63
    refine ⟨_,_,_,hr,⟨by simp [hl],.inr ⟨w.heap.size,_,_,rfl,hbase,by rw [show w.heap.size=w.drew.heap.size from rfl];exact heap_alloc_new _ _,hge,hcm,?_,?_⟩⟩,((Below.refl _ w).drew).alloc hbase _,by simp,fun k hk _=>Below.heap_alloc w.drew _ k hk⟩
    · simp [size_zeroCells,hl,hzs,← Nat.add_mul]
      congr 1
      simp only [Nat.zero_add] at hge
      omega
    · simp [hl]
theorem wp_append_X {o:Oper} {a:Act} {K:Act→World→Prop} {Q:Exit→Act→World→Prop} (s x:Operand) (t:TypeId)
 (ho:o.op=.call { callee:=.builtin .append,args:=#[s,x],argTypes:=#[t,t] })
 (base:Nat) (e:TypeId) (i:TypeInfo) (z:Value) (size bytes:Nat) (ht:P.underlying t=some (.slice e)) (hi:P.info? e=some i) (hz:i.zero=some z)
 (hsize:i.size=size) (hby:i.bytes=bytes) (hzs:z.cells.size=size) (hsz:0<size)
 (A:Option Addr) (n c0:Nat) (xs:List Value) (hs:a.eval s=.slice A n c0) (hown:OwnsX w base e size (.slice A n c0) n xs)
 (ad:Addr) (m c:Nat) (news:List Value) (hx:a.eval x=.slice (some ad) m c) (hl:news.length=m * size) (hnews:∀ j u,news[j]?=some u→w.cell? (ad.add j)=some u) (h1:∀ u∈news,u.oneCell'=true)
 (hm:0<m) (h63:n+m≤maxLen) (hbytes:(n+m) * bytes≤140737488355328) (hbase:base≤w.heap.size)
 (h:∀ g cap w',w'.ownsRow base e size (.slice (some ⟨g,0,none⟩) (n+m) cap) (n+m) (xs++news)→Below base w w'→g<w'.heap.size→(∀ k,k<w.heap.size→(c0≠0→(Value.slice A n c0).ownBlock≠some k)→w'.heap[k]?=w.heap[k]?)→K (a.put o.dst (.slice (some ⟨g,0,none⟩) (n+m) cap)) w'):o.wp P a w K Q:=by
 obtain ⟨g,cap,w',hr,h2,h3,h4,h5⟩:=run_append_X (P:=P) w t o.type base e i z size bytes ht hi hz hsize hby hzs hsz A n c0 xs hown ad m c news hl hnews h1 hm h63 hbytes hbase
 unfold Oper.wp execOp
 simp only [ho,resolve,invoke,builtin,Sem.run_bind,Sem.run_pure,Result.andThen_ok,List.map_toArray,List.map_cons,List.map_nil,hs,hx,hr]
 exact h g cap w' h2 h3 h4 h5
theorem wpList_append_X {ops:Array Oper} {rest:List Oper} {o:Oper} {a:Act} {Q:Exit→Act→World→Prop} (hgd:o.guard=none) (s x:Operand) (t:TypeId)
 (ho:o.op=.call { callee:=.builtin .append,args:=#[s,x],argTypes:=#[t,t] })
 (base:Nat) (e:TypeId) (i:TypeInfo) (z:Value) (size bytes:Nat) (ht:P.underlying t=some (.slice e)) (hi:P.info? e=some i) (hz:i.zero=some z)
 (hsize:i.size=size) (hby:i.bytes=bytes) (hzs:z.cells.size=size) (hsz:0<size)
 (A:Option Addr) (n c0:Nat) (xs:List Value) (hs:a.eval s=.slice A n c0) (hown:OwnsX w base e size (.slice A n c0) n xs)
 (ad:Addr) (m c:Nat) (news:List Value) (hx:a.eval x=.slice (some ad) m c) (hl:news.length=m * size) (hnews:∀ j u,news[j]?=some u→w.cell? (ad.add j)=some u) (h1:∀ u∈news,u.oneCell'=true)
 (hm:0<m) (h63:n+m≤maxLen) (hbytes:(n+m) * bytes≤140737488355328) (hbase:base≤w.heap.size)
 (h:∀ g cap w',w'.ownsRow base e size (.slice (some ⟨g,0,none⟩) (n+m) cap) (n+m) (xs++news)→Below base w w'→g<w'.heap.size→(∀ k,k<w.heap.size→(c0≠0→(Value.slice A n c0).ownBlock≠some k)→w'.heap[k]?=w.heap[k]?)→wpList P ops Q rest (a.put o.dst (.slice (some ⟨g,0,none⟩) (n+m) cap)) w'):wpList P ops Q (o::rest) a w :=
 wpList_plain hgd fun _ hK=>wp_append_X w s x t ho base e i z size bytes ht hi hz hsize hby hzs hsz A n c0 xs hs hown ad m c news hx hl hnews h1 hm h63 hbytes hbase fun g cap w' h2 h3 h4 h5=>hK _ _ (h g cap w' h2 h3 h4 h5)
end
set_option maxRecDepth 100000 in
set_option maxHeartbeats 1000000 in
theorem ecopied_any (A:Option Addr) (n c:Nat) (l:List Bnd) (w:World) (hr:RdB w A n c l) (hn:n≤400) :
 Calls Tryz.prog 42 #[.slice A n c] w fun e w'=>∃ A' c',e=.returned (.slice A' n c')∧OwnsX w' w.heap.size 50 4 (.slice A' n c') n (bcells l)∧Below w.heap.size w w':=by
 have hnil:=hr.nil
 have hlen:=hr.len
 have hcap:=hr.cap
 cases A with
 | none =>
  obtain ⟨rfl,rfl⟩:=hnil rfl
  have hl:l=[]:=List.length_eq_zero_iff.1 hlen
  subst hl
  clear hr hnil hlen
  go_enter Tryz.func42,Tryz.ntmps42
  go_wp2
  go_ret
  exact ⟨none,0,rfl,.inr ⟨none,rfl,rfl,rfl⟩,Below.refl _ _⟩
 | some ad =>
  by_cases h0:n=0
  · subst h0
    have hl:l=[]:=List.length_eq_zero_iff.1 hlen
    subst hl
    clear hr hnil hlen
    go_enter Tryz.func42,Tryz.ntmps42
    go_wp2
    go_ret
    exact ⟨some ad,0,rfl,.inr ⟨some ad,rfl,rfl,rfl⟩,Below.refl _ _⟩
  · obtain ⟨i0,hi0,hz0,hz1,hz2⟩:=info_parts infoB
    have HI:=hid hi0;have HZ0:=hid hz0;have HZ1:=hid hz1;have HZ2:=hid hz2;clear hi0 hz0 hz1 hz2
    have HR:=hid hr;have HL:=hid hlen;clear hr hnil hlen
    go_enter Tryz.func42,Tryz.ntmps42
    go_wp2_with (at_builtin;refine wpList_append_X _ rfl (.tmp 4) (.tmp 5) 33 rfl w.heap.size 50 i0 _ 4 32 Tryz.underlying33 HI.out HZ0.out HZ1.out HZ2.out rfl (by omega) (some ad) 0 0 [] rfl (.inr ⟨some ad,rfl,rfl,rfl⟩) ad n c (bcells l) rfl (by rw [bcells_length,HL.out]) (HR.out.cells.hc ad rfl) (bcells_one l) (by omega) (by unfold maxLen;omega) (by omega) (Nat.le_refl _) ?_;intro g cap w1 hown hb1 hg1 _;simp only [Nat.zero_add,List.nil_append] at hown;have HO:=hid hown;have HB:=hid hb1;clear hown hb1)
    go_ret
    exact ⟨some ⟨g,0,none⟩,cap,by simp,.inl (by simpa using HO.out),HB.out⟩
end Go.Proofs.YtebkniakflhhkaaGreatDoor
