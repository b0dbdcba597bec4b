import Derived.Test.YtokpblmgdmokoaaGreatAVCat
set_option linter.unusedSimpArgs false
set_option linter.unusedVariables false
namespace Go.Proofs.YtokpblmgdmokoaaGreat
open Go.Lib (hid)
open Go.RowKit Go.Maps
theorem flat_set {α:Type} {f:α→List Value} {s:Nat} (hf:∀ x,(f x).length=s) (l:List α) (k j:Nat) (x:α) (u:Value) (y:α) (h:l[k]?=some x) (hj:j<s) (hu:(f x).set j u=f y):(l.flatMap f).set (k * s+j) u=(l.set k y).flatMap f:=by
 induction l generalizing k with
 | nil=>simp at h
 | cons z l ih =>
  cases k with
  | zero =>
   simp at h
   subst h
   rw [List.flatMap_cons,Nat.zero_mul,Nat.zero_add,List.set_append_left _ _ (by rw [hf];exact hj),hu]
   rfl
  | succ k =>
   rw [List.flatMap_cons,List.set_append_right _ _ (by rw [hf,Nat.add_mul];omega),List.set_cons_succ,List.flatMap_cons]
   have e:(k+1) * s+j-(f z).length=k * s+j:=by rw [hf,Nat.add_mul];omega
   rw [e,ih k (by simpa using h)]
def PAd.far (x:PAd) (g:Nat) (p:Prt):Prop:=(p.sh=[]∨∀ a,x.A=some a→a.block≠g)∧(p.rs=[]∨∀ a,x.B=some a→a.block≠g)
theorem rdI_far {w:World} {A:Option Addr} {n c:Nat} {l:List Int} (h:RdI w A n c l) {p:Addr} (hp:l=[]∨∀ a,A=some a→a.block≠p.block) (u:Value):RdI (w.setCell p u) A n c l:=by
 refine ⟨h.len,h.cap,h.nil,?_⟩
 rcases hp with rfl|hp
 · exact .inl rfl
 rcases h.cells with h0|⟨b,o,e,hlt,hc⟩
 · exact .inl h0
 · refine .inr ⟨b,o,e,by rw [World.size_setCell];exact hlt,fun j v hv=>?_⟩
   exact (World.cell?_setCell_far w p ⟨b,o+j,none⟩ u (fun e2=>hp _ e e2.symm)).trans (hc j v hv)
theorem rdI_out {w:World} {A:Option Addr} {n c:Nat} {l:List Int} (h:RdI w A n c l) {g:Nat} (hg:w.heap.size≤g):l=[]∨∀ a,A=some a→a.block≠g:=by
 rcases h.cells with h0|⟨b,o,e,hlt,hc⟩
 · exact .inl (by simpa using h0)
 · refine .inr fun a ha=>?_
   rw [e] at ha
   injection ha with ha
   subst ha
   exact fun e2=>by dsimp only at e2;omega
theorem PAd.ok.out {w:World} {p:Prt} {x:PAd} (h:x.ok w p) {g:Nat} (hg:w.heap.size≤g):x.far g p:=⟨rdI_out h.1 hg,rdI_out h.2.1 hg⟩
theorem PAd.ok.set {w:World} {p:Prt} {x:PAd} (h:x.ok w p) {g j:Nat} (hf:x.far g p) (u:Value):x.ok (w.setCell ⟨g,j,none⟩ u) p:=⟨rdI_far h.1 hf.1 u,rdI_far h.2.1 hf.2 u,h.2.2⟩
theorem ownI_far {w:World} {base g n k:Nat} {A:Option Addr} {l:List Int} (h:OwnI w base A n k l) (hg:g<base):∀ a,A=some a→a.block≠g:=by
 intro a ha
 subst ha
 rcases h.2 with ⟨h0,_⟩|⟨g',cap,cur,hv,hb,_⟩
 · cases h0
 · injection hv with a1
   injection a1 with a1
   subst a1
   exact fun e=>by dsimp only at e;omega
theorem cloneI_any {w:World} {A:Option Addr} {n c:Nat} {l:List Int} (hr:RdI w A n c l) (hsm:n≤100000) :
 Calls Tryz.prog 107 #[.slice A n c] w fun e w'=>∃ R k,e=.returned (.slice R n k)∧OwnI w' w.heap.size R n k l∧Below w.heap.size w w':=by
 cases A with
 | none =>
  obtain ⟨rfl,rfl⟩:=hr.nil rfl
  have hl:l=[]:=List.length_eq_zero_iff.1 hr.len
  subst hl
  refine (Any.slices_Clone_int_nil laysNm215 0 0 w).mono fun e w' h=>?_
  obtain ⟨rfl,rfl⟩:=h
  exact ⟨none,0,rfl,World.ownsRow_nil _ _ _ _,Below.refl _ _⟩
 | some ad =>
  have fin:∀ e w',(∃ v',e=Ending.returned v'∧w'.ownsRow w.heap.size 3 1 v' n (l.map (Value.int .i64))∧Below w.heap.size w w')→∃ R k,e=.returned (.slice R n k)∧OwnI w' w.heap.size R n k l∧Below w.heap.size w w':=by
   rintro e w' ⟨v',rfl,ho,hb⟩
   obtain ⟨A',c',rfl,-⟩:=own_form ho
   exact ⟨A',c',rfl,ho,hb⟩
  rcases hr.cells with h0|⟨b,o,e,hlt,hc⟩
  · have hl:l=[]:=by simpa using h0
    subst hl
    obtain rfl:n=0:=hr.len.symm
    exact (Any.slices_Clone_int_zero laysNm215 ad c w).mono fun e w' ⟨v',h1,h2,_,h4⟩=>fin e w' ⟨v',h1,h2,h4⟩
  · injection e with e
    subst e
    refine (Any.slices_Clone_int laysNm215 b o n c l w (by rw [hr.len];exact Nat.le_refl _) (by omega) (fun j hj=>hc j _ (by simp [List.getD,List.getElem?_eq_getElem hj]))).mono fun e w' ⟨v',h1,h2,_,h4⟩=>fin e w' ⟨v',h1,?_,h4⟩
    rw [List.take_of_length_le (by rw [hr.len];exact Nat.le_refl _)] at h2
    exact h2
theorem infoPt:(Tryz.prog.info? 48).map (fun i=>(i.zero,i.size,i.bytes))=some (some (.agg #[.slice none 0 0,.int .i64 0,.int .i64 0,.int .i64 0,.int .i64 0,.bool false,.int .i64 0,.slice none 0 0]),8,96):=by kernel_rfl
theorem pv_one (xs:List (Prt × PAd)):∀ u∈xs.flatMap pv,u.oneCell'=true:=by
 intro u hu
 obtain ⟨x,-,hx⟩:=List.mem_flatMap.1 hu
 simp only [pv,List.mem_cons,List.not_mem_nil,or_false] at hx
 rcases hx with rfl|rfl|rfl|rfl|rfl|rfl|rfl|rfl<;>rfl
theorem cloneP_xs {w:World} {A:Option Addr} {n c:Nat} (xs:List (Prt × PAd)) (hlen:xs.length=n) (hnil:A=none→n=0∧c=0) (h3:Cells w A (xs.flatMap pv)) (hsm:n≤100000) :
 Calls Tryz.prog 106 #[.slice A n c] w fun e w'=>∃ R k,e=.returned (.slice R n k)∧w'.ownsRow w.heap.size 48 8 (.slice R n k) n (xs.flatMap pv)∧Below w.heap.size w w':=by
 obtain ⟨i0,hi0,hz0,hz1,hz2⟩:=info_parts infoPt
 cases A with
 | none =>
  obtain ⟨rfl,rfl⟩:=hnil rfl
  refine (AnyE.slices_Clone_nil laysSlE041_f106 0 0 w).mono fun e w' h=>?_
  obtain ⟨rfl,rfl⟩:=h
  obtain rfl:xs=[]:=List.length_eq_zero_iff.1 hlen
  exact ⟨none,0,rfl,World.ownsRow_nil _ _ _ _,Below.refl _ _⟩
 | some ad =>
  have HC:=hid (cells_hcV (h3.alloc (.cells #[] 48)));have HL:=hid (show (xs.flatMap pv).length=n * 8 by rw [flat_len pv_len,hlen]);clear h3 hlen hnil
  have HI:=hid hi0;have HZ0:=hid hz0;have HZ1:=hid hz1;have HZ2:=hid hz2;clear hi0 hz0 hz1 hz2
  have a0:∀ (w:World) (a:Option Addr) (n c n' c':Nat),(binOp .eql 22 (.slice a n c) (.slice none n' c')).run Tryz.prog w=.ok (.bool a.isNone) w:=fun w a n c n' c'=>Lib.run_eql_slice_nil w _ _ a n c n' c' Tryz.underlying22
  go_enter Tryz.func106,Tryz.ntmps106
  go_wp2_with (at_builtin;refine wpList_append_own _ rfl _ _ 22 rfl w.heap.size 48 i0 _ 8 96 Tryz.underlying22 HI.out HZ0.out HZ1.out HZ2.out rfl (by decide) _ _ _ rfl (World.ownsRow_made w #[] 0 (Nat.le_refl _) (Nat.zero_le _) rfl) ad n c (xs.flatMap pv) rfl HL.out HC.out (pv_one xs) (by unfold maxLen;omega) (by omega) (by simp) ?_;intro v' w1 hown hgrow hnil;have HO:=hid hown;have HG:=hid hgrow;clear hown hgrow hnil)
  go_ret
  obtain ⟨A',c',rfl,-⟩:=own_form HO.out
  have ho:=HO.out
  simp only [Nat.zero_add,List.nil_append] at ho
  refine ⟨A',c',by rw [Nat.zero_add];rfl,ho,((Below.refl _ w).alloc (Nat.le_refl _) _).grown (show World.grownBy _ w1 (some w.heap.size) from HG.out) (by simp) (by intro k hk;injection hk with hk;omega)⟩
def OwnPt (w:World) (base:Nat) (S:Nat→Prop) (R:Option Addr) (n k:Nat) (ps:List Prt):Prop:=∃ xs:List (Prt × PAd),xs.map (·.1)=ps∧(∀ x∈xs,x.2.ok w x.1∧∀ g,(R=some ⟨g,0,none⟩∨S g)→x.2.far g x.1)∧w.ownsRow base 48 8 (.slice R n k) n (xs.flatMap pv)
section
variable {w w':World} {base g n k:Nat} {S:Nat→Prop} {R:Option Addr} {ps:List Prt}
theorem OwnPt.keep (h:OwnPt w base S R n k ps) (hb:Below w.heap.size w w'):OwnPt w' base S R n k ps:=by
 obtain ⟨xs,h1,h2,h3⟩:=h
 exact ⟨xs,h1,fun x hx=>⟨(h2 x hx).1.below hb,(h2 x hx).2⟩,owns_below h3 hb⟩
theorem OwnPt.alloc (h:OwnPt w base S R n k ps) (o:Obj):OwnPt (w.alloc o) base S R n k ps:=h.keep ((Below.refl _ w).alloc (Nat.le_refl _) o)
theorem OwnPt.drew (h:OwnPt w base S R n k ps):OwnPt w.drew base S R n k ps:=h.keep ((Below.refl _ w).drew)
theorem OwnPt.addr (h:OwnPt w base S R n k ps) (hn:0<n):∃ g,R=some ⟨g,0,none⟩:=by
 obtain ⟨xs,h1,h2,h3⟩:=h
 rcases h3.2 with ⟨h0,h4⟩|⟨g,cap,cur,hv,_⟩
 · omega
 · injection hv with a1
   exact ⟨g,a1⟩
theorem OwnPt.blk (h:OwnPt w base S (some ⟨g,0,none⟩) n k ps):base≤g∧g<w.heap.size∧ps.length=n∧n≤k:=by
 obtain ⟨xs,h1,h2,h3⟩:=h
 have hl:=h3.1
 rw [flat_len pv_len] at hl
 rcases h3.2 with ⟨h0,h4⟩|⟨g',cap,cur,hv,hb,hh,hn,_⟩
 · cases h0
 · injection hv with a1 a2 a3
   injection a1 with a1
   injection a1 with a1
   subst a1 a3
   exact ⟨hb,(Array.getElem?_eq_some_iff.1 hh).1,by rw [← h1,List.length_map];omega,hn⟩
theorem OwnPt.frozen (h:OwnPt w base S (some ⟨g,0,none⟩) n k ps) (j:Nat):w.frozen? ⟨g,j,none⟩=false:=by
 obtain ⟨xs,h1,h2,h3⟩:=h
 exact h3.frozenAt j
theorem OwnPt.get (h:OwnPt w base S (some ⟨g,0,none⟩) n k ps) {q:Nat} {p:Prt} (hp:ps[q]?=some p):∃ x:PAd,x.ok w p∧x.far g p ∧
 w.cell? ⟨g,q * 8,none⟩=some (.slice x.A x.n x.c)∧w.cell? ⟨g,q * 8+1,none⟩=some (.int .i64 p.lo)∧w.cell? ⟨g,q * 8+2,none⟩=some (.int .i64 p.hi) ∧
 w.cell? ⟨g,q * 8+3,none⟩=some (.int .i64 p.lb)∧w.cell? ⟨g,q * 8+4,none⟩=some (.int .i64 p.hb)∧w.cell? ⟨g,q * 8+5,none⟩=some (.bool p.ft) ∧
 w.cell? ⟨g,q * 8+6,none⟩=some (.int .i64 p.fb)∧w.cell? ⟨g,q * 8+7,none⟩=some (.slice x.B x.m x.d):=by
 obtain ⟨xs,h1,h2,h3⟩:=h
 obtain ⟨x,hx,rfl⟩:∃ x,xs[q]?=some x∧x.1=p:=by rw [← h1,List.getElem?_map] at hp;cases hx:xs[q]? with|none=>rw [hx] at hp;cases hp|some x=>rw [hx] at hp;exact ⟨x,rfl,by simpa using hp⟩
 obtain ⟨hok,hfar⟩:=h2 x (List.mem_of_getElem? hx)
 have g2:=fun j (hj:j<8)=>flat_get pv_len xs q j x hx hj
 have c:=fun j v (hv:(xs.flatMap pv)[j]?=some v)=>(Addr.add_lit _ _ _ ▸ h3.cells rfl j v hv:w.cell? ⟨g,0+j,none⟩=some v)
 simp only [Nat.zero_add] at c
 exact ⟨x.2,hok,hfar g (Or.inl rfl),c _ _ (g2 0 (by omega)),c _ _ (g2 1 (by omega)),c _ _ (g2 2 (by omega)),c _ _ (g2 3 (by omega)),c _ _ (g2 4 (by omega)),c _ _ (g2 5 (by omega)),c _ _ (g2 6 (by omega)),c _ _ (g2 7 (by omega))⟩
theorem OwnPt.set (h:OwnPt w base S (some ⟨g,0,none⟩) n k ps) {q:Nat} {p:Prt} (hp:ps[q]?=some p) {j:Nat} (hj:j<8) (u:Value) (p':Prt)
 (mk:∀ x:PAd,x.ok w p→(∀ g',(g'=g∨S g')→x.far g' p)→∃ x':PAd,(pv (p,x)).set j u=pv (p',x')∧x'.ok (w.setCell ⟨g,q * 8+j,none⟩ u) p'∧∀ g',(g'=g∨S g')→x'.far g' p'):OwnPt (w.setCell ⟨g,q * 8+j,none⟩ u) base S (some ⟨g,0,none⟩) n k (ps.set q p'):=by
 obtain ⟨xs,h1,h2,h3⟩:=h
 obtain ⟨x,hx,rfl⟩:∃ x,xs[q]?=some x∧x.1=p:=by rw [← h1,List.getElem?_map] at hp;cases hx:xs[q]? with|none=>rw [hx] at hp;cases hp|some x=>rw [hx] at hp;exact ⟨x,rfl,by simpa using hp⟩
 obtain ⟨hok,hfar⟩:=h2 x (List.mem_of_getElem? hx)
 obtain ⟨x',e1,e2,e3⟩:=mk x.2 hok (fun g' hg'=>hfar g' (hg'.imp (fun e=>by rw [e]) id))
 refine ⟨xs.set q (p',x'),by rw [List.map_set,h1],fun y hy=>?_,?_⟩
 · rcases List.mem_or_eq_of_mem_set hy with hy|rfl
   · obtain ⟨a,b⟩:=h2 y hy
     exact ⟨a.set (b g (Or.inl rfl)) u,b⟩
   · refine ⟨e2,fun g' hg'=>?_⟩
     refine e3 g' (hg'.imp (fun e=>?_) id)
     injection e with e
     injection e with e
     exact e.symm
 · have:=(h3.stored (q * 8+j) u).1
   rw [flat_set pv_len xs q j x u (p',x') hx hj e1] at this
   exact this
theorem OwnPt.setA (h:OwnPt w base S (some ⟨g,0,none⟩) n k ps) {q:Nat} {p:Prt} (hp:ps[q]?=some p) {R1:Option Addr} {m k1:Nat} (hr:RdI w R1 m k1 p.sh) (hf:∀ g',(g'=g∨S g')→p.sh=[]∨∀ a,R1=some a→a.block≠g') (hm:m≤maxLen):OwnPt (w.setCell ⟨g,q * 8,none⟩ (.slice R1 m k1)) base S (some ⟨g,0,none⟩) n k ps:=by
 have:=h.set hp (j:=0) (by omega) (.slice R1 m k1) p (fun x hok hfar=>⟨⟨R1,m,k1,x.B,x.m,x.d⟩,rfl,⟨rdI_far hr (hf g (Or.inl rfl)) _,rdI_far hok.2.1 (hfar g (Or.inl rfl)).2 _,hm,hok.2.2.2⟩,fun g' hg'=>⟨hf g' hg',(hfar g' hg').2⟩⟩)
 obtain ⟨hq,e⟩:=List.getElem?_eq_some_iff.1 hp
 rw [← e,List.set_getElem_self] at this
 exact this
theorem OwnPt.setB (h:OwnPt w base S (some ⟨g,0,none⟩) n k ps) {q:Nat} {p:Prt} (hp:ps[q]?=some p) {R1:Option Addr} {m k1:Nat} (hr:RdI w R1 m k1 p.rs) (hf:∀ g',(g'=g∨S g')→p.rs=[]∨∀ a,R1=some a→a.block≠g') (hm:m≤maxLen):OwnPt (w.setCell ⟨g,q * 8+7,none⟩ (.slice R1 m k1)) base S (some ⟨g,0,none⟩) n k ps:=by
 have:=h.set hp (j:=7) (by omega) (.slice R1 m k1) p (fun x hok hfar=>⟨⟨x.A,x.n,x.c,R1,m,k1⟩,rfl,⟨rdI_far hok.1 (hfar g (Or.inl rfl)).1 _,rdI_far hr (hf g (Or.inl rfl)) _,hok.2.2.1,hm⟩,fun g' hg'=>⟨(hfar g' hg').1,hf g' hg'⟩⟩)
 obtain ⟨hq,e⟩:=List.getElem?_eq_some_iff.1 hp
 rw [← e,List.set_getElem_self] at this
 exact this
theorem OwnPt.out (h:OwnPt w base S R n k ps) {b j:Nat} (hb:b<base) (hS:S b) (u:Value):OwnPt (w.setCell ⟨b,j,none⟩ u) base S R n k ps:=by
 obtain ⟨xs,h1,h2,h3⟩:=h
 exact ⟨xs,h1,fun x hx=>⟨(h2 x hx).1.set ((h2 x hx).2 b (Or.inr hS)) u,(h2 x hx).2⟩,ownsRow_setCell_below h3 hb u⟩
theorem OwnPt.weak (h:OwnPt w base S R n k ps) {S':Nat→Prop} (hS:∀ g,S' g→S g) {base':Nat} (hb:base'≤base):OwnPt w base' S' R n k ps:=by
 obtain ⟨xs,h1,h2,h3⟩:=h
 exact ⟨xs,h1,fun x hx=>⟨(h2 x hx).1,fun g hg=>(h2 x hx).2 g (hg.imp id (hS g))⟩,owns_base h3 hb⟩
end
end Go.Proofs.YtokpblmgdmokoaaGreat
