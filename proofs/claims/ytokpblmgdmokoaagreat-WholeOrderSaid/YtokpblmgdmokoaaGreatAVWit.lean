import Derived.Test.YtokpblmgdmokoaaGreatAVAny
import Derived.Test.YtokpblmgdmokoaaGreatAVShw
set_option linter.unusedSimpArgs false
set_option linter.unusedVariables false
namespace Go.Proofs.YtokpblmgdmokoaaGreat
open Go.Lib (hid)
open Go.RowKit Go.Maps Go.Shelf
def witS (ps:List Prt) (s:Rng):List Int:=if choN (fun p=>p.ft&&liesB p.lo p.hi s.lo s.hi) ps ps.length=[] then (choN (fun p=>liesB p.lo p.hi s.lo s.hi) ps ps.length).take 1 else choN (fun p=>p.ft&&liesB p.lo p.hi s.lo s.hi) ps ps.length
def witU (ps:List Prt) (l:List Rng):List Int:=l.flatMap (witS ps)
def witL (ps:List Prt):List Int:=(witU ps (showL ps)).mergeSort fun x y=>decide (x≤y)
theorem lowF_le (ps:List Prt) (v:List Int):∀ lo,lowF ps v lo≤lo:=by
 unfold lowF
 induction v with
 | nil=>intro lo;exact Int.le_refl _
 | cons p v ih =>
  intro lo
  rw [List.foldl_cons]
  refine Int.le_trans (ih _) ?_
  unfold lowS
  split<;>omega
theorem shwI_lo (ps:List Prt) (made:List (List Int)):∀ q lo,(shwI ps made q lo).2≤lo
 | 0,lo=>Int.le_refl _
 | q+1,lo=>by
  unfold shwI
  split
  · exact Int.le_trans (shwI_lo ps made q _) (lowF_le ps _ lo)
  · exact Int.le_refl _
theorem shwO_in {ps:List Prt} {made:List (List Int)} {n:Nat} (hm:∀ v∈made,v≠[]∧∀ x∈v,∃ a:Nat,x=a∧a<n):∀ f q,q≤made.length→∀ r∈shwO ps made f q,∃ a:Nat,a<n∧liesB (ps.getD a default).lo (ps.getD a default).hi r.lo r.hi=true
 | 0,q,_,r,h=>by cases h
 | f+1,0,_,r,h=>by cases h
 | f+1,q+1,hq,r,h=>by
  unfold shwO at h
  rcases List.mem_cons.1 h with rfl|h
  · have hv:made.getD q []∈made:=by rw [List.getD_eq_getElem?_getD,List.getElem?_eq_getElem (show q<made.length by omega)];exact List.getElem_mem _
    obtain ⟨h1,h2⟩:=hm _ hv
    obtain ⟨v,hv2⟩:∃ v,v=made.getD q []:=⟨_,rfl⟩
    rw [← hv2] at h1 h2 ⊢
    cases v with
    | nil=>exact absurd rfl h1
    | cons x v =>
     obtain ⟨a,rfl,ha⟩:=h2 x (List.mem_cons_self)
     refine ⟨a,ha,?_⟩
     have e:firR ps ((a:Int)::v)=⟨(ps.getD a default).lo,(ps.getD a default).hi⟩:=firR_eq (by simp)
     rw [e]
     have:=shwI_lo ps made q (ps.getD a default).lo
     unfold liesB
     simp only [Bool.and_eq_true,decide_eq_true_eq]
     exact ⟨this,Int.le_refl _⟩
  · have hle:=shwI_le ps made q (firR ps (made.getD q [])).lo
    exact shwO_in hm f _ (Nat.le_trans hle (by omega)) r h
theorem showL_in {ps:List Prt} {n:Nat} (hn:ps.length=n):∀ r∈showL ps,∃ a:Nat,a<n∧liesB (ps.getD a default).lo (ps.getD a default).hi r.lo r.hi=true:=by
 intro r hr
 unfold showL at hr
 exact shwO_in (fun v hv=>⟨((vesL_ok hn).2 v hv).1,((vesL_ok hn).2 v hv).2.2⟩) _ _ (Nat.le_refl _) r (List.mem_reverse.1 hr)
theorem showL_len {ps:List Prt} {n:Nat} (hn:ps.length=n):(showL ps).length≤n:=by
 unfold showL
 rw [List.length_reverse]
 exact Nat.le_trans (shwO_len ps _ _ _) (vesL_ok hn).1
theorem choN_pos {f:Prt→Bool} {ps:List Prt} {n a:Nat} (ha:a<n) (h:f (ps.getD a default)=true):1≤(choN f ps n).length:=by
 have:(a:Int)∈choN f ps n:=by
  unfold choN
  exact List.mem_map.2 ⟨a,List.mem_filter.2 ⟨List.mem_range.2 ha,h⟩,rfl⟩
 exact List.length_pos_iff.2 (List.ne_nil_of_mem this)
theorem witS_len (ps:List Prt) (s:Rng):(witS ps s).length≤ps.length:=by
 unfold witS
 split
 · exact Nat.le_trans (List.length_take_le' _ _) (choN_len _ _ _)
 · exact choN_len _ _ _
theorem witU_len (ps:List Prt) (l:List Rng):(witU ps l).length≤l.length * ps.length:=by
 unfold witU
 induction l with
 | nil=>simp
 | cons r l ih =>
  rw [List.flatMap_cons,List.length_append,List.length_cons,Nat.add_mul]
  have:=witS_len ps r
  omega
theorem witU_snoc (ps:List Prt) (l:List Rng) (q:Nat) (r:Rng) (h:l[q]?=some r):witU ps (l.take (q+1))=witU ps (l.take q)++witS ps r:=by
 unfold witU
 rw [List.take_add_one,h,Option.toList_some,List.flatMap_append]
 simp
theorem rdI_take {w:World} {A:Option Addr} {n c k:Nat} {l:List Int} (h:RdI w A n c l) (hk:k≤n):RdI w A k c (l.take k):=by
 refine ⟨by rw [List.length_take,h.len];omega,Nat.le_trans hk h.cap,fun e=>⟨by have:=(h.nil e).1;omega,(h.nil e).2⟩,?_⟩
 rcases h.cells with h0|⟨b,o,e,hlt,hc⟩
 · exact .inl (by rw [show l=[] by simpa using h0];simp)
 · exact .inr ⟨b,o,e,hlt,fun j v hv=>hc j v (by rw [List.map_take] at hv;rw [List.getElem?_take] at hv;split at hv;exact hv;cases hv)⟩
theorem ownG_get {w:World} {base n c:Nat} {A:Option Addr} {l:List Rng} (h:w.ownsRow base 41 2 (.slice A n c) l.length (rcells l)) {q:Nat} {r:Rng} (hq:l[q]?=some r):∃ b,A=some ⟨b,0,none⟩∧b<w.heap.size∧w.cell? ⟨b,q * 2,none⟩=some (.int .i64 r.lo)∧w.cell? ⟨b,q * 2+1,none⟩=some (.int .i64 r.hi):=by
 obtain ⟨A',c',e,h1,h2,h3,h4⟩:=own_form h
 injection e with e1 e2 e3
 subst e1 e3
 have g:=fun j hj=>flat_get (f:=encG) (s:=2) (fun _=>rfl) l q j r hq hj
 rcases h.2 with ⟨h0,h5⟩|⟨b,cap,cur,hv,hb,hh,_⟩
 · rw [List.length_eq_zero_iff.1 h5] at hq;simp at hq
 · injection hv with a1
   subst a1
   rcases h4 with h0|⟨b',o',e,hlt,hc⟩
   · have:=congrArg List.length h0
     rw [rcells_len] at this
     have hql:=(List.getElem?_eq_some_iff.1 hq).1
     rw [List.length_nil] at this
     omega
   · injection e with e
     injection e with e1 e2
     subst e1 e2
     refine ⟨b,rfl,hlt,?_,?_⟩
     · have:=hc (q * 2+0) _ (g 0 (by omega));rwa [Nat.zero_add,Nat.add_zero] at this
     · have:=hc (q * 2+1) _ (g 1 (by omega));rwa [Nat.zero_add] at this
set_option maxRecDepth 100000 in
set_option maxHeartbeats 4000000 in
theorem witness_any (g:Nat) (ware:ByteArray) (lim by_:Int) (A:Option Addr) (n k:Nat) (ps:List Prt) (w:World) (hv:Vw w g ware lim by_ A n k ps) (h20:n<20):Calls Tryz.prog 96 #[.pointer (some ⟨g,0,none⟩)] w fun e w'=>∃ v,e=.returned v∧w'.ownsRow w.heap.size 3 1 v (witL ps).length ((witL ps).map (Value.int .i64))∧Below w.heap.size w w':=by
 have HPL:=hid hv.prt.len;have SL:=hid (showL_len hv.prt.len)
 have HV:=hid hv;clear hv
 go_enter Tryz.func96,Tryz.ntmps96
 have HC:=hid (show_any g ware lim by_ A n k ps w HV.out h20)
 go_wp2_with fail
 refine HC.out.mono ?_
 rintro e w1 ⟨v,rfl,hown,hb⟩
 clear HC
 obtain ⟨A5,c5,rfl,hc5,hm5,hn5,-⟩:=own_form hown
 have HG:=hid hown;have HB1:=hid hb;clear hown hb
 have HV1:=hid (HV.out.keep HB1.out)
 go_wp2
 go_loopw [10,3] (fun s10 s3 wr=>∃ (q:Nat) (V3:Value),s3=V3∧s10=.int .i64 q∧q≤(showL ps).length∧wr.ownsRow w1.heap.size 3 1 V3 (witU ps ((showL ps).take q)).length ((witU ps ((showL ps).take q)).map (Value.int .i64))∧Below w1.heap.size w1 wr) (fun s10 _ _=>(showL ps).length-(intOf s10).toNat)
 case atStart=>exact ⟨0,_,rfl,rfl,Nat.zero_le _,World.ownsRow_nil _ _ _ _,Below.refl _ _⟩
 case round =>
  obtain ⟨q,V3,hV3,rfl,hq,hown,hb⟩:=hrel
  replace hV3:=hV3.symm
  subst hV3
  have HOW:=hid hown;have HB:=hid hb;clear hown hb
  have hul:=witU_len ps ((showL ps).take q)
  have hsl:=SL.out
  have hu4:(witU ps ((showL ps).take q)).length≤10000:=by rw [HPL.out,List.length_take] at hul;have:min q (showL ps).length * n≤20 * 20:=Nat.mul_le_mul (by omega) (by omega);omega
  clear hul
  by_cases hlt:q<(showL ps).length
  · have hlt':(q:Int)<(showL ps).length:=by omega
    obtain ⟨r,hr⟩:∃ r,(showL ps)[q]?=some r:=⟨_,List.getElem?_eq_getElem hlt⟩
    obtain ⟨a,ha,hla⟩:=showL_in HPL.out r (List.mem_of_getElem? hr)
    obtain ⟨b5,rfl,hb5,g0,g1⟩:=ownG_get HG.out hr
    have hsn:=witU_snoc ps (showL ps) q r hr
    have HSN:=hid hsn;have HLA:=hid hla;clear hsn hr hla
    have c0:=(HB.out.cell (p:=⟨b5,q * 2,none⟩) hb5).trans g0;have c1:=(HB.out.cell (p:=⟨b5,q * 2+1,none⟩) hb5).trans g1
    clear g0 g1 hb5
    have hszr:=HB.out.size
    obtain ⟨w3,hw3⟩:∃ x,x=wr.alloc (.cells #[.int .i64 r.lo,.int .i64 r.hi] 41):=⟨_,rfl⟩
    have hbs:Blk w3 wr.heap.size 41 #[.int .i64 r.lo,.int .i64 r.hi]:=by rw [hw3];exact Blk.new wr _ _
    have hb3:Below w1.heap.size w1 w3:=by rw [hw3];exact HB.out.alloc hszr _
    have ho3:w3.ownsRow w1.heap.size 3 1 V3 (witU ps ((showL ps).take q)).length ((witU ps ((showL ps).take q)).map (Value.int .i64)):=by rw [hw3];exact HOW.out.alloc _
    have HBS:=hid hbs;have HB3:=hid hb3;have HO3:=hid ho3;clear hbs hb3 ho3
    have HW3:=hid hw3;clear hw3 HOW HB
    have HC:=hid (chosen_w1 g ware lim by_ A n k ps w3 (HV1.out.keep HB3.out) wr.heap.size r.lo r.hi HBS.out)
    rw [HW3.out] at HC
    go_wp2_with fail
    refine HC.out.mono ?_
    rintro e w4 ⟨v4,rfl,ho4,hn4,hb4⟩
    clear HC c0 c1
    rw [← HW3.out] at ho4 hb4
    obtain ⟨p1,hp1⟩:∃ x,x=choN (fun p=>p.ft&&liesB p.lo p.hi r.lo r.hi) ps n:=⟨_,rfl⟩
    have hp1l:=choN_len (fun p=>p.ft&&liesB p.lo p.hi r.lo r.hi) ps n
    rw [← hp1] at ho4 hn4 hp1l
    have HP1:=hid hp1;clear hp1
    obtain ⟨A4,c4,rfl,hO4⟩:=ownI_of ho4
    have hrd4:=(OwnI.rd hO4).1
    have HR4:=hid hrd4;have HB4:=hid hb4;clear ho4 hO4 hrd4 hb4
    have HO4:=hid (owns_below HO3.out HB4.out)
    have HB14:=hid (HB3.out.trans (HB4.out.mono HB3.out.size))
    have HBS4:=hid (HBS.out.keep HB4.out)
    clear HO3 HB3
    have hsz4:=HB14.out.size
    by_cases hne:p1=[]
    · have hz1:p1.length=0:=by rw [hne];rfl
      have hz2:((p1.length:Nat):Int)=0:=by omega
      have HC:=hid (chosen_w2 g ware lim by_ A n k ps w4 (HV1.out.keep HB14.out) wr.heap.size r.lo r.hi HBS4.out)
      have HNE:=hid hne;clear hne
      go_wp2_with fail
      refine HC.out.mono ?_
      rintro e w6 ⟨v6,rfl,ho6,hn6,hb6⟩
      clear HC
      have hpos:=choN_pos (f:=fun p=>liesB p.lo p.hi r.lo r.hi) (ps:=ps) ha HLA.out
      have hp2l:=choN_len (fun p=>liesB p.lo p.hi r.lo r.hi) ps n
      obtain ⟨p2,hp2⟩:∃ x,x=choN (fun p=>liesB p.lo p.hi r.lo r.hi) ps n:=⟨_,rfl⟩
      rw [← hp2] at ho6 hn6 hpos hp2l
      have HP2:=hid hp2;clear hp2
      obtain ⟨A6,c6,rfl,hO6⟩:=ownI_of ho6
      have hrd6:=(OwnI.rd hO6).1
      have HR6:=hid (rdI_take hrd6 hpos);have HB6:=hid hb6
      have hcap6:=hrd6.cap
      obtain ⟨b6,o6,-,rfl,-,-,-⟩:=RdI.get hrd6 (k:=0) (by omega)
      clear ho6 hO6 hrd6 hb6 hn6
      have HO6:=hid (owns_below HO4.out HB6.out)
      have HB16:=hid (HB14.out.trans (HB6.out.mono HB14.out.size))
      have hsz6:=HB16.out.size
      clear HO4
      have hsl1:=head_sliceV b6 o6 p2.length c6 1 (by omega)
      have hcz:(1:Int)≤c6:=by omega
      have HLL:=hid (show (p2.take 1).length=1 by rw [List.length_take];omega)
      have HS2:=hid (show witU ps ((showL ps).take (q+1))=witU ps ((showL ps).take q)++(p2.take 1) by rw [HSN.out];congr 1;unfold witS;rw [HPL.out,← HP1.out,if_pos HNE.out,← HP2.out])
      go_wp2_with (at_builtin;refine wp_app_ints rfl (.tmp 24) (.tmp 25) rfl w1.heap.size V3 _ (witU ps ((showL ps).take q)) rfl HO6.out (some ⟨b6,o6,none⟩) 1 c6 (p2.take 1) rfl HR6.out (by omega) (by omega) ?_;intro v5 w5 hown5 hb5;have HO5:=hid hown5;have HB5:=hid hb5;clear hown5 hb5)
      go_roundw
      case rel=>exact ⟨q+1,_,rfl,by go_num,by omega,by rw [HS2.out,List.length_append,HLL.out];exact HO5.out,HB16.out.trans HB5.out⟩
      case measure=>simp [intOf];omega
    · have hpos:0<p1.length:=List.length_pos_iff.2 hne
      have hz2:¬ (((p1.length:Nat):Int)=0):=by omega
      have hz3:(((p1.length:Nat):Int) == 0)=false:=by simpa using hne
      have HNE:=hid hne;clear hne
      have HS2:=hid (show witU ps ((showL ps).take (q+1))=witU ps ((showL ps).take q)++p1 by rw [HSN.out];congr 1;unfold witS;rw [HPL.out,← HP1.out,if_neg HNE.out])
      go_wp2_with (at_builtin;refine wp_app_ints rfl (.tmp 24) (.tmp 25) rfl w1.heap.size V3 _ (witU ps ((showL ps).take q)) rfl HO4.out A4 p1.length c4 p1 rfl HR4.out (by omega) (by omega) ?_;intro v5 w5 hown5 hb5;have HO5:=hid hown5;have HB5:=hid hb5;clear hown5 hb5)
      go_roundw
      case rel=>exact ⟨q+1,_,rfl,by go_num,by omega,by rw [HS2.out,List.length_append];exact HO5.out,HB14.out.trans HB5.out⟩
      case measure=>simp [intOf];omega
  · obtain rfl:q=(showL ps).length:=by omega
    rw [List.take_length] at HOW hu4
    obtain ⟨A6,c6,rfl,hO6⟩:=ownI_of HOW.out
    have HS:=hid (sortI_any (show OwnI wr w1.heap.size A6 (witU ps (showL ps)).length c6 (witU ps (showL ps)) from hO6) HB.out.size (by omega))
    clear hO6 HOW
    go_wp2_with fail
    refine HS.out.mono ?_
    rintro e w7 ⟨rfl,ho7,hb7⟩
    clear HS
    have HO7:=hid ho7;have HB7:=hid hb7;clear ho7 hb7
    go_wp2
    go_ret
    refine ⟨_,rfl,?_,HB1.out.trans ((HB.out.trans HB7.out).mono HB1.out.size)⟩
    have hl:(witL ps).length=(witU ps (showL ps)).length:=by unfold witL;rw [List.length_mergeSort]
    rw [hl]
    exact owns_base HO7.out HB1.out.size
end Go.Proofs.YtokpblmgdmokoaaGreat
