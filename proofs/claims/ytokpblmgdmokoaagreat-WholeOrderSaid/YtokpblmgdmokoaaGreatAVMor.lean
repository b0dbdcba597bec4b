import Derived.Test.YtokpblmgdmokoaaGreatAVJoi
import Derived.Test.YtokpblmgdmokoaaGreatAVClm
set_option maxHeartbeats 4000000
set_option linter.unusedSimpArgs false
set_option linter.unusedVariables false
namespace Go.Proofs.YtokpblmgdmokoaaGreat
open Go.Lib (hid)
open Go.RowKit Go.Maps Go.Shelf
def bellP:List Prt:=[⟨[101],10,20,1,2,true,11,[]⟩,⟨[102],15,30,3,4,false,0,[]⟩,⟨[103],25,40,5,6,true,12,[]⟩,⟨[104],12,14,7,8,false,0,[]⟩]
def bellX (s:Nat):List (Prt × PAd):=[(⟨[101],10,20,1,2,true,11,[]⟩,⟨some ⟨s+1,0,none⟩,1,1,none,0,0⟩),(⟨[102],15,30,3,4,false,0,[]⟩,⟨some ⟨s+1+1,0,none⟩,1,1,none,0,0⟩),(⟨[103],25,40,5,6,true,12,[]⟩,⟨some ⟨s+1+1+1,0,none⟩,1,1,none,0,0⟩),(⟨[104],12,14,7,8,false,0,[]⟩,⟨some ⟨s+1+1+1+1,0,none⟩,1,1,none,0,0⟩)]
def bellW (w:World):World:=((((w.alloc (.cells #[.string ⟨#[98,101,108,108]⟩,.int .i64 2,.int .i64 20,.slice (some ⟨w.heap.size+1+1+1+1+1,0,none⟩) 4 4] 24)).alloc (.cells #[.int .i64 101] 3)).alloc (.cells #[.int .i64 102] 3)).alloc (.cells #[.int .i64 103] 3)).alloc (.cells #[.int .i64 104] 3)
theorem bellW_size (w:World):(bellW w).heap.size=w.heap.size+5:=by unfold bellW;simp
theorem bellW_below (w:World):Below w.heap.size w (bellW w):=by
 unfold bellW
 exact (((((Below.refl _ w).alloc (Nat.le_refl _) _).alloc (by simp) _).alloc (by simp;omega) _).alloc (by simp;omega) _).alloc (by simp;omega) _
theorem bell_own (w:World):OwnPt ((bellW w).alloc (.cells ((bellX w.heap.size).flatMap pv).toArray 48)) w.heap.size (fun g=>g≤w.heap.size∨((bellW w).alloc (.cells ((bellX w.heap.size).flatMap pv).toArray 48)).heap.size≤g) (some ⟨w.heap.size+1+1+1+1+1,0,none⟩) 4 4 bellP:=by
 have b1:Blk (bellW w) (w.heap.size+1) 3 (arr [101]):=by have h:=Blk.new (w.alloc (.cells #[.string ⟨#[98,101,108,108]⟩,.int .i64 2,.int .i64 20,.slice (some ⟨w.heap.size+1+1+1+1+1,0,none⟩) 4 4] 24)) 3 #[.int .i64 101];rw [World.size_alloc] at h;exact ((h.alloc _).alloc _).alloc _
 have b2:Blk (bellW w) (w.heap.size+1+1) 3 (arr [102]):=by have h:=Blk.new ((w.alloc (.cells #[.string ⟨#[98,101,108,108]⟩,.int .i64 2,.int .i64 20,.slice (some ⟨w.heap.size+1+1+1+1+1,0,none⟩) 4 4] 24)).alloc (.cells #[.int .i64 101] 3)) 3 #[.int .i64 102];rw [World.size_alloc,World.size_alloc] at h;exact (h.alloc _).alloc _
 have b3:Blk (bellW w) (w.heap.size+1+1+1) 3 (arr [103]):=by have h:=Blk.new (((w.alloc (.cells #[.string ⟨#[98,101,108,108]⟩,.int .i64 2,.int .i64 20,.slice (some ⟨w.heap.size+1+1+1+1+1,0,none⟩) 4 4] 24)).alloc (.cells #[.int .i64 101] 3)).alloc (.cells #[.int .i64 102] 3)) 3 #[.int .i64 103];rw [World.size_alloc,World.size_alloc,World.size_alloc] at h;exact h.alloc _
 have b4:Blk (bellW w) (w.heap.size+1+1+1+1) 3 (arr [104]):=by have h:=Blk.new ((((w.alloc (.cells #[.string ⟨#[98,101,108,108]⟩,.int .i64 2,.int .i64 20,.slice (some ⟨w.heap.size+1+1+1+1+1,0,none⟩) 4 4] 24)).alloc (.cells #[.int .i64 101] 3)).alloc (.cells #[.int .i64 102] 3)).alloc (.cells #[.int .i64 103] 3)) 3 #[.int .i64 104];rw [World.size_alloc,World.size_alloc,World.size_alloc,World.size_alloc] at h;exact h
 refine ⟨bellX w.heap.size,rfl,fun x hx=>?_,⟨rfl,.inr ⟨_,4,((bellX w.heap.size).flatMap pv).toArray,rfl,by omega,?_,Nat.le_refl _,by unfold maxLen;omega,rfl,rfl⟩⟩⟩
 · have hfar:∀ (s:Nat) (p:Prt),w.heap.size<s→s<w.heap.size+1+1+1+1+1→p.rs=[]→∀ g,((some ⟨w.heap.size+1+1+1+1+1,0,none⟩:Option Addr)=some ⟨g,0,none⟩∨(g≤w.heap.size∨((bellW w).alloc (.cells ((bellX w.heap.size).flatMap pv).toArray 48)).heap.size≤g))→PAd.far ⟨some ⟨s,0,none⟩,1,1,none,0,0⟩ g p:=by
    rintro s p hs0 hs hp g (e|e)
    · injection e with e
      injection e with e
      subst e
      exact ⟨.inr (fun a ha=>by injection ha with ha;rw [← ha];show s≠_;omega),.inl hp⟩
    · rw [World.size_alloc,bellW_size] at e
      exact ⟨.inr (fun a ha=>by injection ha with ha;rw [← ha];show s≠g;omega),.inl hp⟩
   have hok:∀ (s:Nat) (p:Prt) (x:Int),Blk (bellW w) s 3 (arr [x])→p.sh=[x]→p.rs=[]→PAd.ok ((bellW w).alloc (.cells ((bellX w.heap.size).flatMap pv).toArray 48)) p ⟨some ⟨s,0,none⟩,1,1,none,0,0⟩:=fun s p x h h1 h2=>by
    unfold PAd.ok
    rw [h1,h2]
    exact ⟨(rd_of_blk h rfl).alloc _,rdI_none _,by unfold maxLen;dsimp only;omega,Nat.zero_le _⟩
   simp only [bellX,List.mem_cons,List.not_mem_nil,or_false] at hx
   rcases hx with rfl|rfl|rfl|rfl
   · exact ⟨hok _ _ _ b1 rfl rfl,hfar _ _ (by omega) (by omega) rfl⟩
   · exact ⟨hok _ _ _ b2 rfl rfl,hfar _ _ (by omega) (by omega) rfl⟩
   · exact ⟨hok _ _ _ b3 rfl rfl,hfar _ _ (by omega) (by omega) rfl⟩
   · exact ⟨hok _ _ _ b4 rfl rfl,hfar _ _ (by omega) (by omega) rfl⟩
 · have h:=Blk.new (bellW w) 48 ((bellX w.heap.size).flatMap pv).toArray
   rw [bellW_size] at h
   exact h
set_option maxRecDepth 100000 in
theorem bell_any (w:World):Calls Tryz.prog 65 #[] w fun e w'=>∃ b,e=.returned (.agg #[.string ⟨#[98,101,108,108]⟩,.int .i64 2,.int .i64 20,.slice (some ⟨b,0,none⟩) 4 4])∧OwnPt w' w.heap.size (fun g=>g≤w.heap.size∨w'.heap.size≤g) (some ⟨b,0,none⟩) 4 4 bellP∧Below w.heap.size w w':=by
 have HO:=hid (bell_own w)
 have HB:=hid ((bellW_below w).alloc (by rw [bellW_size];omega) (.cells ((bellX w.heap.size).flatMap pv).toArray 48))
 have HX:=hid (show Blk ((bellW w).alloc (.cells ((bellX w.heap.size).flatMap pv).toArray 48)) w.heap.size 24 #[.string ⟨#[98,101,108,108]⟩,.int .i64 2,.int .i64 20,.slice (some ⟨w.heap.size+1+1+1+1+1,0,none⟩) 4 4] from (((((Blk.new w _ _).alloc _).alloc _).alloc _).alloc _).alloc _)
 go_enter Tryz.func65,Tryz.ntmps65
 go_wp2
 have c0:=Blk.cell HX.out 0;have c1:=Blk.cell HX.out 1;have c2:=Blk.cell HX.out 2;have c3:=Blk.cell HX.out 3
 simp only [bellW,bellX,pv,List.flatMap_cons,List.flatMap_nil,List.cons_append,List.nil_append,List.append_nil] at c0 c1 c2 c3
 refine bodyPost_ret (v:=.agg #[.string ⟨#[98,101,108,108]⟩,.int .i64 2,.int .i64 20,.slice (some ⟨w.heap.size+1+1+1+1+1,0,none⟩) 4 4]) (by simp [results,Tryz.results65,go_sem,c0,c1,c2,c3]) rfl ⟨_,rfl,HO.out,HB.out⟩
theorem rdI_keepF {K:Nat→Prop} {W W':World} {A:Option Addr} {n c:Nat} {l:List Int} (h:KeepW K W W') (hr:RdI W A n c l) (hK:l=[]∨∀ a,A=some a→K a.block):RdI W' A n c l:=by
 rcases hK with h0|h1
 · exact ⟨hr.len,hr.cap,hr.nil,.inl (by rw [h0];rfl)⟩
 · exact rdI_keepW h hr h1
theorem far3 {l:List Int} {A:Option Addr} {a b c:Nat} (h1:l=[]∨∀ x,A=some x→x.block≠a) (h2:l=[]∨∀ x,A=some x→x.block≠b) (h3:l=[]∨∀ x,A=some x→x.block≠c):l=[]∨∀ x,A=some x→(x.block≠a∧x.block≠b∧x.block≠c):=by
 rcases h1 with h|h1
 · exact .inl h
 rcases h2 with h|h2
 · exact .inl h
 rcases h3 with h|h3
 · exact .inl h
 exact .inr (fun x hx=>⟨h1 x hx,h2 x hx,h3 x hx⟩)
def x5 (s:Nat):Prt × PAd:=(⟨[105],12,13,0,0,true,13,[]⟩,⟨some ⟨s+1,0,none⟩,1,1,none,0,0⟩)
set_option maxRecDepth 100000 in
theorem more_any (w:World):Calls Tryz.prog 66 #[] w fun e w'=>∃ A c,e=.returned (.agg #[.string ⟨#[98,101,108,108]⟩,.int .i64 0,.int .i64 0,.slice A 5 c])∧RdP w' A 5 c (bellP++[⟨[105],12,13,0,0,true,13,[]⟩])∧Below w.heap.size w w':=by
 obtain ⟨i0,hi0,hz0,hz1,hz2⟩:=info_parts infoPt
 have HI:=hid hi0;have HZ0:=hid hz0;have HZ1:=hid hz1;have HZ2:=hid hz2;clear hi0 hz0 hz1 hz2
 go_enter Tryz.func66,Tryz.ntmps66
 have HC:=hid (bell_any (w.alloc (.cells #[.string ⟨#[]⟩,.int .i64 0,.int .i64 0,.slice none 0 0] 24)))
 go_wp2_with fail
 refine HC.out.mono ?_
 rintro e w2 ⟨b,rfl,hown,hb2⟩
 clear HC
 have hs2:=hb2.size
 rw [World.size_alloc] at hs2
 have HO:=hid hown;have HB2:=hid hb2;clear hown hb2
 obtain ⟨W3,hW3⟩:∃ z,z=(((w2.alloc (.cells #[.string ⟨#[98,101,108,108]⟩,.int .i64 0,.int .i64 0,.slice (some ⟨b,0,none⟩) 4 4] 24)).alloc (.cells #[.int .i64 105] 3)).alloc (.cells #[.slice (some ⟨w2.heap.size+1,0,none⟩) 1 1,.int .i64 12,.int .i64 13,.int .i64 0,.int .i64 0,.bool true,.int .i64 13,.slice none 0 0] 48)):=⟨_,rfl⟩
 have hs3:W3.heap.size=w2.heap.size+3:=by rw [hW3];simp
 have hb3:Below w2.heap.size w2 W3:=by rw [hW3];exact (((Below.refl _ w2).alloc (Nat.le_refl _) _).alloc (by simp) _).alloc (by simp;omega) _
 have hbx:Blk W3 w2.heap.size 24 #[.string ⟨#[98,101,108,108]⟩,.int .i64 0,.int .i64 0,.slice (some ⟨b,0,none⟩) 4 4]:=by rw [hW3];exact ((Blk.new w2 _ _).alloc _).alloc _
 have hb5:Blk W3 (w2.heap.size+1) 3 (arr [105]):=by rw [hW3];have h:=Blk.new (w2.alloc (.cells #[.string ⟨#[98,101,108,108]⟩,.int .i64 0,.int .i64 0,.slice (some ⟨b,0,none⟩) 4 4] 24)) 3 #[.int .i64 105];rw [World.size_alloc] at h;exact h.alloc _
 have hbp:Blk W3 (w2.heap.size+1+1) 48 #[.slice (some ⟨w2.heap.size+1,0,none⟩) 1 1,.int .i64 12,.int .i64 13,.int .i64 0,.int .i64 0,.bool true,.int .i64 13,.slice none 0 0]:=by rw [hW3];have h:=Blk.new ((w2.alloc (.cells #[.string ⟨#[98,101,108,108]⟩,.int .i64 0,.int .i64 0,.slice (some ⟨b,0,none⟩) 4 4] 24)).alloc (.cells #[.int .i64 105] 3)) 48 #[.slice (some ⟨w2.heap.size+1,0,none⟩) 1 1,.int .i64 12,.int .i64 13,.int .i64 0,.int .i64 0,.bool true,.int .i64 13,.slice none 0 0];rw [World.size_alloc,World.size_alloc] at h;exact h
 have hz2:Blk w2 w.heap.size 24 #[.string ⟨#[]⟩,.int .i64 0,.int .i64 0,.slice none 0 0]:=(Blk.new w 24 #[.string ⟨#[]⟩,.int .i64 0,.int .i64 0,.slice none 0 0]).below HB2.out (by simp)
 have hz3:Blk W3 w.heap.size 24 #[.string ⟨#[]⟩,.int .i64 0,.int .i64 0,.slice none 0 0]:=hz2.below hb3 (by omega)
 obtain ⟨xs,h1,h2,h3⟩:=HO.out.keep hb3
 have hbb:=(World.ownsRow.lt HO.out.choose_spec.2.2 b rfl)
 rw [World.size_alloc] at h3 hbb
 have hbel:Below w.heap.size w W3:=(((Below.refl _ w).alloc (Nat.le_refl _) (.cells #[.string ⟨#[]⟩,.int .i64 0,.int .i64 0,.slice none 0 0] 24)).trans (HB2.out.mono (by simp))).trans (hb3.mono (by omega))
 have HS3:=hid hs3;have HX:=hid hbx;have H5:=hid hb5;have HP:=hid hbp;have HZ3:=hid hz3;have H1:=hid h1;have H2:=hid h2;have H3:=hid h3;have HBB:=hid hbb;have HBEL:=hid hbel
 clear hs3 hb3 hbx hb5 hbp hz3 hz2 h1 h2 h3 hbb hbel HO HB2
 have HW3:=hid hW3;clear hW3
 go_wp2_with (at_builtin;refine Classical.byContradiction (fun hcon=>?_))
 rw [← HW3.out] at hcon
 apply hcon
 clear hcon
 refine wpList_append_own _ rfl (.tmp 6) (.tmp 10) 22 rfl (w.heap.size+1) 48 i0 _ 8 96 Tryz.underlying22 HI.out HZ0.out HZ1.out HZ2.out rfl (by decide) (.slice (some ⟨b,0,none⟩) 4 4) 4 (xs.flatMap pv) rfl H3.out ⟨w2.heap.size+1+1,0,none⟩ 1 1 (pv (x5 w2.heap.size)) rfl rfl (fun j u hu=>by rw [Addr.add_lit,Nat.zero_add,HP.out.cell];rw [← Array.getElem?_toList];exact hu) (by intro u hu;simp [x5,pv] at hu;rcases hu with rfl|rfl|rfl|rfl|rfl|rfl|rfl|rfl<;>rfl) (by unfold maxLen;omega) (by omega) (by rw [HS3.out];omega) ?_
 intro v' w4 hown4 hg4 _
 obtain ⟨A5,c5,rfl,-⟩:=own_form hown4
 have HO4:=hid hown4
 have HG4:=hid hg4
 clear hown4 hg4
 have bx4:Blk w4 w2.heap.size 24 #[.string ⟨#[98,101,108,108]⟩,.int .i64 0,.int .i64 0,.slice (some ⟨b,0,none⟩) 4 4]:=(HG4.out.block _ HX.out.lt (fun e=>by injection e with e;have e2:w2.heap.size=b:=e;have:=HBB.out.2;omega)).trans HX.out
 have bz4:Blk w4 w.heap.size 24 #[.string ⟨#[]⟩,.int .i64 0,.int .i64 0,.slice none 0 0]:=(HG4.out.block _ HZ3.out.lt (fun e=>by injection e with e;have e2:w.heap.size=b:=e;have:=HBB.out.1;omega)).trans HZ3.out
 have BX4:=hid bx4
 have BZ4:=hid bz4
 clear bx4 bz4
 have q0:=Blk.cell BX4.out 0
 have q1:=Blk.cell BX4.out 1
 have q2:=Blk.cell BX4.out 2
 have q3:=Blk.cell BX4.out 3
 have qf:=Blk.frozen BX4.out 3
 have r0:=Blk.cell BZ4.out 0
 have r1:=Blk.cell BZ4.out 1
 have r2:=Blk.cell BZ4.out 2
 have r3:=Blk.cell BZ4.out 3
 have rf0:=Blk.frozen BZ4.out 0
 have rf1:=Blk.frozen BZ4.out 1
 have rf2:=Blk.frozen BZ4.out 2
 have rf3:=Blk.frozen BZ4.out 3
 have hne:w.heap.size≠w2.heap.size:=(by omega)
 have hne2:w2.heap.size≠w.heap.size:=(by omega)
 go_wp2
 obtain ⟨F,hF⟩:∃ z,z=((((w4.setCell ⟨w2.heap.size,3,none⟩ (.slice A5 5 c5)).setCell ⟨w.heap.size,0,none⟩ (.string ⟨#[98,101,108,108]⟩)).setCell ⟨w.heap.size,1,none⟩ (.int .i64 0)).setCell ⟨w.heap.size,2,none⟩ (.int .i64 0)).setCell ⟨w.heap.size,3,none⟩ (.slice A5 5 c5):=⟨_,rfl⟩
 rw [← hF]
 have hbF:Blk F w.heap.size 24 #[.string ⟨#[98,101,108,108]⟩,.int .i64 0,.int .i64 0,.slice A5 5 c5]:=by rw [hF];exact (((((BZ4.out.far (by exact hne) _).set_ 0 _).set_ 1 _).set_ 2 _).set_ 3 _)
 have hkF:KeepW (fun k=>k≠w.heap.size∧k≠w2.heap.size) w4 F:=by
  rw [hF]
  exact ⟨rfl,rfl,rfl,by simp,fun k _ hk=>by rw [heap_setCell_other _ _ _ _ hk.1,heap_setCell_other _ _ _ _ hk.1,heap_setCell_other _ _ _ _ hk.1,heap_setCell_other _ _ _ _ hk.1,heap_setCell_other _ _ _ _ hk.2]⟩
 have hbel:Below w.heap.size w F:=by
  rw [hF]
  exact (((((HBEL.out.grown HG4.out HBEL.out.size (fun r e=>by injection e with e;have e2:b=r:=e;have:=HBB.out.1;omega)).setCell (p:=⟨w2.heap.size,3,none⟩) (by dsimp only;omega) _).setCell (p:=⟨w.heap.size,0,none⟩) (Nat.le_refl _) _).setCell (p:=⟨w.heap.size,1,none⟩) (Nat.le_refl _) _).setCell (p:=⟨w.heap.size,2,none⟩) (Nat.le_refl _) _).setCell (p:=⟨w.heap.size,3,none⟩) (Nat.le_refl _) _
 clear hF q0 q1 q2 q3 qf r0 r1 r2 r3 rf0 rf1 rf2 rf3
 have c0:=Blk.cell hbF 0;have c1:=Blk.cell hbF 1;have c2:=Blk.cell hbF 2;have c3:=Blk.cell hbF 3
 refine bodyPost_ret (v:=.agg #[.string ⟨#[98,101,108,108]⟩,.int .i64 0,.int .i64 0,.slice A5 5 c5]) (by simp [results,Tryz.results66,go_sem,c0,c1,c2,c3]) rfl ⟨A5,c5,rfl,?_,hbel⟩
 have hkg:KeepW (fun k=>k≠b) W3 w4:=KeepW.grown HG4.out (fun j e=>by injection e with e;have e2:b=j:=e;exact fun h=>h e2.symm)
 have hrow:=HO4.out
 have hne5:∀ k,(Value.slice A5 5 c5).ownBlock=some k→k≠w.heap.size∧k≠w2.heap.size:=by
  rcases hrow.2 with ⟨h0,_⟩|⟨g,cap,cur,hv,hb,hh,_⟩
  · intro k hk;rw [h0] at hk;cases hk
  · intro k hk
    rw [hv] at hk
    injection hk with hk
    have hk2:g=k:=hk
    subst hk2
    refine ⟨by omega,fun e=>?_⟩
    subst e
    have h9:=hh.symm.trans BX4.out
    injection h9 with h9
    injection h9 with _ h10
    cases h10
 have hrF:=ownsRow_keepW hrow hkF (fun k hk=>hne5 k hk)
 obtain ⟨A6,c6,e6,hn6,_,hnil6,hcells⟩:=own_form hrF
 injection e6 with e61 e62 e63
 subst e61 e63
 refine ⟨by rfl,hn6,hnil6,xs++[x5 w2.heap.size],by rw [List.map_append,H1.out];rfl,fun x hx=>?_,by rw [List.flatMap_append];simpa using hcells⟩
 have hK3:KeepW (fun k=>k≠b∧k≠w.heap.size∧k≠w2.heap.size) W3 F:=(hkg.weaken (fun i _ h=>h.1)).trans (hkF.weaken (fun i _ h=>h.2))
 rcases List.mem_append.1 hx with hx|hx
 · obtain ⟨hok,hfar⟩:=H2.out x hx
   have f1:=hfar b (.inl rfl)
   have f2:=hfar w.heap.size (.inr (.inl (by rw [World.size_alloc];omega)))
   have f3:=hfar w2.heap.size (.inr (.inr (Nat.le_refl _)))
   exact ⟨rdI_keepF hK3 hok.1 (far3 f1.1 f2.1 f3.1),rdI_keepF hK3 hok.2.1 (far3 f1.2 f2.2 f3.2),hok.2.2⟩
 · rw [List.mem_singleton.1 hx]
   have hbb:=HBB.out.2
   exact ⟨rdI_keepF hK3 (rd_of_blk H5.out rfl) (.inr (fun a ha=>by injection ha with ha;rw [← ha];exact ⟨by dsimp only;omega,by dsimp only;omega,by dsimp only;omega⟩)),rdI_none _,by unfold maxLen x5;dsimp only;omega,Nat.zero_le _⟩
end Go.Proofs.YtokpblmgdmokoaaGreat
