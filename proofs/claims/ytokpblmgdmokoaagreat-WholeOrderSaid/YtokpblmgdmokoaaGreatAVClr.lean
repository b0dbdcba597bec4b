import Derived.Test.YtokpblmgdmokoaaGreatAVClm
set_option linter.unusedSimpArgs false
set_option linter.unusedVariables false
namespace Go.Proofs.YtokpblmgdmokoaaGreat
open Go.Lib (hid)
open Go.RowKit Go.Maps Go.Shelf
theorem colS_push {cur:List Ves} {ls:List (List Int)} {x q:Nat} {y:Ves} (h:(if (x:Int)=ls.length then ls++[[]] else ls)=cur.map Ves.l) (hy:cur[x]?=some y) (A:Option Addr) (c:Nat):(cur.set x ⟨y.l++[(q:Int)],A,c⟩).map Ves.l=colS ls q (x:Int):=by
 unfold colS
 rw [h,List.map_set,Int.toNat_natCast,List.getD_eq_getElem?_getD,List.getElem?_map,hy]
 rfl
theorem yl_two {cur cu2:List Ves} (h:∀ w∈cur.map Ves.l,w.length≤1000) (e:cu2=cur++[(⟨[],none,0⟩:Ves)]):∀ w∈cu2.map Ves.l,w.length≤1000:=by
 intro w hw
 rw [e,List.map_append] at hw
 rcases List.mem_append.1 hw with hw|hw
 · exact h w hw
 · simp at hw;rw [hw];simp
theorem llV_len (l:List Int) (q:Int) (A:Option Addr) (c:Nat):llV ⟨l++[q],A,c⟩=.slice A (l.length+1) c:=by unfold llV;simp
set_option maxRecDepth 100000 in
set_option maxHeartbeats 4000000 in
theorem Colours_yes (ware:ByteArray) (lim by_:Int) (A:Option Addr) (n k:Nat) (ps:List Prt) (B:Option Addr) (m d:Nat) (l:List Int) (w:World) (hr:RdP w A n k ps) (hl:RdI w B m d l) (hn:n≤maxLen) (hm:m≤maxLen) (hq:chkC ⟨ware,lim,by_,ps⟩=0) (hab:isAB ps lim l=true):Calls Tryz.prog 54 #[.agg #[.string ware,.int .i64 lim,.int .i64 by_,.slice A n k],.slice B m d] w fun e w'=>∃ v,e=.returned (.tuple #[v,.int .i64 0])∧w'.ownsRow w.heap.size 41 2 v (colR_ ps l).length (rcells (colR_ ps l))∧Below w.heap.size w w':=by
 obtain ⟨i0,hi0,hz0,hz1,hz2⟩:=info_parts infoG
 have HI:=hid hi0;have HZ0:=hid hz0;have HZ1:=hid hz1;have HZ2:=hid hz2;clear hi0 hz0 hz1 hz2
 have h40:n≤40:=by have h:=(chkC_ok hq).1;rw [hr.len] at h;exact h
 obtain ⟨hlp,hok⟩:=isAB_ok hab
 have hm40:m≤40:=by have h1:=hl.len;have h2:=hr.len;omega
 have hmn:m=n:=by have h1:=hl.len;have h2:=hr.len;omega
 have HMN:=hid hmn;have HOK:=hid hok;clear hok hlp hmn
 have HQ:=hid hq;have HAB:=hid hab;clear hq hab
 go_enter Tryz.func54,Tryz.ntmps54
 obtain ⟨a3,a0⟩:=ent1 w #[.string ware,.int .i64 lim,.int .i64 by_,.slice A n k] 24
 have a5:=hid (RdP.below (hr) a0.out)
 have a4:=iI hl a0
 clear hr hl
 obtain ⟨b0,b1,b2,b3⟩:=at4 a3
 have hc:=viewOf_yes ware lim by_ A n k ps none 0 0 [] ((w.alloc (.cells #[.string ware,.int .i64 lim,.int .i64 by_,.slice A n k] 24))) a5.out (rdI_none _) hn (by unfold maxLen;omega) ((askP_nil _).trans HQ.out)
 have HC:=hid hc;clear hc
 go_wp2_with fail
 refine HC.out.mono ?_
 rintro e a2 ⟨⟨g,rfl,hvw⟩,hb⟩
 have HVW:=hid hvw;clear hvw
 clear HC
 clear b0 b1 b2 b3
 have a1:=hid hb
 clear hb
 replace a3:=kH a3 a1
 obtain ⟨a6,a7,a8,a9⟩:=at4 a3
 replace a4:=iH a4 a1
 have HC:=hid ((by have h:=isAssign_any g ware lim by_ A n k ps B m d l (a2) HVW.out a4.out hm;rw [HAB.out] at h;exact h))
 go_wp2_with fail
 refine HC.out.mono ?_
 rintro e _ ⟨rfl,rfl⟩
 clear HC
 clear a6 a7 a8 a9
 go_wp2
 replace a5:=hid (RdP.below (a5.out) a1.out)
 replace a0:=bH a0 a1
 have HL1:=hid (a4.out);have HV1:=hid (HVW.out);have HBL:=hid (a0.out)
 go_loopw [28,8] (fun s28 s8 wr=>∃ (q:Nat) (V:Value) (cur:List Ves),s8=V∧s28=.int .i64 q∧q≤m∧cur.map Ves.l=colG l q∧OwnLL wr a2.heap.size V cur∧Below a2.heap.size a2 wr) (fun s28 _ _=>m-(intOf s28).toNat)
 case atStart=>exact ⟨0,_,[],rfl,rfl,Nat.zero_le _,rfl,OwnLL.nil _ _,Below.refl _ _⟩
 case round =>
  obtain ⟨q,V,cur,hV,rfl,hq,hcur,hown,hb⟩:=hrel
  replace hV:=hV.symm
  subst hV
  have HOW:=hid hown;have HB:=hid hb;have HCU:=hid hcur;clear hown hb hcur
  have hcl:cur.length≤q:=by have h:=congrArg List.length HCU.out;rw [List.length_map] at h;have:=colG_len l q;omega
  by_cases hlt:q<m
  · have hlt':(q:Int)<m:=by omega
    obtain ⟨b9,o9,v,hB,hb9,hv,e0⟩:=RdI.get (HL1.out.below HB.out) hlt
    subst hB
    have hvx:l.getD q 0=v:=by rw [List.getD_eq_getElem?_getD,hv];rfl
    clear hv
    have hbd:=HOK.out q (by have:=HL1.out.len;omega)
    rw [hvx,← HCU.out,List.length_map] at hbd
    obtain ⟨x,rfl⟩:∃ x:Nat,v=x:=⟨v.toNat,by omega⟩
    have hCS:colG l (q+1)=colS (cur.map Ves.l) q (x:Int):=by rw [HCU.out,← hvx];rfl
    have HCS:=hid hCS;clear hCS hvx
    obtain ⟨A8,c8,rfl,-⟩:=own_form HOW.out.row
    have hszr:=HB.out.size
    by_cases hx:x=cur.length
    · have hxz:((x:Int) == (cur.length:Int))=true:=by simp;omega
      obtain ⟨cu2,hcu2⟩:∃ z,z=cur++[(⟨[],none,0⟩:Ves)]:=⟨_,rfl⟩
      have hl2:cu2.length=cur.length+1:=by rw [hcu2];simp
      have HC2:=hid (show (if (x:Int)=((cur.map Ves.l).length:Int) then cur.map Ves.l++[[]] else cur.map Ves.l)=cu2.map Ves.l by rw [if_pos (by rw [List.length_map];omega),hcu2,List.map_append];rfl)
      have HYL:=hid (yl_two (by rw [HCU.out];exact fun w hw=>Nat.le_trans (colG_in l q w hw).1 (by omega)) hcu2)
      have HCU2:=hid hcu2;have HL2:=hid hl2;clear hcu2 hl2
      have N0:=hid (Blk.new wr 30 #[.slice none 0 0])
      have HX:=hid hx;clear hx
      go_wp2_with (first | (at_builtin;refine wpList_app1S rfl (.tmp 37) (.tmp 38) rfl a2.heap.size (.slice A8 cur.length c8) cur.length (vcs cur) rfl (HOW.out.row.alloc _) wr.heap.size (.slice none 0 0) rfl (Blk.nth N0.out 0) (by simp [Value.oneCell']) (by omega) (by rw [World.size_alloc];omega) ?_;intro v3 w3 hown3 hg3 hwh3;obtain ⟨A3,c3,rfl,-⟩:=own_form hown3;have how3:=(HOW.out.alloc (.cells #[.slice none 0 0] 30)).more hown3 hg3 hwh3;rw [← HCU2.out] at how3;have HOW3:=hid how3;have HB3:=hid ((HB.out.alloc HB.out.size (.cells #[.slice none 0 0] 30)).grown hg3 (by rw [World.size_alloc];omega) (fun r e=>(HOW.out.row.lt r e).1));clear hown3 hg3 hwh3 how3;have hszr3:=HB3.out.size;obtain ⟨y,hy⟩:∃ y,(cu2)[x]?=some y:=⟨_,List.getElem?_eq_getElem (by have:=HL2.out;have:=HX.out;omega)⟩;obtain ⟨gv,cv,hgv,hBg,hgl,hgc⟩:=OwnLL.at_ HOW3.out hy;injection hgv with hg1 hg2 hg3;subst hg1 hg3;clear hg2;have hin:=(HOW3.out).ins y (List.mem_of_getElem? hy);have hyl:y.l.length≤1000:=HYL.out _ (List.mem_map.2 ⟨y,List.mem_of_getElem? hy,rfl⟩);unfold llV at hgc hin;have HY:=hid hy;have HIN:=hid hin;clear hy hin;have N1:=hid (Blk.new w3 3 #[.int .i64 q]);have hxl:(x:Int)<((cur.length+1:Nat):Int):=(by have:=HX.out;omega);have hxl2:(x:Int)<(cur.length:Int)+1:=(by have:=HX.out;omega)) | (at_builtin;refine wpList_app1 rfl (.tmp 45) (.tmp 47) rfl a2.heap.size (.slice y.A y.l.length y.c) y.l.length y.l rfl (HIN.out.alloc _) w3.heap.size q rfl (Blk.nth N1.out 0) (by omega) (by rw [World.size_alloc];omega) ?_;intro v' w4 hown4 hg4 hwh4;obtain ⟨A5,c5,rfl,-⟩:=own_form hown4;obtain ⟨gq,cq,hq1,-,-,hfz,⟨uu,hcu⟩,how5⟩:=OwnLL.push ((HOW3.out).alloc (.cells #[.int .i64 q] 3)) HY.out (x':=⟨y.l++[(q:Int)],A5,c5⟩) (by simpa [llV] using hown4) hg4 (by simpa [llV] using hwh4);injection hq1 with hq2 hq3 hq4;injection hq2 with hq2;injection hq2 with hq2;subst hq2;clear hq3 hq4;rw [llV_len] at how5;have HOW5:=hid how5;have HG4:=hid hg4;clear how5 hg4 hown4 hwh4))
      go_roundw
      case rel=>exact ⟨q+1,_,(cu2).set x ⟨y.l++[(q:Int)],A5,c5⟩,rfl,by go_num,by omega,by rw [HCS.out];exact colS_push HC2.out HY.out _ _,HOW5.out,(((HB3.out).alloc (HB3.out).size (.cells #[.int .i64 q] 3)).grown HG4.out (by rw [World.size_alloc];have:=(HB3.out).size;omega) (fun r e=>(HIN.out.lt r e).1)).setCell (p:=⟨_,_,none⟩) hBg _⟩
      case measure=>simp [intOf];omega
    · have hxz:((x:Int) == (cur.length:Int))=false:=by simp;omega
      have hxl:(x:Int)<cur.length:=by omega
      have HYL:=hid (show ∀ w∈cur.map Ves.l,w.length≤1000 from fun w hw=>by rw [HCU.out] at hw;have:=(colG_in l q w hw).1;omega)
      have HC2:=hid (show (if (x:Int)=((cur.map Ves.l).length:Int) then cur.map Ves.l++[[]] else cur.map Ves.l)=cur.map Ves.l by rw [if_neg (by rw [List.length_map];omega)])
      obtain ⟨y,hy⟩:∃ y,(cur)[x]?=some y:=⟨_,List.getElem?_eq_getElem (by first|omega | (rw [List.length_append];simp;omega))⟩
      obtain ⟨gv,cv,hgv,hBg,hgl,hgc⟩:=OwnLL.at_ HOW.out hy
      injection hgv with hg1 hg2 hg3
      subst hg1 hg3
      clear hg2
      have hin:=(HOW.out).ins y (List.mem_of_getElem? hy)
      have hyl:y.l.length≤1000:=HYL.out _ (List.mem_map.2 ⟨y,List.mem_of_getElem? hy,rfl⟩)
      unfold llV at hgc hin
      have HY:=hid hy;have HIN:=hid hin;clear hy hin
      have N1:=hid (Blk.new wr 3 #[.int .i64 q])
      go_wp2_with (at_builtin;refine wpList_app1 rfl (.tmp 45) (.tmp 47) rfl a2.heap.size (.slice y.A y.l.length y.c) y.l.length y.l rfl (HIN.out.alloc _) wr.heap.size q rfl (Blk.nth N1.out 0) (by omega) (by rw [World.size_alloc];omega) ?_;intro v' w4 hown4 hg4 hwh4;obtain ⟨A5,c5,rfl,-⟩:=own_form hown4;obtain ⟨gq,cq,hq1,-,-,hfz,⟨uu,hcu⟩,how5⟩:=OwnLL.push ((HOW.out).alloc (.cells #[.int .i64 q] 3)) HY.out (x':=⟨y.l++[(q:Int)],A5,c5⟩) (by simpa [llV] using hown4) hg4 (by simpa [llV] using hwh4);injection hq1 with hq2 hq3 hq4;injection hq2 with hq2;injection hq2 with hq2;subst hq2;clear hq3 hq4;rw [llV_len] at how5;have HOW5:=hid how5;have HG4:=hid hg4;clear how5 hg4 hown4 hwh4)
      go_roundw
      case rel=>exact ⟨q+1,_,(cur).set x ⟨y.l++[(q:Int)],A5,c5⟩,rfl,by go_num,by omega,by rw [HCS.out];exact colS_push HC2.out HY.out _ _,HOW5.out,(((HB.out).alloc (HB.out).size (.cells #[.int .i64 q] 3)).grown HG4.out (by rw [World.size_alloc];have:=(HB.out).size;omega) (fun r e=>(HIN.out.lt r e).1)).setCell (p:=⟨_,_,none⟩) hBg _⟩
      case measure=>simp [intOf];omega
  · obtain ⟨wa,rfl⟩:∃ v,v=wr:=⟨wr,rfl⟩
    obtain rfl:q=m:=by omega
    have hcin:=colG_in l q
    rw [← HCU.out] at hcin
    have HCI:=hid hcin;clear hcin
    obtain ⟨A8,c8,rfl,-⟩:=own_form HOW.out.row
    have hsz1:=HB.out.size
    have HV2:=hid (HV1.out.keep HB.out);have HBL2:=hid (HBL.out.trans (HB.out.mono HBL.out.size));have HCR:=hid (show colR_ ps l=(cur.map Ves.l).map (comR ps) by unfold colR_;rw [HCU.out,HL1.out.len])
    clear HB HCU HL1 HV1 HBL HOK HAB
    have hszw:=HBL2.out.size
    go_wp2
    go_loopw [53,11] (fun s53 s11 wr=>∃ (t:Nat) (U:Value),s11=U∧s53=.int .i64 t∧t≤cur.length∧wr.ownsRow wa.heap.size 41 2 U t (rcells (((cur.map Ves.l).map (comR ps)).take t))∧Below wa.heap.size wa wr) (fun s53 _ _=>cur.length-(intOf s53).toNat)
    case atStart=>exact ⟨0,_,rfl,rfl,Nat.zero_le _,World.ownsRow_nil _ _ _ _,Below.refl _ _⟩
    case round =>
     obtain ⟨t,U,hU,rfl,ht,hown,hb⟩:=hrel
     replace hU:=hU.symm
     subst hU
     have HU:=hid hown;have HB:=hid hb;clear hown hb
     have hszr:=HB.out.size
     by_cases hlt:t<cur.length
     · have hlt':(t:Int)<cur.length:=by omega
       obtain ⟨y,hy⟩:∃ y,cur[t]?=some y:=⟨_,List.getElem?_eq_getElem hlt⟩
       obtain ⟨gv,cv,hgv,hBg,hgl,hgc⟩:=OwnLL.at_ (HOW.out.below HB.out) hy
       injection hgv with hg1 hg2 hg3
       subst hg1 hg3
       clear hg2
       obtain ⟨Ay,cy,hyv,hyr,-⟩:=own_rd_blk ((HOW.out.below HB.out).ins y (List.mem_of_getElem? hy))
       rw [hyv] at hgc
       clear hyv
       obtain ⟨hy1,hy2⟩:=HCI.out y.l (List.mem_map.2 ⟨y,List.mem_of_getElem? hy,rfl⟩)
       obtain ⟨R,hR⟩:∃ R,comR ps y.l=R:=⟨_,rfl⟩
       have HTK:=hid (show ((cur.map Ves.l).map (comR ps)).take (t+1)=((cur.map Ves.l).map (comR ps)).take t++[R] by rw [List.take_add_one,List.getElem?_map,List.getElem?_map,hy,← hR];rfl)
       have HC:=hid (common_is ware lim by_ A n k ps g Ay y.l.length cy y.l wr (HV2.out.keep HB.out) hyr (by have:=hyr.len;unfold maxLen;omega) (fun z hz=>by obtain ⟨a,h1,h2⟩:=hy2 z hz;exact ⟨a,h1,by have:=HMN.out;omega⟩) R hR)
       clear hyr hy hy1 hy2 hR
       obtain ⟨A11,c11,rfl,-⟩:=own_form HU.out
       go_wp2_with fail
       refine HC.out.mono ?_
       rintro e w5 ⟨rfl,hb5⟩
       clear HC hgc
       have HU5:=hid (owns_below HU.out hb5);have HB5:=hid (HB.out.trans (hb5.mono hszr));clear hb5 HU HB
       have hsz5:=HB5.out.size
       have OW:=hid (HU5.out.alloc (.cells #[.int .i64 R.lo,.int .i64 R.hi] 41));have N1:=hid (Blk.new w5 41 #[.int .i64 R.lo,.int .i64 R.hi]);have BE:=hid (HB5.out.alloc hsz5 (.cells #[.int .i64 R.lo,.int .i64 R.hi] 41))
       obtain ⟨dn,hdn⟩:∃ z,z=((cur.map Ves.l).map (comR ps)).take t:=⟨_,rfl⟩
       rw [← hdn] at OW HTK
       clear hdn
       go_wp2_with (at_builtin;refine wpList_append_own _ rfl (.tmp 57) (.tmp 61) 51 rfl wa.heap.size 41 i0 _ 2 16 Tryz.underlying51 HI.out HZ0.out HZ1.out HZ2.out rfl (by omega) (.slice A11 t c11) _ (rcells dn) rfl OW.out ⟨w5.heap.size,0,none⟩ 1 1 [.int .i64 R.lo,.int .i64 R.hi] rfl rfl (fun j u hu=>by rw [Addr.add_lit,Nat.zero_add,N1.out.cell];simpa using hu) (by simp [Value.oneCell']) (by unfold maxLen;omega) (by omega) (by rw [World.size_alloc];omega) ?_;intro v9 w9 hown9 hg9 _;have HO9:=hid hown9;have HG9:=hid hg9;clear hown9 hg9)
       go_roundw
       case rel=>exact ⟨t+1,v9,rfl,by go_num,by omega,by rw [HTK.out,rcells_append];exact HO9.out,BE.out.grown HG9.out BE.out.size (fun r e=>(OW.out.lt r e).1)⟩
       case measure=>simp [intOf];omega
     · obtain rfl:t=cur.length:=by omega
       have hfin:((cur.map Ves.l).map (comR ps)).take cur.length=colR_ ps l:=by rw [HCR.out,List.take_of_length_le (by simp)]
       have hfl:(colR_ ps l).length=cur.length:=by rw [HCR.out];simp
       have HF:=hid (show wr.ownsRow wa.heap.size 41 2 U (colR_ ps l).length (rcells (colR_ ps l)) by rw [hfl,← hfin];exact HU.out);clear hfin hfl
       go_wp2
       refine bodyPost_ret (v:=.tuple #[U,.int .i64 0]) (by simp [results,Tryz.results54,go_sem]) rfl ⟨U,rfl,owns_base HF.out hszw,HBL2.out.trans (HB.out.mono hszw)⟩
end Go.Proofs.YtokpblmgdmokoaaGreat
