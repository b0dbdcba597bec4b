import Derived.Test.YtokpblmgdmokoaaGreatAVWo
import Derived.Test.YtokpblmgdmokoaaGreatAVIsw
set_option linter.unusedSimpArgs false
set_option linter.unusedVariables false
namespace Go.Proofs.YtokpblmgdmokoaaGreat
open Go.Lib (hid)
open Go.RowKit Go.Maps Go.Shelf
def criB (ps:List Prt) (a:Nat):Bool:=decide ((vesL (ps.eraseIdx a)).length<(vesL ps).length)
def criN (ps:List Prt) (q:Nat):List Int:=((List.range q).filter (criB ps)).map (fun b:Nat=>(b:Int))
theorem criN_succ (ps:List Prt) (q:Nat):criN ps (q+1)=criN ps q++(if criB ps q then [(q:Int)] else []):=by
 unfold criN
 rw [List.range_succ,List.filter_append,List.map_append]
 cases h:criB ps q<;>simp [h]
theorem criN_len (ps:List Prt) (q:Nat):(criN ps q).length≤q:=by
 unfold criN
 rw [List.length_map]
 exact Nat.le_trans (List.length_filter_le _ _) (by simp)
set_option maxRecDepth 100000 in
set_option maxHeartbeats 4000000 in
theorem Critical_yes (ware:ByteArray) (lim by_:Int) (A:Option Addr) (n k:Nat) (ps:List Prt) (w:World) (hr:RdP w A n k ps) (hn:n≤maxLen) (hq:chkC ⟨ware,lim,by_,ps⟩=0) (h20:n<20):Calls Tryz.prog 49 #[.agg #[.string ware,.int .i64 lim,.int .i64 by_,.slice A n k]] w fun e w'=>∃ v,e=.returned (.tuple #[v,.int .i64 0])∧w'.ownsRow w.heap.size 3 1 v (criN ps n).length ((criN ps n).map (Value.int .i64))∧Below w.heap.size w w':=by
 obtain ⟨i0,hi0,hz0,hz1,hz2⟩:=info_parts infoIv
 have HI:=hid hi0;have HZ0:=hid hz0;have HZ1:=hid hz1;have HZ2:=hid hz2;clear hi0 hz0 hz1 hz2
 have HSM:=hid (small_of hq);have HWF:=hid (wfR_of hq)
 have HQ:=hid hq;clear hq
 go_enter Tryz.func49,Tryz.ntmps49
 obtain ⟨a0,a1⟩:=ent1 w #[.string ware,.int .i64 lim,.int .i64 by_,.slice A n k] 24
 have a3:=hid (RdP.below (hr) a1.out)
 clear hr
 obtain ⟨b9,c0,c1,c2⟩:=at4 a0
 have hc:=viewOf_yes ware lim by_ A n k ps none 0 0 [] ((w.alloc (.cells #[.string ware,.int .i64 lim,.int .i64 by_,.slice A n k] 24))) a3.out (rdI_none _) hn (by unfold maxLen;omega) ((askP_nil _).trans HQ.out)
 have HC:=hid hc;clear hc
 go_wp2_with fail
 refine HC.out.mono ?_
 rintro e c3 ⟨⟨g,rfl,hvw⟩,hb⟩
 have HVW:=hid hvw;clear hvw
 clear HC
 clear b9 c0 c1 c2
 have a5:=hid hb
 clear hb
 replace a0:=kH a0 a5
 obtain ⟨b1,b2,b3,b4⟩:=at4 a0
 have hc:=least_any g ware lim by_ A n k ps (c3) HVW.out h20
 have HC:=hid hc;clear hc
 go_wp2_with fail
 refine HC.out.mono ?_
 rintro e a4 ⟨rfl,hb⟩
 clear HC
 clear b1 b2 b3 b4
 have a2:=hid hb
 clear hb
 replace a0:=kH a0 a2
 obtain ⟨b5,b6,b7,b8⟩:=at4 a0
 replace HVW:=hid (Vw.keep (HVW.out) a2.out)
 obtain ⟨-,-,-,v3⟩:=(HVW.out).cells
 have hvl:=(HVW.out).lt
 go_wp2
 clear v3 hvl
 clear b5 b6 b7 b8
 replace a3:=hid (RdP.below (RdP.below (a3.out) a5.out) a2.out)
 replace a1:=bH (bH a1 a5) a2
 have HR1:=hid (a3.out);have HBC1:=hid (a0.out)
 go_loopw [25,7] (fun s25 s7 wr=>∃ (q:Nat) (V7:Value),s7=V7∧s25=.int .i64 q∧q≤n∧wr.ownsRow a4.heap.size 3 1 V7 (criN ps q).length ((criN ps q).map (Value.int .i64))∧Below a4.heap.size a4 wr) (fun s25 _ _=>n-(intOf s25).toNat)
 case atStart=>exact ⟨0,_,rfl,rfl,Nat.zero_le _,World.ownsRow_nil _ _ _ _,Below.refl _ _⟩
 case round =>
  obtain ⟨q,V7,hV7,rfl,hq,hown,hb⟩:=hrel
  replace hV7:=hV7.symm
  subst hV7
  have HOW:=hid hown;have HB:=hid hb;clear hown hb
  have hlen:=criN_len ps q
  have HSU:=hid (criN_succ ps q)
  by_cases hlt:q<n
  · have hlt':(q:Int)<n:=by omega
    have hszr:=HB.out.size
    obtain ⟨xs,h1,h2,h3⟩:=(HR1.out.below HB.out).cells
    have a6:=hid (HBC1.out.keep HB.out)
    obtain ⟨a7,a8,a9,b0⟩:=at4 a6
    have HC:=hid (without_T ware lim by_ A n k ps q (fun _=>False) wr (HR1.out.below HB.out) (by omega) HSM.out hlt xs h1 (fun x hx=>⟨h2 x hx,fun g h=>h.elim⟩) h3 (fun g h=>h.elim))
    clear h1 h2 h3
    go_wp2_with fail
    refine HC.out.mono ?_
    rintro e w4 ⟨⟨R,k1,rfl,ho4⟩,hb4⟩
    clear HC
    clear a7 a8 a9 b0
    have HO4:=hid ho4;have HB4:=hid hb4;clear ho4 hb4
    have HC:=hid (look_any ware lim by_ R (n-1) k1 (ps.eraseIdx q) w4 HO4.out.rd (by omega) (fun p hp=>HWF.out p (List.mem_of_mem_eraseIdx hp)))
    go_wp2_with fail
    refine HC.out.mono ?_
    rintro e w5 ⟨⟨g2,bm,rfl,hvb,hor⟩,hb5⟩
    clear HC
    have HVW2:=hid (show Vw w5 g2 ware lim by_ R (n-1) k1 (ps.eraseIdx q) from ⟨⟨bm,hvb,hor⟩,HO4.out.rd.below hb5,by omega,fun p hp=>HWF.out p (List.mem_of_mem_eraseIdx hp)⟩);have HB5:=hid hb5;clear hvb hor hb5
    have HC:=hid (least_any g2 ware lim by_ R (n-1) k1 (ps.eraseIdx q) w5 HVW2.out (by omega))
    go_wp2_with fail
    refine HC.out.mono ?_
    rintro e w6 ⟨rfl,hb6⟩
    clear HC
    have HB46:=hid (HB4.out.trans ((HB5.out.trans (hb6.mono HB5.out.size)).mono HB4.out.size));clear hb6
    have HO6:=hid (owns_below HOW.out HB46.out);have HB6:=hid (HB.out.trans (HB46.out.mono hszr));clear HOW HB HB4 HB5 HO4 HVW2
    have hsz6:=HB6.out.size
    by_cases hcr:(vesL (ps.eraseIdx q)).length<(vesL ps).length
    · have hcz:(((vesL (ps.eraseIdx q)).length:Nat):Int)<(((vesL ps).length:Nat):Int):=by omega
      have HS2:=hid (show criN ps (q+1)=criN ps q++[(q:Int)] by rw [HSU.out,show criB ps q=true from decide_eq_true hcr];simp)
      have OW:=hid (HO6.out.alloc (.cells #[.int .i64 q] 3));have N1:=hid (Blk.new w6 3 #[.int .i64 q]);have hbb:=hid (HB6.out.alloc HB6.out.size (.cells #[.int .i64 q] 3))
      go_wp2_with (at_builtin;refine wpList_append_own _ rfl (.tmp 35) (.tmp 37) 30 rfl (a4.heap.size) 3 i0 _ 1 8 Tryz.underlying30 HI.out HZ0.out HZ1.out HZ2.out rfl (by omega) V7 _ _ rfl OW.out ⟨w6.heap.size,0,none⟩ 1 1 [.int .i64 q] rfl rfl (fun j u hu=>by rw [Addr.add_lit,Nat.zero_add,N1.out.cell];simpa using hu) (by simp [Value.oneCell']) (by unfold maxLen;omega) (by omega) (by simp;omega) ?_;intro v' w4 hown4 hg4 _;have HO4:=hid hown4;have HG4:=hid (show World.grownBy _ w4 V7.ownBlock from hg4);clear hown4 hg4)
      go_roundw
      case rel=>exact ⟨q+1,_,rfl,by go_num,by omega,(by rw [HS2.out];simpa using HO4.out),hbb.out.grown HG4.out hbb.out.size (fun r e=>(OW.out.lt r e).1)⟩
      case measure=>simp [intOf];omega
    · have hcz:¬ (((vesL (ps.eraseIdx q)).length:Nat):Int)<(((vesL ps).length:Nat):Int):=by omega
      have HS2:=hid (show criN ps (q+1)=criN ps q by rw [HSU.out,show criB ps q=false from decide_eq_false hcr];simp)
      go_wp2
      go_roundw
      case rel=>exact ⟨q+1,_,rfl,by go_num,by omega,(by rw [HS2.out];exact HO6.out),HB6.out⟩
      case measure=>simp [intOf];omega
  · obtain rfl:q=n:=by omega
    go_wp2
    refine bodyPost_ret (v:=.tuple #[V7,.int .i64 0]) (by simp [results,Tryz.results49,go_sem]) rfl ⟨V7,rfl,owns_base HOW.out (a1.out).size,(a1.out).trans (HB.out.mono (a1.out).size)⟩
end Go.Proofs.YtokpblmgdmokoaaGreat
