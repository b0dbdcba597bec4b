import Derived.Test.YtokpblmgdmokoaaGreatAVAny
import Derived.Test.YtokpblmgdmokoaaGreatDVOf
import Derived.Test.YtokpblmgdmokoaaGreatAVMge
set_option maxHeartbeats 4000000
set_option linter.unusedSimpArgs false
set_option linter.unusedVariables false
namespace Go.Proofs.YtokpblmgdmokoaaGreat
open Go.Lib (hid)
open Go.RowKit Go.Maps
section
variable {w:World} {g:Nat} {ware:ByteArray} {lim by_:Int} {A:Option Addr} {n k:Nat} {ps:List Prt}
end
set_option maxRecDepth 100000 in
theorem vot_no (ware:ByteArray) (lim by_:Int) (A:Option Addr) (n k:Nat) (ps:List Prt) (a b:Int) (w:World) (hr:RdP w A n k ps) (hn:n≤maxLen) (q:Int) (hq:askP ⟨ware,lim,by_,ps⟩ [a,b]=q) (hne:q≠0):Calls Tryz.prog 86 #[.agg #[.string ware,.int .i64 lim,.int .i64 by_,.slice A n k],.int .i64 a,.int .i64 b] w fun e w'=>e=.returned (.tuple #[.pointer none,.int .i64 q])∧Below w.heap.size w w':=by
 have HQ:=hid hq;clear hq
 go_enter Tryz.func86,Tryz.ntmps86
 obtain ⟨a1,a0⟩:=ent1 w #[.string ware,.int .i64 lim,.int .i64 by_,.slice A n k] 24
 have a2:=hid (RdP.below (hr) a0.out)
 clear hr
 obtain ⟨a8,a9,b0,b1⟩:=at4 a1
 clear a8 a9 b0 b1
 have nb_:=rdI2 ((w.alloc (.cells #[.string ware,.int .i64 lim,.int .i64 by_,.slice A n k] 24))) a b
 simp only [World.size_alloc] at nb_
 obtain ⟨o_,ho_⟩:∃ o,o=((.cells #[.int .i64 a,.int .i64 b] 3):Obj):=⟨_,rfl⟩
 replace a0:=bA a0 o_
 replace a2:=hid (RdP.alloc (a2.out) (o_))
 replace a1:=kA a1 o_
 subst ho_
 have a4:=hid nb_;clear nb_
 obtain ⟨b2,a5,a6,a7⟩:=at4 a1
 have hc:=viewOf_no ware lim by_ A n k ps (some ⟨w.heap.size+1,0,none⟩) 2 2 [a,b] (((w.alloc (.cells #[.string ware,.int .i64 lim,.int .i64 by_,.slice A n k] 24)).alloc (.cells #[.int .i64 a,.int .i64 b] 3))) a2.out a4.out hn (by unfold maxLen;omega) q HQ.out hne
 have HC:=hid hc;clear hc
 go_wp2_with fail
 refine HC.out.mono ?_
 rintro e b3 ⟨rfl,hb⟩
 clear HC
 clear b2 a5 a6 a7
 have a3:=hid hb
 clear hb
 replace a1:=kH a1 a3
 obtain ⟨b4,b5,b6,b7⟩:=at4 a1
 go_wp2
 go_ret2
 replace a0:=bH a0 a3
 exact ⟨rfl,a0.out⟩
set_option maxRecDepth 100000 in
theorem vot_eq (ware:ByteArray) (lim by_:Int) (A:Option Addr) (n k:Nat) (ps:List Prt) (a b:Int) (w:World) (hr:RdP w A n k ps) (hn:n≤maxLen) (hq:askP ⟨ware,lim,by_,ps⟩ [a,b]=0) (hab:a=b):Calls Tryz.prog 86 #[.agg #[.string ware,.int .i64 lim,.int .i64 by_,.slice A n k],.int .i64 a,.int .i64 b] w fun e w'=>e=.returned (.tuple #[.pointer none,.int .i64 1])∧Below w.heap.size w w':=by
 have HQ:=hid hq;clear hq
 subst hab
 go_enter Tryz.func86,Tryz.ntmps86
 obtain ⟨a1,a0⟩:=ent1 w #[.string ware,.int .i64 lim,.int .i64 by_,.slice A n k] 24
 have a2:=hid (RdP.below (hr) a0.out)
 clear hr
 obtain ⟨a8,a9,b0,b1⟩:=at4 a1
 clear a8 a9 b0 b1
 have nb_:=rdI2 ((w.alloc (.cells #[.string ware,.int .i64 lim,.int .i64 by_,.slice A n k] 24))) a a
 simp only [World.size_alloc] at nb_
 obtain ⟨o_,ho_⟩:∃ o,o=((.cells #[.int .i64 a,.int .i64 a] 3):Obj):=⟨_,rfl⟩
 replace a0:=bA a0 o_
 replace a2:=hid (RdP.alloc (a2.out) (o_))
 replace a1:=kA a1 o_
 subst ho_
 have a4:=hid nb_;clear nb_
 obtain ⟨b2,a5,a6,a7⟩:=at4 a1
 have hc:=viewOf_yes ware lim by_ A n k ps (some ⟨w.heap.size+1,0,none⟩) 2 2 [a,a] (((w.alloc (.cells #[.string ware,.int .i64 lim,.int .i64 by_,.slice A n k] 24)).alloc (.cells #[.int .i64 a,.int .i64 a] 3))) a2.out a4.out hn (by unfold maxLen;omega) HQ.out
 have HC:=hid hc;clear hc
 go_wp2_with fail
 refine HC.out.mono ?_
 rintro e b3 ⟨⟨g,rfl,hvw⟩,hb⟩
 have HVW:=hid hvw;clear hvw
 clear HC
 clear b2 a5 a6 a7
 have a3:=hid hb
 clear hb
 replace a1:=kH a1 a3
 obtain ⟨b4,b5,b6,b7⟩:=at4 a1
 go_wp2
 go_ret2
 replace a0:=bH a0 a3
 exact ⟨rfl,a0.out⟩
theorem viewOfTwo_no (ware:ByteArray) (lim by_:Int) (A:Option Addr) (n k:Nat) (ps:List Prt) (a b:Int) (w:World) (hr:RdP w A n k ps) (hn:n≤maxLen) (q:Int) (hq:askP2 ⟨ware,lim,by_,ps⟩ a b=q) (hne:q≠0):Calls Tryz.prog 86 #[.agg #[.string ware,.int .i64 lim,.int .i64 by_,.slice A n k],.int .i64 a,.int .i64 b] w fun e w'=>e=.returned (.tuple #[.pointer none,.int .i64 q])∧Below w.heap.size w w':=by
 unfold askP2 at hq
 split at hq
 · exact vot_no ware lim by_ A n k ps a b w hr hn q hq hne
 · rename_i h1
   split at hq
   · rename_i h2
     subst hq
     exact vot_eq ware lim by_ A n k ps a b w hr hn (by simpa using h1) h2
   · exact absurd hq.symm hne
open Go.RowKit Go.Maps Go.Shelf
set_option maxRecDepth 100000 in
theorem Merge_no (ware:ByteArray) (lim by_:Int) (A:Option Addr) (n k:Nat) (ps:List Prt) (a b:Int) (w:World) (hr:RdP w A n k ps) (hn:n≤maxLen) (q:Int) (hq:askP2 ⟨ware,lim,by_,ps⟩ a b=q) (hne:q≠0):Calls Tryz.prog 34 #[.agg #[.string ware,.int .i64 lim,.int .i64 by_,.slice A n k],.int .i64 a,.int .i64 b] w fun e w'=>e=.returned (.tuple #[.agg #[.string ⟨#[]⟩,.int .i64 0,.int .i64 0,.slice none 0 0],.int .i64 q])∧Below w.heap.size w w':=by
 have HQ:=hid hq;clear hq
 go_enter Tryz.func34,Tryz.ntmps34
 obtain ⟨a2,a0,a1⟩:=ent2 w #[.string ware,.int .i64 lim,.int .i64 by_,.slice A n k] 24 #[.string ⟨#[]⟩,.int .i64 0,.int .i64 0,.slice none 0 0] 24
 have b0:=hid (RdP.below (hr) a1.out)
 clear hr
 obtain ⟨c2,c3,c4,c5⟩:=at4 a2
 obtain ⟨c6,b1,b2,b3⟩:=at4 a0
 have hc:=viewOfTwo_no ware lim by_ A n k ps a b (((w.alloc (.cells #[.string ware,.int .i64 lim,.int .i64 by_,.slice A n k] 24)).alloc (.cells #[.string ⟨#[]⟩,.int .i64 0,.int .i64 0,.slice none 0 0] 24))) b0.out hn q HQ.out hne
 have HC:=hid hc;clear hc
 go_wp2_with fail
 refine HC.out.mono ?_
 rintro e a3 ⟨rfl,hb⟩
 clear HC
 clear c2 c3 c4 c5 c6 b1 b2 b3
 have a4:=hid hb
 clear hb
 replace a2:=kH a2 a4
 obtain ⟨b4,b5,b6,b7⟩:=at4 a2
 replace a0:=kH a0 a4
 obtain ⟨b8,b9,c0,c1⟩:=at4 a0
 have a6:(a3).frozen? ⟨w.heap.size+1,0,none⟩=false:=Blk.frozen a0.out 0
 have a7:(a3).frozen? ⟨w.heap.size+1,1,none⟩=false:=Blk.frozen a0.out 1
 have a8:(a3).frozen? ⟨w.heap.size+1,2,none⟩=false:=Blk.frozen a0.out 2
 have a9:(a3).frozen? ⟨w.heap.size+1,3,none⟩=false:=Blk.frozen a0.out 3
 replace a1:=bH a1 a4
 have a5:=a1.out
 go_wp2
 refine bodyPost_ret (v:=.tuple #[.agg #[.string ⟨#[]⟩,.int .i64 0,.int .i64 0,.slice none 0 0],.int .i64 q]) (by simp [results,Tryz.results34,go_sem,b4,b5,b6,b7,b8,b9,c0,c1,a6,a7,a8,a9]) rfl ⟨rfl,(by have hsz_:=Below.size a5;repeat' (first|with_reducible exact a5|with_reducible exact Below.refl _ _|with_reducible refine Below.alloc ?_ ?_ _|with_reducible refine Below.setCell ?_ ?_ _|with_reducible refine Below.drew ?_|with_reducible refine below_setRow ?_ ?_ _|omega | (simp;done) | (simp;omega)))⟩
set_option maxRecDepth 100000 in
theorem Merge_clash (ware:ByteArray) (lim by_:Int) (A:Option Addr) (n k:Nat) (ps:List Prt) (a b:Nat) (w:World) (hr:RdP w A n k ps) (hn:n≤maxLen) (hq:askP2 ⟨ware,lim,by_,ps⟩ (a:Int) (b:Int)=0) (hcl:clN ps a b=true):Calls Tryz.prog 34 #[.agg #[.string ware,.int .i64 lim,.int .i64 by_,.slice A n k],.int .i64 a,.int .i64 b] w fun e w'=>e=.returned (.tuple #[.agg #[.string ⟨#[]⟩,.int .i64 0,.int .i64 0,.slice none 0 0],.int .i64 60])∧Below w.heap.size w w':=by
 obtain ⟨xs,h1,h2,h3⟩:=hr.cells
 have HPL:=hid hr.len
 obtain ⟨hck,ha,hb,hab⟩:=askP2_ok hq
 dsimp only at ha hb
 rw [hr.len] at ha hb
 have h40:n≤40:=by have:=(chkC_ok hck).1;rw [hr.len] at this;exact this
 have HSM:=hid (show ∀ p∈ps,p.sh.length≤50000∧p.rs.length≤50000 from fun p hp=>by obtain ⟨-,-,-,-,-,h6,-⟩:=chkC_ok hck;obtain ⟨-,g1,g2,-⟩:=prtB_ok (h6 p hp);exact ⟨by omega,by omega⟩)
 have hmn:min (a:Int) (b:Int)=((min a b:Nat):Int):=by omega
 have hmx:max (a:Int) (b:Int)=((max a b:Nat):Int):=by omega
 have hmn2:(if (b:Int)<(a:Int) then (b:Int) else (a:Int))=((min a b:Nat):Int):=by split<;>omega
 have hmx2:(if (a:Int)<(b:Int) then (b:Int) else (a:Int))=((max a b:Nat):Int):=by split<;>omega
 have HQ:=hid hq;clear hq hck
 have HCL:=hid hcl;clear hcl h1 h2 h3
 go_enter Tryz.func34,Tryz.ntmps34
 obtain ⟨a2,a0,a1⟩:=ent2 w #[.string ware,.int .i64 lim,.int .i64 by_,.slice A n k] 24 #[.string ⟨#[]⟩,.int .i64 0,.int .i64 0,.slice none 0 0] 24
 have b0:=hid (RdP.below (hr) a1.out)
 clear hr
 obtain ⟨c2,c3,c4,c5⟩:=at4 a2
 obtain ⟨c6,b1,b2,b3⟩:=at4 a0
 have hc:=viewOfTwo_yes ware lim by_ A n k ps a b (((w.alloc (.cells #[.string ware,.int .i64 lim,.int .i64 by_,.slice A n k] 24)).alloc (.cells #[.string ⟨#[]⟩,.int .i64 0,.int .i64 0,.slice none 0 0] 24))) b0.out hn HQ.out
 have HC:=hid hc;clear hc
 go_wp2_with fail
 refine HC.out.mono ?_
 rintro e a3 ⟨⟨g,rfl,hvw⟩,hb⟩
 have HVW:=hid hvw;clear hvw
 clear HC
 clear c2 c3 c4 c5 c6 b1 b2 b3
 have a4:=hid hb
 clear hb
 replace a2:=kH a2 a4
 obtain ⟨b4,b5,b6,b7⟩:=at4 a2
 replace a0:=kH a0 a4
 obtain ⟨b8,b9,c0,c1⟩:=at4 a0
 have HC:=hid ((by have h:=clash_any HVW.out ha hb;rw [HCL.out] at h;exact h))
 go_wp2_with fail
 refine HC.out.mono ?_
 rintro e _ ⟨rfl,rfl⟩
 clear HC
 have a6:(a3).frozen? ⟨w.heap.size+1,0,none⟩=false:=Blk.frozen a0.out 0
 have a7:(a3).frozen? ⟨w.heap.size+1,1,none⟩=false:=Blk.frozen a0.out 1
 have a8:(a3).frozen? ⟨w.heap.size+1,2,none⟩=false:=Blk.frozen a0.out 2
 have a9:(a3).frozen? ⟨w.heap.size+1,3,none⟩=false:=Blk.frozen a0.out 3
 replace a1:=bH a1 a4
 have a5:=a1.out
 go_wp2
 refine bodyPost_ret (v:=.tuple #[.agg #[.string ⟨#[]⟩,.int .i64 0,.int .i64 0,.slice none 0 0],.int .i64 60]) (by simp [results,Tryz.results34,go_sem,b4,b5,b6,b7,b8,b9,c0,c1,a6,a7,a8,a9]) rfl ⟨rfl,(by have hsz_:=Below.size a5;repeat' (first|with_reducible exact a5|with_reducible exact Below.refl _ _|with_reducible refine Below.alloc ?_ ?_ _|with_reducible refine Below.setCell ?_ ?_ _|with_reducible refine Below.drew ?_|with_reducible refine below_setRow ?_ ?_ _|omega | (simp;done) | (simp;omega)))⟩
set_option maxRecDepth 100000 in
theorem Merge_big (ware:ByteArray) (lim by_:Int) (A:Option Addr) (n k:Nat) (ps:List Prt) (a b:Nat) (w:World) (hr:RdP w A n k ps) (hn:n≤maxLen) (hq:askP2 ⟨ware,lim,by_,ps⟩ (a:Int) (b:Int)=0) (hcl:clN ps a b=false) (HBIG:40<(mrgP (ps.getD (min a b) default) (ps.getD (max a b) default)).sh.length∨200<(mrgP (ps.getD (min a b) default) (ps.getD (max a b) default)).rs.length):Calls Tryz.prog 34 #[.agg #[.string ware,.int .i64 lim,.int .i64 by_,.slice A n k],.int .i64 a,.int .i64 b] w fun e w'=>e=.returned (.tuple #[.agg #[.string ⟨#[]⟩,.int .i64 0,.int .i64 0,.slice none 0 0],.int .i64 2])∧Below w.heap.size w w':=by
 obtain ⟨xs,h1,h2,h3⟩:=hr.cells
 have HPL:=hid hr.len
 obtain ⟨hck,ha,hb,hab⟩:=askP2_ok hq
 dsimp only at ha hb
 rw [hr.len] at ha hb
 have h40:n≤40:=by have:=(chkC_ok hck).1;rw [hr.len] at this;exact this
 have HSM:=hid (show ∀ p∈ps,p.sh.length≤50000∧p.rs.length≤50000 from fun p hp=>by obtain ⟨-,-,-,-,-,h6,-⟩:=chkC_ok hck;obtain ⟨-,g1,g2,-⟩:=prtB_ok (h6 p hp);exact ⟨by omega,by omega⟩)
 have hmn:min (a:Int) (b:Int)=((min a b:Nat):Int):=by omega
 have hmx:max (a:Int) (b:Int)=((max a b:Nat):Int):=by omega
 have hmn2:(if (b:Int)<(a:Int) then (b:Int) else (a:Int))=((min a b:Nat):Int):=by split<;>omega
 have hmx2:(if (a:Int)<(b:Int) then (b:Int) else (a:Int))=((max a b:Nat):Int):=by split<;>omega
 have HQ:=hid hq;clear hq hck
 have HCL:=hid hcl;clear hcl
 go_enter Tryz.func34,Tryz.ntmps34
 obtain ⟨a2,a0,a1⟩:=ent2 w #[.string ware,.int .i64 lim,.int .i64 by_,.slice A n k] 24 #[.string ⟨#[]⟩,.int .i64 0,.int .i64 0,.slice none 0 0] 24
 have a3:=hid (RdP.below (hr) a1.out)
 clear hr
 obtain ⟨i4,i5,i6,i7⟩:=at4 a2
 obtain ⟨i8,f8,f9,g0⟩:=at4 a0
 have hc:=viewOfTwo_yes ware lim by_ A n k ps a b (((w.alloc (.cells #[.string ware,.int .i64 lim,.int .i64 by_,.slice A n k] 24)).alloc (.cells #[.string ⟨#[]⟩,.int .i64 0,.int .i64 0,.slice none 0 0] 24))) a3.out hn HQ.out
 have HC:=hid hc;clear hc
 go_wp2_with fail
 refine HC.out.mono ?_
 rintro e g3 ⟨⟨g,rfl,hvw⟩,hb⟩
 have HVW:=hid hvw;clear hvw
 clear HC
 clear i4 i5 i6 i7 i8 f8 f9 g0
 have a4:=hid hb
 clear hb
 replace a2:=kH a2 a4
 obtain ⟨g4,g5,g6,g7⟩:=at4 a2
 replace a0:=kH a0 a4
 obtain ⟨g8,g9,h0,h4⟩:=at4 a0
 have HC:=hid ((by have h:=clash_any HVW.out ha hb;rw [HCL.out] at h;exact h))
 go_wp2_with fail
 refine HC.out.mono ?_
 rintro e _ ⟨rfl,rfl⟩
 clear HC
 clear g4 g5 g6 g7 g8 g9 h0 h4
 have hbz:=Blk.lt (a0.out)
 obtain ⟨h5,h7,h8,h9⟩:=at4 a2
 obtain ⟨i0,i1,i2,i3⟩:=at4 a0
 replace a3:=hid (RdP.below (a3.out) a4.out)
 replace a1:=bH a1 a4
 have HC:=hid (merged_T ware lim by_ A n k ps (min a b) (max a b) (ps.getD (min a b) default) (ps.getD (max a b) default) (fun b=>b=w.heap.size∨b=w.heap.size+1) (g3) a3.out (by omega) HSM.out (by omega) (by omega) (getD_of (by have:=HPL.out;omega)) (getD_of (by have:=HPL.out;omega)) xs h1 (fun x hx=>⟨(h2 x hx).below a1.out,fun g hg=>(h2 x hx).out (by rcases hg with rfl|rfl<;>omega)⟩) (h3.below a1.out) (fun g hg=>by rcases hg with rfl|rfl<;>omega))
 clear h1 h2 h3
 go_wp2_with fail
 refine HC.out.mono ?_
 rintro e w9 ⟨⟨R,k1,rfl,ho⟩,hb9⟩
 clear HC
 clear h5 h7 h8 h9 i0 i1 i2 i3
 have hsz9:=(a1.out).size
 have a5:=hid hb9
 clear hb9
 obtain ⟨gg,rfl⟩:=ho.addr (by omega)
 have HO:=hid (show OwnPt w9 _ _ _ _ _ (jntL ps a b) from ho);clear ho
 obtain ⟨o_,ho_⟩:∃ o,o=((.cells #[.string ware,.int .i64 lim,.int .i64 by_,.slice (some ⟨gg,0,none⟩) (n-1) k1] 24):Obj):=⟨_,rfl⟩
 replace a1:=bA (bH a1 a5) o_
 replace a3:=hid (RdP.alloc ((hid (RdP.below (a3.out) a5.out)).out) (o_))
 replace a2:=kA (kH a2 a5) o_
 replace a0:=kA (kH a0 a5) o_
 replace HO:=hid (OwnPt.alloc (HO.out) (o_))
 subst ho_
 have a6:=hid (Blk.new w9 24 #[.string ware,.int .i64 lim,.int .i64 by_,.slice (some ⟨gg,0,none⟩) (n-1) k1])
 obtain ⟨x,hxo,-,hxc⟩:=OwnPt.get8 (HO.out) (jnt_get HPL.out ha hb hab)
 obtain ⟨P,hP⟩:∃ P,P=mrgP (ps.getD (min a b) default) (ps.getD (max a b) default):=⟨_,rfl⟩
 rw [← hP] at hxo hxc HBIG
 have HP:=hid hP;clear hP
 obtain ⟨c0,c1,c2,c3,c4,c5,c6,c7⟩:=cells_at8 hxc
 clear hxc
 have hxn:=hxo.1.len;have hxm:=hxo.2.1.len
 clear hxo
 rw [hxn,hxm] at HBIG
 clear hxn hxm
 have hidx:((min a b:Nat):Int)<((n-1:Nat):Int):=by omega
 obtain ⟨b7,b8,b9,c8⟩:=at4 a2
 obtain ⟨c9,d0,d1,d2⟩:=at4 a0
 obtain ⟨d3,d4,d5,d6⟩:=at4 a6
 obtain ⟨o_,ho_⟩:∃ o,o=((.cells #[.slice x.A x.n x.c,.int .i64 P.lo,.int .i64 P.hi,.int .i64 P.lb,.int .i64 P.hb,.bool P.ft,.int .i64 P.fb,.slice x.B x.m x.d] 48):Obj):=⟨_,rfl⟩
 replace a1:=bA a1 o_
 replace a3:=hid (RdP.alloc (a3.out) (o_))
 replace a2:=kA a2 o_
 replace a0:=kA a0 o_
 replace HO:=hid (OwnPt.alloc (HO.out) (o_))
 replace a6:=kA a6 o_
 subst ho_
 have f7:=hid (Blk.new (w9.alloc (.cells #[.string ware,.int .i64 lim,.int .i64 by_,.slice (some ⟨gg,0,none⟩) (n-1) k1] 24)) 48 #[.slice x.A x.n x.c,.int .i64 P.lo,.int .i64 P.hi,.int .i64 P.lb,.int .i64 P.hb,.bool P.ft,.int .i64 P.fb,.slice x.B x.m x.d])
 obtain ⟨d7,d8,d9,e0⟩:=at4 a2
 obtain ⟨e1,e2,e3,e4⟩:=at4 a0
 obtain ⟨e5,e6,e7,e8⟩:=at4 a6
 obtain ⟨e9,f0,f1,f2,f3,f4,f5,f6⟩:=at8 f7
 by_cases hbg:40<x.n
 · have hz1:(40:Int)<((x.n:Nat):Int):=by omega
   have a9:(((w9.alloc (.cells #[.string ware,.int .i64 lim,.int .i64 by_,.slice (some ⟨gg,0,none⟩) (n-1) k1] 24)).alloc (.cells #[.slice x.A x.n x.c,.int .i64 P.lo,.int .i64 P.hi,.int .i64 P.lb,.int .i64 P.hb,.bool P.ft,.int .i64 P.fb,.slice x.B x.m x.d] 48))).frozen? ⟨w.heap.size+1,0,none⟩=false:=Blk.frozen a0.out 0
   have b0:(((w9.alloc (.cells #[.string ware,.int .i64 lim,.int .i64 by_,.slice (some ⟨gg,0,none⟩) (n-1) k1] 24)).alloc (.cells #[.slice x.A x.n x.c,.int .i64 P.lo,.int .i64 P.hi,.int .i64 P.lb,.int .i64 P.hb,.bool P.ft,.int .i64 P.fb,.slice x.B x.m x.d] 48))).frozen? ⟨w.heap.size+1,1,none⟩=false:=Blk.frozen a0.out 1
   have b1:(((w9.alloc (.cells #[.string ware,.int .i64 lim,.int .i64 by_,.slice (some ⟨gg,0,none⟩) (n-1) k1] 24)).alloc (.cells #[.slice x.A x.n x.c,.int .i64 P.lo,.int .i64 P.hi,.int .i64 P.lb,.int .i64 P.hb,.bool P.ft,.int .i64 P.fb,.slice x.B x.m x.d] 48))).frozen? ⟨w.heap.size+1,2,none⟩=false:=Blk.frozen a0.out 2
   have b2:(((w9.alloc (.cells #[.string ware,.int .i64 lim,.int .i64 by_,.slice (some ⟨gg,0,none⟩) (n-1) k1] 24)).alloc (.cells #[.slice x.A x.n x.c,.int .i64 P.lo,.int .i64 P.hi,.int .i64 P.lb,.int .i64 P.hb,.bool P.ft,.int .i64 P.fb,.slice x.B x.m x.d] 48))).frozen? ⟨w.heap.size+1,3,none⟩=false:=Blk.frozen a0.out 3
   have a7:=a1.out
   go_wp2
   refine bodyPost_ret (v:=.tuple #[.agg #[.string ⟨#[]⟩,.int .i64 0,.int .i64 0,.slice none 0 0],.int .i64 2]) (by simp [results,Tryz.results34,go_sem,b7,b8,b9,c8,c9,d0,d1,d2,d3,d4,d5,d6,d7,d8,d9,e0,e1,e2,e3,e4,e5,e6,e7,e8,e9,f0,f1,f2,f3,f4,f5,f6,a9,b0,b1,b2]) rfl ⟨rfl,(by have hsz_:=Below.size a7;repeat' (first|with_reducible exact a7|with_reducible exact Below.refl _ _|with_reducible refine Below.alloc ?_ ?_ _|with_reducible refine Below.setCell ?_ ?_ _|with_reducible refine Below.drew ?_|with_reducible refine below_setRow ?_ ?_ _|omega | (simp;done) | (simp;omega)))⟩
 · have hz1:¬ ((40:Int)<((x.n:Nat):Int)):=by omega
   have hz2:(200:Int)<((x.m:Nat):Int):=by have:=HBIG;omega
   have b3:(((w9.alloc (.cells #[.string ware,.int .i64 lim,.int .i64 by_,.slice (some ⟨gg,0,none⟩) (n-1) k1] 24)).alloc (.cells #[.slice x.A x.n x.c,.int .i64 P.lo,.int .i64 P.hi,.int .i64 P.lb,.int .i64 P.hb,.bool P.ft,.int .i64 P.fb,.slice x.B x.m x.d] 48))).frozen? ⟨w.heap.size+1,0,none⟩=false:=Blk.frozen a0.out 0
   have b4:(((w9.alloc (.cells #[.string ware,.int .i64 lim,.int .i64 by_,.slice (some ⟨gg,0,none⟩) (n-1) k1] 24)).alloc (.cells #[.slice x.A x.n x.c,.int .i64 P.lo,.int .i64 P.hi,.int .i64 P.lb,.int .i64 P.hb,.bool P.ft,.int .i64 P.fb,.slice x.B x.m x.d] 48))).frozen? ⟨w.heap.size+1,1,none⟩=false:=Blk.frozen a0.out 1
   have b5:(((w9.alloc (.cells #[.string ware,.int .i64 lim,.int .i64 by_,.slice (some ⟨gg,0,none⟩) (n-1) k1] 24)).alloc (.cells #[.slice x.A x.n x.c,.int .i64 P.lo,.int .i64 P.hi,.int .i64 P.lb,.int .i64 P.hb,.bool P.ft,.int .i64 P.fb,.slice x.B x.m x.d] 48))).frozen? ⟨w.heap.size+1,2,none⟩=false:=Blk.frozen a0.out 2
   have b6:(((w9.alloc (.cells #[.string ware,.int .i64 lim,.int .i64 by_,.slice (some ⟨gg,0,none⟩) (n-1) k1] 24)).alloc (.cells #[.slice x.A x.n x.c,.int .i64 P.lo,.int .i64 P.hi,.int .i64 P.lb,.int .i64 P.hb,.bool P.ft,.int .i64 P.fb,.slice x.B x.m x.d] 48))).frozen? ⟨w.heap.size+1,3,none⟩=false:=Blk.frozen a0.out 3
   have a8:=a1.out
   go_wp2
   refine bodyPost_ret (v:=.tuple #[.agg #[.string ⟨#[]⟩,.int .i64 0,.int .i64 0,.slice none 0 0],.int .i64 2]) (by simp [results,Tryz.results34,go_sem,b7,b8,b9,c8,c9,d0,d1,d2,d3,d4,d5,d6,d7,d8,d9,e0,e1,e2,e3,e4,e5,e6,e7,e8,e9,f0,f1,f2,f3,f4,f5,f6,b3,b4,b5,b6]) rfl ⟨rfl,(by have hsz_:=Below.size a8;repeat' (first|with_reducible exact a8|with_reducible exact Below.refl _ _|with_reducible refine Below.alloc ?_ ?_ _|with_reducible refine Below.setCell ?_ ?_ _|with_reducible refine Below.drew ?_|with_reducible refine below_setRow ?_ ?_ _|omega | (simp;done) | (simp;omega)))⟩
end Go.Proofs.YtokpblmgdmokoaaGreat
