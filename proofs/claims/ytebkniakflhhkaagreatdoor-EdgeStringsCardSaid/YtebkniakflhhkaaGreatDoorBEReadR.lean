import Derived.Test.YtebkniakflhhkaaGreatDoorBERead
set_option maxHeartbeats 4000000
set_option linter.unusedSimpArgs false
set_option linter.unusedVariables false
namespace Go.Proofs.YtebkniakflhhkaaGreatDoor
open Go.Lib (hid)
open Go.RowKit
theorem rstretch_w (f t:Int) (b:Bool) (h:isStr f t 16=b) (w:World):Calls Tryz.prog 26 #[.int .i64 16,.agg #[.int .i64 f,.int .i64 t]] w fun e w'=>e=.returned (.bool b)∧Below w.heap.size w w':=by
 subst h
 by_cases h1:0≤f
 · by_cases h2:f<t
   · go_enter Tryz.func26,Tryz.ntmps26
     go_wp2
     go_ret
     exact ⟨by simp [isStr,h1,h2],(by (repeat (first|exact Below.refl _ _|refine Below.drew ?_|refine Below.alloc ?_ (by simp) _)))⟩
   · go_enter Tryz.func26,Tryz.ntmps26
     go_wp2
     go_ret
     exact ⟨ret_bool (Bool.eq_iff_iff.2 (by simp [isStr];omega)),(by (repeat (first|exact Below.refl _ _|refine Below.drew ?_|refine Below.alloc ?_ (by simp) _)))⟩
 · go_enter Tryz.func26,Tryz.ntmps26
   go_wp2
   go_ret
   exact ⟨ret_bool (Bool.eq_iff_iff.2 (by simp [isStr];omega)),(by (repeat (first|exact Below.refl _ _|refine Below.drew ?_|refine Below.alloc ?_ (by simp) _)))⟩
set_option maxRecDepth 100000 in
theorem number_one (n:Int) (h0:0≤n) (h9:n<10) (w:World):Calls Tryz.prog 27 #[.int .i64 n] w fun e w'=>e=.returned (.string ⟨(digs n).toArray⟩)∧Below w.heap.size w w':=by
 obtain ⟨m,rfl⟩:∃ m:Nat,n=m:=⟨n.toNat,by omega⟩
 have hd:digs (m:Int)=[UInt8.ofNat (48+m)]:=by unfold digs;rw [if_pos h9];simp
 rw [hd]
 have hcv:=run_convert_bytes_back (P:=Tryz.prog) (w.alloc (.cells #[.int .u8 (48+(m:Int))] 5)) 105 9 5 ⟨w.heap.size,0,none⟩ 1 [UInt8.ofNat (48+m)] Tryz.underlying105 Tryz.underlying5 Tryz.underlying9 (fun j hj=>by
  obtain rfl:j=0:=by simpa using hj
  rw [Addr.add_lit,Nat.zero_add,(Blk.new w 5 #[.int .u8 (48+(m:Int))]).cell 0]
  have:(UInt8.ofNat (48+m)).toNat=48+m:=by simp;omega
  simp [this];omega)
 have hwr:IntKind.u8.wrap (48+(m:Int))=48+(m:Int):=IntWalk.u8_in _ (by omega)
 simp only [List.length_cons,List.length_nil,Nat.zero_add] at hcv
 clear hd
 generalize UInt8.ofNat (48+m)=bb at hcv ⊢
 go_enter Tryz.func27,Tryz.ntmps27
 go_wp2
 go_ret
 exact ⟨rfl,(by (repeat (first|exact Below.refl _ _|refine Below.drew ?_|refine Below.alloc ?_ (by simp) _)))⟩
set_option maxRecDepth 100000 in
theorem number_any (n:Int) (h0:0≤n) (h16:n≤16) (w:World):Calls Tryz.prog 27 #[.int .i64 n] w fun e w'=>e=.returned (.string ⟨(digs n).toArray⟩)∧Below w.heap.size w w':=by
 by_cases h9:n<10
 · exact number_one n h0 h9 w
 · have hq:n.tdiv 10=1:=by rw [Int.tdiv_eq_ediv_of_nonneg h0];omega
   have hr:n.tmod 10=n-10:=by rw [Int.tmod_eq_emod_of_nonneg h0];omega
   have hw:IntKind.i64.wrap (n.tdiv 10)=1:=by rw [hq];rfl
   have hd:digs n=digs 1++digs (n-10):=cases17 h0 h16 (Q:=fun n=>10≤n→digs n=digs 1++digs (n-10)) (by decide +kernel) (by omega)
   have H1:=hid (fun w=>number_one 1 (by decide) (by decide) w)
   have H2:=hid (fun w=>number_one (n-10) (by omega) (by omega) w)
   rw [hd]
   clear hd
   have hc:(⟨(digs 1).toArray⟩:ByteArray)++⟨(digs (n-10)).toArray⟩=⟨(digs 1++digs (n-10)).toArray⟩:=by
    apply bytes_inj
    simp
   have HC:=hid hc;clear hc
   have hlen:¬ 9223372036854775807<(digs 1).length+(digs (n-10)).length:=by have a:=digs_len (n:=1) (by decide) (by decide);have b:=digs_len (n:=n-10) (by omega) (by omega);omega
   go_enter Tryz.func27,Tryz.ntmps27
   go_wp2_with fail
   refine (H1.out _).mono ?_
   rintro e w1 ⟨rfl,hb1⟩
   have HB1:=hid hb1;clear hb1
   go_wp2_with fail
   refine (H2.out _).mono ?_
   rintro e w2 ⟨rfl,hb2⟩
   have HB2:=hid hb2;clear hb2
   go_wp2
   go_ret
   exact ⟨by rw [← HC.out];rfl,HB1.out.trans (HB2.out.mono HB1.out.size)⟩
theorem ret_str {a b:ByteArray} {n:Int} (h:a=b):Ending.returned (.tuple #[.string a,.int .i64 n])=.returned (.tuple #[.string b,.int .i64 n]):=by rw [h]
set_option maxRecDepth 100000 in
theorem rWrite_any (p1 p2 p3 p4:Int) (w:World) :
 Calls Tryz.prog 6 #[.agg #[.int .i64 p1,.int .i64 p2,.int .i64 p3,.int .i64 p4]] w fun e w'=>e=.returned (.tuple #[.string (wrS ⟨p1,p2,p3,p4⟩),.int .i64 (wrE ⟨p1,p2,p3,p4⟩)])∧Below w.heap.size w w':=by
 unfold wrS wrE
 cases hs1:isStr p1 p2 16
 · have e0:okW ⟨p1,p2,p3,p4⟩=false:=by simp [okW,hs1]
   rw [e0]
   have E1:=hid hs1;clear hs1 e0
   simp only [Bool.false_eq_true,if_false]
   go_enter Tryz.func6,Tryz.ntmps6
   obtain ⟨a0,a1⟩:=ent1 w #[.int .i64 p1,.int .i64 p2,.int .i64 p3,.int .i64 p4] 25
   obtain ⟨b1,b2,b3,b4⟩:=at4 a0
   have hc:=rstretch_w p1 p2 _ E1.out ((w.alloc (.cells #[.int .i64 p1,.int .i64 p2,.int .i64 p3,.int .i64 p4] 25)))
   have HC:=hid hc;clear hc
   go_wp2_with fail
   refine HC.out.mono ?_
   rintro e b5 ⟨rfl,hb⟩
   clear HC
   clear b1 b2 b3 b4
   have a2:=hid hb
   clear hb
   replace a0:=kH a0 a2
   obtain ⟨b6,a4,a5,a6⟩:=at4 a0
   go_wp2
   go_ret2
   replace a1:=bH a1 a2
   exact ⟨rfl,a1.out⟩
 · cases hs2:isStr p3 p4 16
   · have e0:okW ⟨p1,p2,p3,p4⟩=false:=by simp [okW,hs2]
     rw [e0]
     have E1:=hid hs1;have E2:=hid hs2;clear hs1 hs2 e0
     simp only [Bool.false_eq_true,if_false]
     go_enter Tryz.func6,Tryz.ntmps6
     obtain ⟨a0,a1⟩:=ent1 w #[.int .i64 p1,.int .i64 p2,.int .i64 p3,.int .i64 p4] 25
     obtain ⟨b1,b2,b3,b4⟩:=at4 a0
     have hc:=rstretch_w p1 p2 _ E1.out ((w.alloc (.cells #[.int .i64 p1,.int .i64 p2,.int .i64 p3,.int .i64 p4] 25)))
     have HC:=hid hc;clear hc
     go_wp2_with fail
     refine HC.out.mono ?_
     rintro e b5 ⟨rfl,hb⟩
     clear HC
     clear b1 b2 b3 b4
     have a2:=hid hb
     clear hb
     replace a0:=kH a0 a2
     obtain ⟨b6,a4,a5,a6⟩:=at4 a0
     have hc:=rstretch_w p3 p4 _ E2.out (b5)
     have HC:=hid hc;clear hc
     go_wp2_with fail
     refine HC.out.mono ?_
     rintro e b8 ⟨rfl,hb⟩
     clear HC
     clear b6 a4 a5 a6
     have a3:=hid hb
     clear hb
     replace a0:=kH a0 a3
     obtain ⟨b9,c0,c1,c2⟩:=at4 a0
     go_wp2
     go_ret2
     replace a1:=bH (bH a1 a2) a3
     exact ⟨rfl,a1.out⟩
   · have i1:=isStr_ok hs1;have i2:=isStr_ok hs2
     have hw1:IntKind.i64.wrap (p2-p1)=p2-p1:=IntWalk.i64_in _ (by omega)
     have hw2:IntKind.i64.wrap (p4-p3)=p4-p3:=IntWalk.i64_in _ (by omega)
     by_cases hk:p2-p1=p4-p3
     · have e0:okW ⟨p1,p2,p3,p4⟩=true:=by simp [okW,hs1,hs2,hk]
       rw [e0]
       have E1:=hid hs1;have E2:=hid hs2;clear hs1 hs2 e0
       simp only [if_true]
       have hkb:(p2-p1 != p4-p3)=false:=by simpa using hk
       have HR0:=hid (show 0≤p1∧p1≤16 by omega);have HR1:=hid (show 0≤p2∧p2≤16 by omega);have HR2:=hid (show 0≤p3∧p3≤16 by omega);have HR3:=hid (show 0≤p4∧p4≤16 by omega)
       have l1:=digs_len HR0.out.1 HR0.out.2;have l2:=digs_len HR1.out.1 HR1.out.2;have l3:=digs_len HR2.out.1 HR2.out.2;have l4:=digs_len HR3.out.1 HR3.out.2
       have hc:(⟨(digs p1).toArray⟩:ByteArray)++⟨#[32]⟩++⟨(digs p2).toArray⟩++⟨#[32]⟩++⟨(digs p3).toArray⟩++⟨#[32]⟩++⟨(digs p4).toArray⟩=spB ⟨p1,p2,p3,p4⟩:=by
        apply bytes_inj
        simp [spB,spL]
       have HC:=hid hc;clear hc
       clear hk
       have hq0:¬ 9223372036854775807<(digs p1).length+1:=by omega
       have hq1:¬ 9223372036854775807<(digs p1).length+1+(digs p2).length:=by omega
       have hq2:¬ 9223372036854775807<(digs p1).length+1+(digs p2).length+1:=by omega
       have hq3:¬ 9223372036854775807<(digs p1).length+1+(digs p2).length+1+(digs p3).length:=by omega
       have hq4:¬ 9223372036854775807<(digs p1).length+1+(digs p2).length+1+(digs p3).length+1:=by omega
       have hq5:¬ 9223372036854775807<(digs p1).length+1+(digs p2).length+1+(digs p3).length+1+(digs p4).length:=by omega
       clear l1 l2 l3 l4
       go_enter Tryz.func6,Tryz.ntmps6
       obtain ⟨a0,a1⟩:=ent1 w #[.int .i64 p1,.int .i64 p2,.int .i64 p3,.int .i64 p4] 25
       obtain ⟨b1,b2,b3,b4⟩:=at4 a0
       have hc:=rstretch_w p1 p2 _ E1.out ((w.alloc (.cells #[.int .i64 p1,.int .i64 p2,.int .i64 p3,.int .i64 p4] 25)))
       have HC:=hid hc;clear hc
       go_wp2_with fail
       refine HC.out.mono ?_
       rintro e b5 ⟨rfl,hb⟩
       clear HC
       clear b1 b2 b3 b4
       have a2:=hid hb
       clear hb
       replace a0:=kH a0 a2
       obtain ⟨b6,a4,a5,a6⟩:=at4 a0
       have hc:=rstretch_w p3 p4 _ E2.out (b5)
       have HC:=hid hc;clear hc
       go_wp2_with fail
       refine HC.out.mono ?_
       rintro e b8 ⟨rfl,hb⟩
       clear HC
       clear b6 a4 a5 a6
       have a3:=hid hb
       clear hb
       replace a0:=kH a0 a3
       obtain ⟨b9,c0,c1,c2⟩:=at4 a0
       go_wp2_with fail
       clear b9 c0 c1 c2
       replace a1:=bD (bH (bH a1 a2) a3)
       replace a0:=kD a0
       refine wp_region_held_drew (S:=(fun W'=>Blk W' (w.heap.size) 25 #[.int .i64 p1,.int .i64 p2,.int .i64 p3,.int .i64 p4])) (by kernel_rfl) a0.out (fun _=>?_)
       obtain ⟨c7,b7⟩:∃ w',w'=(b8.drew):=⟨_,rfl⟩
       rw [← b7] at a1 a0
       rw [← b7]
       clear b7
       refine' twH 0 a0.out ?_
       refine' twH 1 a0.out ?_
       refine' tkH 2 a0.out ?c3 ?_
       case c3=>(rintro W' hS0;have hc0:=Blk.nth hS0 0;clear hS0;go_simp;try with_reducible rfl)
       refine' twH 5 a0.out ?_
       try simp only [pq]
       refine' twH 6 a0.out ?_
       refine' tkH 7 a0.out ?c4 ?_
       case c4=>(rintro W' hS0;have hc0:=Blk.nth hS0 1;clear hS0;go_simp;try with_reducible rfl)
       refine' twH 11 a0.out ?_
       refine' twH 12 a0.out ?_
       try simp only [pq]
       refine' tkH 13 a0.out ?c5 ?_
       case c5=>(rintro W' hS0;have hc0:=Blk.nth hS0 2;clear hS0;go_simp;try with_reducible rfl)
       refine' twH 17 a0.out ?_
       refine' twH 18 a0.out ?_
       refine' tkH 19 a0.out ?c6 ?_
       case c6=>(rintro W' hS0;have hc0:=Blk.nth hS0 3;clear hS0;go_simp;try with_reducible rfl)
       try simp only [pq]
       refine oneH 3 rfl fun K hK=>?_
       go_simp
       go_at_call 27
       refine (number_any p1 HR0.out.1 HR0.out.2 _).mono ?_
       rintro e c8 ⟨rfl,a7⟩
       dsimp only
       replace a7:=hid a7
       replace a0:=kH a0 a7
       refine hK.out _ _ a0.out (fun _=>?_);clear hK K
       try simp only [pq]
       refine' twH 4 a0.out ?_
       try simp only [pq]
       refine oneH 8 rfl fun K hK=>?_
       go_simp
       go_at_call 27
       refine (number_any p2 HR1.out.1 HR1.out.2 _).mono ?_
       rintro e c9 ⟨rfl,a8⟩
       dsimp only
       replace a8:=hid a8
       replace a0:=kH a0 a8
       refine hK.out _ _ a0.out (fun _=>?_);clear hK K
       try simp only [pq]
       refine' twH 9 a0.out ?_
       refine' twH 10 a0.out ?_
       try simp only [pq]
       refine oneH 14 rfl fun K hK=>?_
       go_simp
       go_at_call 27
       refine (number_any p3 HR2.out.1 HR2.out.2 _).mono ?_
       rintro e d0 ⟨rfl,a9⟩
       dsimp only
       replace a9:=hid a9
       replace a0:=kH a0 a9
       refine hK.out _ _ a0.out (fun _=>?_);clear hK K
       try simp only [pq]
       refine' twH 15 a0.out ?_
       refine' twH 16 a0.out ?_
       try simp only [pq]
       refine oneH 20 rfl fun K hK=>?_
       go_simp
       go_at_call 27
       refine (number_any p4 HR3.out.1 HR3.out.2 _).mono ?_
       rintro e d1 ⟨rfl,b0⟩
       dsimp only
       replace b0:=hid b0
       replace a0:=kH a0 b0
       refine hK.out _ _ a0.out (fun _=>?_);clear hK K
       try simp only [pq]
       refine' twH 21 a0.out ?_
       refine' twH 22 a0.out ?_
       refine' twH 23 a0.out ?_
       try simp only [pq]
       refine wpAnyH_done (by kernel_rfl) ?_ _
       go_wp2
       go_ret2
       replace a1:=bH (bH (bH (bH a1 a7) a8) a9) b0
       exact ⟨ret_str HC.out,a1.out⟩
     · have e0:okW ⟨p1,p2,p3,p4⟩=false:=by simp [okW,hk]
       rw [e0]
       have E1:=hid hs1;have E2:=hid hs2;clear hs1 hs2 e0
       simp only [Bool.false_eq_true,if_false]
       have hkb:(p2-p1 != p4-p3)=true:=by simpa using hk
       clear hk
       go_enter Tryz.func6,Tryz.ntmps6
       obtain ⟨a0,a1⟩:=ent1 w #[.int .i64 p1,.int .i64 p2,.int .i64 p3,.int .i64 p4] 25
       obtain ⟨b1,b2,b3,b4⟩:=at4 a0
       have hc:=rstretch_w p1 p2 _ E1.out ((w.alloc (.cells #[.int .i64 p1,.int .i64 p2,.int .i64 p3,.int .i64 p4] 25)))
       have HC:=hid hc;clear hc
       go_wp2_with fail
       refine HC.out.mono ?_
       rintro e b5 ⟨rfl,hb⟩
       clear HC
       clear b1 b2 b3 b4
       have a2:=hid hb
       clear hb
       replace a0:=kH a0 a2
       obtain ⟨b6,a4,a5,a6⟩:=at4 a0
       have hc:=rstretch_w p3 p4 _ E2.out (b5)
       have HC:=hid hc;clear hc
       go_wp2_with fail
       refine HC.out.mono ?_
       rintro e b8 ⟨rfl,hb⟩
       clear HC
       clear b6 a4 a5 a6
       have a3:=hid hb
       clear hb
       replace a0:=kH a0 a3
       obtain ⟨b9,c0,c1,c2⟩:=at4 a0
       go_wp2
       go_ret2
       replace a1:=bH (bH a1 a2) a3
       exact ⟨rfl,a1.out⟩
theorem rd_step {s:ByteArray} {x n k:Nat} (h:∀ p,okW p=true→(p.af<x∨p.af=x∧(p.at2<x+n∨p.at2=x+n∧p.bf<k))→spB p≠s) (hne:spB ⟨x,(x:Int)+(n:Int),k,(k:Int)+(n:Int)⟩≠s) :
 ∀ p,okW p=true→(p.af<x∨p.af=x∧(p.at2<x+n∨p.at2=x+n∧p.bf<((k+1:Nat):Int)))→spB p≠s:=by
 intro p hp hc
 by_cases hq:p.af<x∨p.af=x∧(p.at2<x+n∨p.at2=x+n∧p.bf<k)
 · exact h p hp hq
 · have:=okW_ok hp
   obtain ⟨p1,p2,p3,p4⟩:=p
   dsimp only at *
   obtain rfl:p1=x:=by omega
   obtain rfl:p2=(x:Int)+n:=by omega
   obtain rfl:p3=k:=by omega
   obtain rfl:p4=(k:Int)+n:=by omega
   exact hne
theorem Read_any (s:ByteArray) (w:World) (hs:s.size≤100000) (hlib:LibOK w) :
 Calls Tryz.prog 7 #[.string s] w fun e w'=>e=.returned (.tuple #[.agg #[.int .i64 (rdP s).af,.int .i64 (rdP s).at2,.int .i64 (rdP s).bf,.int .i64 (rdP s).bt],.int .i64 (rdE s)])∧Below w.heap.size w w':=by
 by_cases hl:(wordsB s).length=4
 · match hw:wordsB s,hl with
   | [a,b,c,d],_ =>
    have hz:∀ x∈wordsB s,x.size≤100000:=fun x hx=>Nat.le_trans (split_size sp1 _ s x hx) hs
    rw [hw] at hz
    refine Read_four s w hs hlib a b c d (hid hw) (hid (by rw [hw];rfl)) (hid (hz a (by simp))) (hid (hz b (by simp))) (hid (hz c (by simp))) (hid (hz d (by simp))) (hid hlib) _ _ (hid ?_)
    by_cases hp:∃ p,SpIs s p
    · obtain ⟨p,hp⟩:=hp
      obtain ⟨e1,e2,e3,e4⟩:=sp_words hp hw
      have hv:(⟨atoV a.data.toList,atoV b.data.toList,atoV c.data.toList,atoV d.data.toList⟩:Prg)=p:=by
       unfold atoV
       rw [e1,e2,e3,e4]
      rw [hv,if_pos ⟨hp.1,hp.2⟩,if_pos ⟨hp.1,hp.2⟩]
      exact rd_is hp
    · rw [if_neg (fun h=>hp ⟨_,h.1,h.2⟩),if_neg (fun h=>hp ⟨_,h.1,h.2⟩)]
      exact rd_no (fun p h1 h2=>hp ⟨p,h1,h2⟩)
 · obtain ⟨e1,e2⟩:=rd_no (noSp_words hl)
   rw [e1,e2]
   exact Read_few s w hs hlib hl
set_option maxRecDepth 100000 in
theorem rRead_any (s:ByteArray) (w:World) :
 Calls Tryz.prog 8 #[.string s] w fun e w'=>e=.returned (.tuple #[.agg #[.int .i64 (rdP s).af,.int .i64 (rdP s).at2,.int .i64 (rdP s).bf,.int .i64 (rdP s).bt],.int .i64 (rdE s)])∧Below w.heap.size w w':=by
 by_cases h7:s.size<7
 · have HNO:=hid (rd_no (noSp_len (.inl h7)))
   have h7':(s.size:Int)<7:=by omega
   go_enter Tryz.func8,Tryz.ntmps8
   have a1:=hid (show Below w.heap.size w w from Below.refl _ w)
   obtain ⟨o_,ho_⟩:∃ o,o=((.cells #[.int .i64 0,.int .i64 0,.int .i64 0,.int .i64 0] 25):Obj):=⟨_,rfl⟩
   replace a1:=bA a1 o_
   subst ho_
   have a2:=hid (Blk.new w 25 #[.int .i64 0,.int .i64 0,.int .i64 0,.int .i64 0])
   obtain ⟨b4,b5,b6,b7⟩:=at4 a2
   have b9:((w.alloc (.cells #[.int .i64 0,.int .i64 0,.int .i64 0,.int .i64 0] 25))).frozen? ⟨w.heap.size,0,none⟩=false:=Blk.frozen a2.out 0
   have c0:((w.alloc (.cells #[.int .i64 0,.int .i64 0,.int .i64 0,.int .i64 0] 25))).frozen? ⟨w.heap.size,1,none⟩=false:=Blk.frozen a2.out 1
   have c1:((w.alloc (.cells #[.int .i64 0,.int .i64 0,.int .i64 0,.int .i64 0] 25))).frozen? ⟨w.heap.size,2,none⟩=false:=Blk.frozen a2.out 2
   have b3:((w.alloc (.cells #[.int .i64 0,.int .i64 0,.int .i64 0,.int .i64 0] 25))).frozen? ⟨w.heap.size,3,none⟩=false:=Blk.frozen a2.out 3
   have a5:=a1.out
   go_wp2
   refine bodyPost_ret (v:=.tuple #[.agg #[.int .i64 0,.int .i64 0,.int .i64 0,.int .i64 0],.int .i64 4]) (by simp [results,Tryz.results8,go_sem,b4,b5,b6,b7,b9,c0,c1,b3]) rfl ⟨by rw [HNO.out.1,HNO.out.2],(by have hsz_:=Below.size a5;repeat' (first|with_reducible exact a5|with_reducible exact Below.refl _ _|with_reducible refine Below.alloc ?_ ?_ _|with_reducible refine Below.setCell ?_ ?_ _|with_reducible refine Below.drew ?_|with_reducible refine below_setRow ?_ ?_ _|omega | (simp;done) | (simp;omega)))⟩
 · by_cases h11:11<s.size
   · have HNO:=hid (rd_no (noSp_len (.inr h11)))
     have h7':¬ (s.size:Int)<7:=by omega
     have h11':(11:Int)<(s.size:Int):=by omega
     go_enter Tryz.func8,Tryz.ntmps8
     have a1:=hid (show Below w.heap.size w w from Below.refl _ w)
     obtain ⟨o_,ho_⟩:∃ o,o=((.cells #[.int .i64 0,.int .i64 0,.int .i64 0,.int .i64 0] 25):Obj):=⟨_,rfl⟩
     replace a1:=bA a1 o_
     subst ho_
     have a2:=hid (Blk.new w 25 #[.int .i64 0,.int .i64 0,.int .i64 0,.int .i64 0])
     obtain ⟨b4,b5,b6,b7⟩:=at4 a2
     have b9:((w.alloc (.cells #[.int .i64 0,.int .i64 0,.int .i64 0,.int .i64 0] 25))).frozen? ⟨w.heap.size,0,none⟩=false:=Blk.frozen a2.out 0
     have c0:((w.alloc (.cells #[.int .i64 0,.int .i64 0,.int .i64 0,.int .i64 0] 25))).frozen? ⟨w.heap.size,1,none⟩=false:=Blk.frozen a2.out 1
     have c1:((w.alloc (.cells #[.int .i64 0,.int .i64 0,.int .i64 0,.int .i64 0] 25))).frozen? ⟨w.heap.size,2,none⟩=false:=Blk.frozen a2.out 2
     have b3:((w.alloc (.cells #[.int .i64 0,.int .i64 0,.int .i64 0,.int .i64 0] 25))).frozen? ⟨w.heap.size,3,none⟩=false:=Blk.frozen a2.out 3
     have a5:=a1.out
     go_wp2
     refine bodyPost_ret (v:=.tuple #[.agg #[.int .i64 0,.int .i64 0,.int .i64 0,.int .i64 0],.int .i64 4]) (by simp [results,Tryz.results8,go_sem,b4,b5,b6,b7,b9,c0,c1,b3]) rfl ⟨by rw [HNO.out.1,HNO.out.2],(by have hsz_:=Below.size a5;repeat' (first|with_reducible exact a5|with_reducible exact Below.refl _ _|with_reducible refine Below.alloc ?_ ?_ _|with_reducible refine Below.setCell ?_ ?_ _|with_reducible refine Below.drew ?_|with_reducible refine below_setRow ?_ ?_ _|omega | (simp;done) | (simp;omega)))⟩
   · have h7':¬ (s.size:Int)<7:=by omega
     have h11':¬ (11:Int)<(s.size:Int):=by omega
     go_enter Tryz.func8,Tryz.ntmps8
     have a1:=hid (show Below w.heap.size w w from Below.refl _ w)
     obtain ⟨o_,ho_⟩:∃ o,o=((.cells #[.int .i64 0,.int .i64 0,.int .i64 0,.int .i64 0] 25):Obj):=⟨_,rfl⟩
     replace a1:=bA a1 o_
     subst ho_
     have a2:=hid (Blk.new w 25 #[.int .i64 0,.int .i64 0,.int .i64 0,.int .i64 0])
     obtain ⟨b4,b5,b6,b7⟩:=at4 a2
     go_wp2
     clear b4 b5 b6 b7
     go_loopw [4] (fun i wr=>∃ x:Nat,x≤16∧i=.int .i64 x∧(∀ p,okW p=true→p.af<x→spB p≠s)∧Blk wr w.heap.size 25 #[.int .i64 0,.int .i64 0,.int .i64 0,.int .i64 0]∧Below w.heap.size w wr) (fun i _=>16-(intOf i).toNat)
     case atStart=>exact ⟨0,by omega,rfl,(fun p hp h=>by have:=okW_ok hp;omega),a2.out,a1.out⟩
     case round =>
      clear a1 a2
      obtain ⟨x,hx,rfl,he,h1,h2⟩:=hrel
      have HE:=hid he;clear he
      obtain ⟨wa,rfl⟩:∃ v,v=wr:=⟨wr,rfl⟩
      have a4:=hid (h1)
      clear h1
      have a8:=hid (h2)
      clear h2
      by_cases hlt:x<16
      · have hlt':(x:Int)<16:=by omega
        obtain ⟨d4,d5,d6,d7⟩:=at4 a4
        go_wp2
        clear d4 d5 d6 d7
        go_loopw [5] (fun i wr=>∃ n:Nat,1≤n∧x+n≤17∧i=.int .i64 n∧(∀ p,okW p=true→(p.af<x∨p.af=x∧p.at2<x+n)→spB p≠s)∧Blk wr w.heap.size 25 #[.int .i64 0,.int .i64 0,.int .i64 0,.int .i64 0]∧Below w.heap.size w wr) (fun i _=>17-(intOf i).toNat)
        case atStart=>exact ⟨1,by omega,by omega,rfl,(fun p hp h=>HE.out p hp (by have:=okW_ok hp;omega)),a4.out,a8.out⟩
        case round =>
         clear a4 a8
         obtain ⟨n,hn1,hn,rfl,he,h1,h2⟩:=hrel
         have HE2:=hid he;clear he
         obtain ⟨wb,rfl⟩:∃ v,v=wr:=⟨wr,rfl⟩
         have a6:=hid (h1)
         clear h1
         have a9:=hid (h2)
         clear h2
         by_cases hxn:x+n≤16
         · have hxn':(x:Int)+(n:Int)≤16:=by omega
           obtain ⟨d8,d9,e0,e1⟩:=at4 a6
           go_wp2
           clear d8 d9 e0 e1
           go_loopw [6] (fun i wr=>∃ k:Nat,k+n≤17∧i=.int .i64 k∧(∀ p,okW p=true→(p.af<x∨p.af=x∧(p.at2<x+n∨p.at2=x+n∧p.bf<k))→spB p≠s)∧Blk wr w.heap.size 25 #[.int .i64 0,.int .i64 0,.int .i64 0,.int .i64 0]∧Below w.heap.size w wr) (fun i _=>17-(intOf i).toNat)
           case atStart=>exact ⟨0,by omega,rfl,(fun p hp h=>HE2.out p hp (by have:=okW_ok hp;omega)),a6.out,a9.out⟩
           case round =>
            clear a6 a9
            obtain ⟨k,hk,rfl,he,h1,h2⟩:=hrel
            have HE3:=hid he;clear he
            obtain ⟨wc,rfl⟩:∃ v,v=wr:=⟨wr,rfl⟩
            have a0:=hid (h1)
            clear h1
            have a3:=hid (h2)
            clear h2
            by_cases hkn:k+n≤16
            · have hkn':(k:Int)+(n:Int)≤16:=by omega
              have hok:okW ⟨(x:Int),(x:Int)+(n:Int),(k:Int),(k:Int)+(n:Int)⟩=true:=by simp only [okW,isStr,Bool.and_eq_true,decide_eq_true_eq];omega
              have hwe:wrE ⟨(x:Int),(x:Int)+(n:Int),(k:Int),(k:Int)+(n:Int)⟩=0:=by unfold wrE;rw [hok];rfl
              have hws:wrS ⟨(x:Int),(x:Int)+(n:Int),(k:Int),(k:Int)+(n:Int)⟩=spB ⟨(x:Int),(x:Int)+(n:Int),(k:Int),(k:Int)+(n:Int)⟩:=by unfold wrS;rw [hok];rfl
              have HWE:=hid hwe;have HWS:=hid hws;have HOK:=hid hok;clear hwe hws hok
              obtain ⟨o_,ho_⟩:∃ o,o=((.cells #[.int .i64 (x:Int),.int .i64 ((x:Int)+(n:Int)),.int .i64 (k:Int),.int .i64 ((k:Int)+(n:Int))] 25):Obj):=⟨_,rfl⟩
              replace a0:=kA a0 o_
              replace a3:=bA a3 o_
              subst ho_
              have a7:=hid (Blk.new wc 25 #[.int .i64 (x:Int),.int .i64 ((x:Int)+(n:Int)),.int .i64 (k:Int),.int .i64 ((k:Int)+(n:Int))])
              obtain ⟨e2,e3,e4,e5⟩:=at4 a0
              obtain ⟨e6,e7,e8,e9⟩:=at4 a7
              have hc:=rWrite_any (x:Int) ((x:Int)+(n:Int)) (k:Int) ((k:Int)+(n:Int)) ((wc.alloc (.cells #[.int .i64 (x:Int),.int .i64 ((x:Int)+(n:Int)),.int .i64 (k:Int),.int .i64 ((k:Int)+(n:Int))] 25)))
              rw [HWE.out] at hc
              rw [HWS.out] at hc
              try dsimp only at hc
              have HC:=hid hc;clear hc
              go_wp2_with fail
              refine HC.out.mono ?_
              rintro e b0 ⟨rfl,hb⟩
              clear HC
              clear e2 e3 e4 e5 e6 e7 e8 e9
              have b1:=hid hb
              clear hb
              obtain ⟨t,ht⟩:∃ t,spB ⟨(x:Int),(x:Int)+(n:Int),(k:Int),(k:Int)+(n:Int)⟩=t:=⟨_,rfl⟩
              rw [ht]
              have HT:=hid ht;clear ht
              replace a0:=kH a0 b1
              replace a3:=bH a3 b1
              replace a7:=kH a7 b1
              by_cases hts:t=s
              · subst hts
                have HIS:=hid (rd_is (s:=t) ⟨HOK.out,HT.out⟩)
                obtain ⟨f0,f1,f2,f3⟩:=at4 a0
                obtain ⟨f4,f5,f6,f7⟩:=at4 a7
                have c6:(b0).frozen? ⟨w.heap.size,0,none⟩=false:=Blk.frozen a0.out 0
                have c7:(b0).frozen? ⟨w.heap.size,1,none⟩=false:=Blk.frozen a0.out 1
                have c8:(b0).frozen? ⟨w.heap.size,2,none⟩=false:=Blk.frozen a0.out 2
                have c9:(b0).frozen? ⟨w.heap.size,3,none⟩=false:=Blk.frozen a0.out 3
                have b8:=a3.out
                go_wp2
                refine bodyPost_ret (v:=.tuple #[.agg #[.int .i64 (x:Int),.int .i64 ((x:Int)+(n:Int)),.int .i64 (k:Int),.int .i64 ((k:Int)+(n:Int))],.int .i64 0]) (by simp [results,Tryz.results8,go_sem,f0,f1,f2,f3,f4,f5,f6,f7,c6,c7,c8,c9]) rfl ⟨by rw [HIS.out.1,HIS.out.2],(by have hsz_:=Below.size b8;repeat' (first|with_reducible exact b8|with_reducible exact Below.refl _ _|with_reducible refine Below.alloc ?_ ?_ _|with_reducible refine Below.setCell ?_ ?_ _|with_reducible refine Below.drew ?_|with_reducible refine below_setRow ?_ ?_ _|omega | (simp;done) | (simp;omega)))⟩
              · have HTS:=hid hts
                have hne:=bytes_bne hts
                clear hts
                go_wp2
                go_roundw
                case rel=>exact ⟨k+1,by omega,by go_num,rd_step HE3.out (by rw [HT.out];exact HTS.out),a0.out,a3.out⟩
                case measure=>simp [intOf];omega
            · have hkn':¬ (k:Int)+(n:Int)≤16:=by omega
              go_wp2
              go_roundw
              case rel=>exact ⟨n+1,by omega,by omega,by go_num,(fun p hp h=>HE3.out p hp (by have:=okW_ok hp;omega)),a0.out,a3.out⟩
              case measure=>simp [intOf];omega
         · have hxn':¬ (x:Int)+(n:Int)≤16:=by omega
           go_wp2
           go_roundw
           case rel=>exact ⟨x+1,by omega,by go_num,(fun p hp h=>HE2.out p hp (by have:=okW_ok hp;omega)),a6.out,a9.out⟩
           case measure=>simp [intOf];omega
      · have hlt':¬ (x:Int)<16:=by omega
        have HNO:=hid (rd_no (s:=s) (fun p hp=>HE.out p hp (by have:=okW_ok hp;omega)))
        obtain ⟨d0,d1,d2,d3⟩:=at4 a4
        have c2:(wa).frozen? ⟨w.heap.size,0,none⟩=false:=Blk.frozen a4.out 0
        have c3:(wa).frozen? ⟨w.heap.size,1,none⟩=false:=Blk.frozen a4.out 1
        have c4:(wa).frozen? ⟨w.heap.size,2,none⟩=false:=Blk.frozen a4.out 2
        have c5:(wa).frozen? ⟨w.heap.size,3,none⟩=false:=Blk.frozen a4.out 3
        have b2:=a8.out
        go_wp2
        refine bodyPost_ret (v:=.tuple #[.agg #[.int .i64 0,.int .i64 0,.int .i64 0,.int .i64 0],.int .i64 4]) (by simp [results,Tryz.results8,go_sem,d0,d1,d2,d3,c2,c3,c4,c5]) rfl ⟨by rw [HNO.out.1,HNO.out.2],(by have hsz_:=Below.size b2;repeat' (first|with_reducible exact b2|with_reducible exact Below.refl _ _|with_reducible refine Below.alloc ?_ ?_ _|with_reducible refine Below.setCell ?_ ?_ _|with_reducible refine Below.drew ?_|with_reducible refine below_setRow ?_ ?_ _|omega | (simp;done) | (simp;omega)))⟩
end Go.Proofs.YtebkniakflhhkaaGreatDoor
