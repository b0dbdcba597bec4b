import Derived.Test.YtokpblmgdmokoaaGreatAVPart2
set_option maxHeartbeats 4000000
set_option linter.unusedSimpArgs false
set_option linter.unusedVariables false
namespace Go.Proofs.YtokpblmgdmokoaaGreat
open Go.Lib (hid)
open Go.RowKit
theorem xwithin_any (n lo hi:Int) (w:World) :
 Calls Tryz.prog 78 #[.int .i64 n,.int .i64 lo,.int .i64 hi] w fun e w'=>e=.returned (.bool (inR n lo hi))∧w=w':=by
 by_cases h:lo≤n
 · go_enter Tryz.func78,Tryz.ntmps78
   go_wp2
   go_ret
   exact ⟨by simp [inR,h],rfl⟩
 · go_enter Tryz.func78,Tryz.ntmps78
   go_wp2
   go_ret
   exact ⟨by simp [inR,h];try omega,rfl⟩
theorem xwithin_is (n lo hi:Int) (b:Bool) (h:inR n lo hi=b) (w:World) :
 Calls Tryz.prog 78 #[.int .i64 n,.int .i64 lo,.int .i64 hi] w fun e w'=>e=.returned (.bool b)∧w=w':=by
 subst h
 exact xwithin_any n lo hi w
theorem xName_any (s:ByteArray) (w:World) :
 Calls Tryz.prog 77 #[.string s] w fun e w'=>e=.returned (.bool (nameB s))∧w=w':=by
 by_cases h1:s.size<1
 · go_enter Tryz.func77,Tryz.ntmps77
   go_wp2
   go_ret
   exact ⟨by simp [nameB,inR];omega,rfl⟩
 by_cases h2:24<s.size
 · go_enter Tryz.func77,Tryz.ntmps77
   go_wp2
   go_ret
   exact ⟨by simp [nameB,inR];omega,rfl⟩
 have h0:0<s.size:=by omega
 by_cases ha:(s[0].toNat:Int)<97
 · have hl:=nameB_no s (by omega) (by simp [letZ,inR];omega)
   have HN:=hid hl;clear hl
   go_enter Tryz.func77,Tryz.ntmps77
   go_wp2
   go_ret
   exact ⟨ret_bool HN.out.symm,rfl⟩
 by_cases hb:122<(s[0].toNat:Int)
 · have hl:=nameB_no s (by omega) (by simp [letZ,inR];omega)
   have HN:=hid hl;clear hl
   go_enter Tryz.func77,Tryz.ntmps77
   go_wp2
   go_ret
   exact ⟨ret_bool HN.out.symm,rfl⟩
 have hl:=nameB_eq s (by omega) (by omega) (by simp [letZ,inR];omega)
 have HN:=hid hl;clear hl
 go_enter Tryz.func77,Tryz.ntmps77
 go_wp2
 go_loop [3] (fun i=>∃ k:Nat,k≤s.size∧i=.int .i64 k∧(s.data.toList.take k).all chZ=true) (fun i=>s.size-(intOf i).toNat)
 case atStart=>exact ⟨0,Nat.zero_le _,rfl,by simp⟩
 case round =>
  obtain ⟨k,hk,rfl,hal⟩:=hrel
  have HA:=hid hal;clear hal ha hb
  by_cases hlt:k<s.size
  · have HT:=hid (take_snocB s k hlt)
    have hk0:0≤(s[k].toNat:Int):=by omega
    by_cases c1:(s[k].toNat:Int)<97
    · by_cases c2:(s[k].toNat:Int)<48
      · by_cases c3:(s[k].toNat:Int)=45
        · have c4:((s[k].toNat:Int) != 45)=false:=by simp [c3]
          have HC:=hid (show chZ s[k]=true by simp [chZ,letZ,inR];omega)
          go_wp2
          go_round
          case rel=>exact ⟨k+1,by omega,by go_num,by rw [HT.out,List.all_append,HA.out];simp [HC.out]⟩
          case measure=>simp [intOf];omega
        · have c4:((s[k].toNat:Int) != 45)=true:=by simpa using c3
          have HC:=hid (show chZ s[k]=false by simp [chZ,letZ,inR];omega)
          go_wp2
          go_ret
          exact ⟨ret_bool (by rw [HN.out];exact (all_byte s k hlt HC.out).symm),rfl⟩
      · by_cases c3:57<(s[k].toNat:Int)
        · have c4:((s[k].toNat:Int) != 45)=true:=by rw [bne_iff_ne];omega
          have HC:=hid (show chZ s[k]=false by simp [chZ,letZ,inR];omega)
          go_wp2
          go_ret
          exact ⟨ret_bool (by rw [HN.out];exact (all_byte s k hlt HC.out).symm),rfl⟩
        · skip
          have HC:=hid (show chZ s[k]=true by simp [chZ,letZ,inR];omega)
          go_wp2
          go_round
          case rel=>exact ⟨k+1,by omega,by go_num,by rw [HT.out,List.all_append,HA.out];simp [HC.out]⟩
          case measure=>simp [intOf];omega
    · by_cases c2:122<(s[k].toNat:Int)
      · have c4:((s[k].toNat:Int) != 45)=true:=by rw [bne_iff_ne];omega
        have c5:¬ (s[k].toNat:Int)<48:=by omega
        have c6:57<(s[k].toNat:Int):=by omega
        have HC:=hid (show chZ s[k]=false by simp [chZ,letZ,inR];omega)
        go_wp2
        go_ret
        exact ⟨ret_bool (by rw [HN.out];exact (all_byte s k hlt HC.out).symm),rfl⟩
      · skip
        have HC:=hid (show chZ s[k]=true by simp [chZ,letZ,inR];omega)
        go_wp2
        go_round
        case rel=>exact ⟨k+1,by omega,by go_num,by rw [HT.out,List.all_append,HA.out];simp [HC.out]⟩
        case measure=>simp [intOf];omega
  · obtain rfl:k=s.size:=by omega
    go_wp2
    go_ret
    exact ⟨ret_bool (by rw [HN.out];have:=HA.out;rw [List.take_of_length_le (by simp)] at this;exact this.symm),rfl⟩
theorem xName_is (s:ByteArray) (b:Bool) (h:nameB s=b) (w:World) :
 Calls Tryz.prog 77 #[.string s] w fun e w'=>e=.returned (.bool b)∧w=w':=by
 subst h
 exact xName_any s w
theorem xby_any (n:Int) (z:Bool) (w:World) :
 Calls Tryz.prog 79 #[.int .i64 n,.bool z] w fun e w'=>e=.returned (.bool (byB n (!z)))∧w=w':=by
 have hx:byB n (!z)=(inR n 0 1000000&&(decide (n=0) || !z)):=by
  unfold byB inR
  by_cases h:n=0
  · subst h;simp
  · by_cases h0:1≤n
    · by_cases h1:n≤1000000
      · have h2:(0:Int)≤n:=by omega
        cases z<;>simp [h,h0,h1,h2]
      · cases z<;>simp [h,h1]
    · have h2:¬ (0:Int)≤n:=by omega
      cases z<;>simp [h,h0,h2]
 rw [hx]
 clear hx
 cases hin:inR n 0 1000000
 · have HI:=hid hin;clear hin
   go_enter Tryz.func79,Tryz.ntmps79
   go_wp2_with (go_at_call 78;refine (xwithin_is _ _ _ _ HI.out _).mono ?_;rintro e w' ⟨rfl,rfl⟩)
   go_ret
   exact ⟨rfl,rfl⟩
 · have HI:=hid hin;clear hin
   by_cases h:n=0
   · subst h
     go_enter Tryz.func79,Tryz.ntmps79
     go_wp2_with (go_at_call 78;refine (xwithin_is _ _ _ _ HI.out _).mono ?_;rintro e w' ⟨rfl,rfl⟩)
     go_ret
     exact ⟨by simp,rfl⟩
   · have h1:(n == 0)=false:=by simpa using h
     have H:=hid h;clear h
     go_enter Tryz.func79,Tryz.ntmps79
     go_wp2_with (go_at_call 78;refine (xwithin_is _ _ _ _ HI.out _).mono ?_;rintro e w' ⟨rfl,rfl⟩)
     go_ret
     exact ⟨ret_bool (by simp [H.out]),rfl⟩
theorem xby_is (n:Int) (z b:Bool) (h:byB n (!z)=b) (w:World) :
 Calls Tryz.prog 79 #[.int .i64 n,.bool z] w fun e w'=>e=.returned (.bool b)∧w=w':=by
 subst h
 exact xby_any n z w
theorem mem_take {l:List Int} {k:Nat} {v x:Int} (h:l[k]?=some v):(x∈l.take (k+1)) ↔ (x∈l.take k∨x=v):=by
 rw [List.take_add_one,h,Option.toList_some,List.mem_append,List.mem_singleton]
theorem xhas_any (A:Option Addr) (n c:Nat) (l:List Int) (x:Int) (w:World) (hr:RdI w A n c l) (hn:n≤maxLen) :
 Calls Tryz.prog 81 #[.slice A n c,.int .i64 x] w fun e w'=>e=.returned (.bool (decide (x∈l)))∧w=w':=by
 unfold maxLen at hn
 have HR:=hid hr;clear hr
 obtain ⟨q,hq⟩:∃ q,decide (x∈l)=q:=⟨_,rfl⟩
 rw [hq]
 have HQ:=hid hq;clear hq
 go_enter Tryz.func81,Tryz.ntmps81
 go_wp2
 go_loop [5] (fun i=>∃ k:Nat,k≤n∧i=.int .i64 k∧x ∉ l.take k) (fun i=>n-(intOf i).toNat)
 case atStart=>exact ⟨0,Nat.zero_le _,rfl,by simp⟩
 case round =>
  obtain ⟨k,hk,rfl,ha⟩:=hrel
  have HA:=hid ha;clear ha
  by_cases hlt:k<n
  · obtain ⟨b,o,v,rfl,hbw,hx,e0⟩:=RdI.get HR.out hlt
    have HX:=hid hx;clear hx
    by_cases hv:v=x
    · have HV:=hid hv
      have hv1:(v == x)=true:=by simpa using hv
      clear hv
      go_wp2
      go_ret
      exact ⟨ret_bool (by rw [← HQ.out];exact (decide_eq_true (by rw [← HV.out];exact List.mem_of_getElem? HX.out)).symm),rfl⟩
    · have HV:=hid hv
      have hv1:(v == x)=false:=by simpa using hv
      clear hv
      go_wp2
      go_round
      case rel=>exact ⟨k+1,by omega,by go_num,by rw [mem_take HX.out];exact fun h=>h.elim HA.out (fun e=>HV.out e.symm)⟩
      case measure=>simp [intOf];omega
  · obtain rfl:k=n:=by omega
    go_wp2
    go_ret
    exact ⟨ret_bool (by rw [← HQ.out];exact (decide_eq_false (by have:=HA.out;rwa [List.take_of_length_le (by have:=HR.out.len;omega)] at this)).symm),rfl⟩
theorem xhas_is (A:Option Addr) (n c:Nat) (l:List Int) (x:Int) (w:World) (hr:RdI w A n c l) (hn:n≤maxLen) (b:Bool) (h:decide (x∈l)=b) :
 Calls Tryz.prog 81 #[.slice A n c,.int .i64 x] w fun e w'=>e=.returned (.bool b)∧w=w':=by
 subst h
 exact xhas_any A n c l x w hr hn
set_option maxRecDepth 100000 in
theorem xrising_any (A:Option Addr) (n c:Nat) (l:List Int) (w:World) (hr:RdI w A n c l) (hn:n≤maxLen) :
 Calls Tryz.prog 110 #[.slice A n c] w fun e w'=>e=.returned (.bool (ascN l 1 1000000))∧Below w.heap.size w w':=by
 unfold maxLen at hn
 have HR:=hid hr;clear hr
 obtain ⟨q,hq⟩:∃ q,ascN l 1 1000000=q:=⟨_,rfl⟩
 rw [hq]
 have HQ:=hid (show ascN (l.drop 0) 1 1000000=q from hq);clear hq
 go_enter Tryz.func110,Tryz.ntmps110
 have a5:=hid (show Below w.heap.size w w from Below.refl _ w)
 go_wp2
 go_loopw [3] (fun i wr=>∃ (k:Nat) (zz:Int),k≤n∧i=.int .i64 k∧ascN (l.drop k) zz 1000000=q∧((k=0∧zz=1)∨∃ (j:Nat) (u:Int),k=j+1∧l[j]?=some u∧zz=u+1∧1≤u)∧Below w.heap.size w wr) (fun i _=>n-(intOf i).toNat)
 case atStart=>exact ⟨0,1,Nat.zero_le _,rfl,HQ.out,.inl ⟨rfl,rfl⟩,a5.out⟩
 case round =>
  clear a5
  obtain ⟨k,zz,hk,rfl,ha,hz,hbe⟩:=hrel
  have HA:=hid ha;clear ha
  have HZ:=hid hz;clear hz
  have a0:=hid (hbe)
  clear hbe
  by_cases hlt:k<n
  · have hlt':(k:Int)<n:=by omega
    obtain ⟨b,o,v,hA,hbw,hx,e0⟩:=RdI.get HR.out hlt
    subst hA
    have HE:=hid e0;have HB:=hid hbw;have HX:=hid hx;clear e0 hbw hx
    have HS:=hid (ascN_step (z:=zz) (hi:=1000000) HX.out)
    cases hin:inR v 1 1000000
    · have HI:=hid hin;clear hin
      have HN:=hid (show q=false by rw [← HA.out,HS.out];have h1:=HI.out;have h2:=HZ.out;have h3:inR v zz 1000000=false:=(by unfold inR at h1 ⊢;simp only [Bool.and_eq_false_iff,decide_eq_false_iff_not] at h1 ⊢;rcases h2 with ⟨-,rfl⟩|⟨j,u,-,-,rfl,hu⟩<;>omega);rw [h3];rfl)
      go_wp2
      replace a0:=bD a0
      refine wp_region_held_drew (S:=(fun W'=>Below w.heap.size w W')) (by kernel_rfl) a0.out (fun _=>?_)
      obtain ⟨b5,a1⟩:∃ w',w'=(wr.drew):=⟨_,rfl⟩
      rw [← a1] at a0
      rw [← a1]
      clear a1
      refine' twH 0 a0.out ?_
      refine' twH 1 a0.out ?_
      refine' twH 2 a0.out ?_
      refine' tkH 3 a0.out ?a6 ?_
      case a6=>(rintro W' hS0;have hc0:=(Below.cell hS0 (p:=⟨b,_,none⟩) HB.out).trans HE.out;clear hS0;go_simp;try with_reducible rfl)
      try simp only [pq]
      refine oneH 4 rfl fun K hK=>?_
      go_simp
      go_at_call 78
      refine (xwithin_is v 1 1000000 _ HI.out (b5)).mono ?_
      rintro e b9 ⟨rfl,rfl⟩
      dsimp only
      refine hK.out _ _ a0.out (fun _=>?_);clear hK K
      try simp only [pq]
      refine' twH 5 a0.out ?_
      refine' twH 6 a0.out ?_
      refine' tkNH 7 a0.out ?_
      refine' tkNH 8 a0.out ?_
      try simp only [pq]
      refine' tkNH 9 a0.out ?_
      refine' tkNH 10 a0.out ?_
      refine' tkNH 11 a0.out ?_
      refine' tkNH 12 a0.out ?_
      try simp only [pq]
      refine' tkNH 13 a0.out ?_
      refine' tkNH 14 a0.out ?_
      refine' tkNH 15 a0.out ?_
      refine' tkNH 16 a0.out ?_
      try simp only [pq]
      refine' tkNH 17 a0.out ?_
      refine' tkNH 18 a0.out ?_
      refine' tkNH 19 a0.out ?_
      refine' tkNH 20 a0.out ?_
      try simp only [pq]
      refine' twH 21 a0.out ?_
      try simp only [pq]
      refine wpAnyH_done (by kernel_rfl) ?_ _
      go_wp2
      go_ret
      exact ⟨ret_bool HN.out.symm,a0.out⟩
    · have HI:=hid hin;clear hin
      rcases Nat.eq_zero_or_pos k with hk0|hk0
      · subst hk0
        have hz1:zz=1:=by rcases HZ.out with ⟨-,h⟩|⟨j,u,h,-⟩;exact h;omega
        subst hz1
        have HN:=hid (show ascN (l.drop (0+1)) (v+1) 1000000=q by rw [← HA.out,HS.out,HI.out];rfl)
        have HV:=hid (show 1≤v by have:=HI.out;simp only [inR,Bool.and_eq_true,decide_eq_true_eq] at this;exact this.1)
        go_wp2
        replace a0:=bD a0
        refine wp_region_held_drew (S:=(fun W'=>Below w.heap.size w W')) (by kernel_rfl) a0.out (fun _=>?_)
        obtain ⟨b6,a2⟩:∃ w',w'=(wr.drew):=⟨_,rfl⟩
        rw [← a2] at a0
        rw [← a2]
        clear a2
        refine' twH 0 a0.out ?_
        refine' twH 1 a0.out ?_
        refine' twH 2 a0.out ?_
        refine' tkH 3 a0.out ?a7 ?_
        case a7=>(rintro W' hS0;have hc0:=(Below.cell hS0 (p:=⟨b,_,none⟩) HB.out).trans HE.out;simp only [Nat.add_zero] at hc0;clear hS0;go_simp;try with_reducible rfl)
        try simp only [pq]
        refine oneH 4 rfl fun K hK=>?_
        go_simp
        go_at_call 78
        refine (xwithin_is v 1 1000000 _ HI.out (b6)).mono ?_
        rintro e c0 ⟨rfl,rfl⟩
        dsimp only
        refine hK.out _ _ a0.out (fun _=>?_);clear hK K
        try simp only [pq]
        refine' twH 5 a0.out ?_
        refine' twH 6 a0.out ?_
        refine' twH 7 a0.out ?_
        refine' twH 8 a0.out ?_
        try simp only [pq]
        refine' twH 9 a0.out ?_
        refine' tkNH 10 a0.out ?_
        refine' tkNH 11 a0.out ?_
        refine' tkNH 12 a0.out ?_
        try simp only [pq]
        refine' tkNH 13 a0.out ?_
        refine' tkNH 14 a0.out ?_
        refine' tkNH 15 a0.out ?_
        refine' tkNH 16 a0.out ?_
        try simp only [pq]
        refine' tkNH 17 a0.out ?_
        refine' tkNH 18 a0.out ?_
        refine' tkNH 19 a0.out ?_
        refine' twH 20 a0.out ?_
        try simp only [pq]
        refine' twH 21 a0.out ?_
        try simp only [pq]
        refine wpAnyH_done (by kernel_rfl) ?_ _
        go_wp2
        go_roundw
        case rel=>exact ⟨0+1,v+1,by omega,by go_num,HN.out,.inr ⟨0,v,rfl,HX.out,rfl,HV.out⟩,a0.out⟩
        case measure=>simp [intOf];omega
      · obtain ⟨j,u,rfl,hxu,rfl,hu⟩:∃ (j:Nat) (u:Int),k=j+1∧l[j]?=some u∧zz=u+1∧1≤u:=by rcases HZ.out with ⟨h,-⟩|h;omega;exact h
        obtain ⟨b2,o2,u2,hA2,-,hx2,e2⟩:=RdI.get HR.out (k:=j) (by omega)
        injection hA2 with hA2;injection hA2 with hA3 hA4;subst hA3 hA4
        obtain rfl:u2=u:=by rw [hxu] at hx2;injection hx2 with hx2;exact hx2.symm
        have HU:=hid e2;have HU1:=hid hu;clear e2 hx2 hxu hu
        have hj1:(((j+1:Nat):Int)-1)=(j:Int):=by omega
        have hj3:(0:Int)≤(j:Int)+1:=by omega
        have hj4:(j:Int)+1<n:=by omega
        have hj2:(j:Int)<n:=by omega
        have hjw:IntKind.i64.wrap (j:Int)=(j:Int):=IntWalk.i64_in _ (by omega)
        by_cases huv:v≤u2
        · have HN:=hid (show q=false by rw [← HA.out,HS.out];have h3:inR v (u2+1) 1000000=false:=(by unfold inR;simp only [Bool.and_eq_false_iff,decide_eq_false_iff_not];omega);rw [h3];rfl)
          go_wp2
          replace a0:=bD a0
          refine wp_region_held_drew (S:=(fun W'=>Below w.heap.size w W')) (by kernel_rfl) a0.out (fun _=>?_)
          obtain ⟨b7,a3⟩:∃ w',w'=(wr.drew):=⟨_,rfl⟩
          rw [← a3] at a0
          rw [← a3]
          clear a3
          refine' twH 0 a0.out ?_
          refine' twH 1 a0.out ?_
          refine' twH 2 a0.out ?_
          refine' tkH 3 a0.out ?a8 ?_
          case a8=>(rintro W' hS0;have hc0:=(Below.cell hS0 (p:=⟨b,_,none⟩) HB.out).trans HE.out;clear hS0;go_simp;try with_reducible rfl)
          try simp only [pq]
          refine oneH 4 rfl fun K hK=>?_
          go_simp
          go_at_call 78
          refine (xwithin_is v 1 1000000 _ HI.out (b7)).mono ?_
          rintro e c1 ⟨rfl,rfl⟩
          dsimp only
          refine hK.out _ _ a0.out (fun _=>?_);clear hK K
          try simp only [pq]
          refine' twH 5 a0.out ?_
          refine' twH 6 a0.out ?_
          refine' twH 7 a0.out ?_
          refine' twH 8 a0.out ?_
          try simp only [pq]
          refine' twH 9 a0.out ?_
          refine' twH 10 a0.out ?_
          refine' twH 11 a0.out ?_
          refine' twH 12 a0.out ?_
          try simp only [pq]
          refine' twH 13 a0.out ?_
          refine' tkH 14 a0.out ?a9 ?_
          case a9=>(rintro W' hS0;have hc0:=(Below.cell hS0 (p:=⟨b,_,none⟩) HB.out).trans HU.out;clear hS0;go_simp;try with_reducible rfl)
          refine' twH 15 a0.out ?_
          refine' twH 16 a0.out ?_
          try simp only [pq]
          refine' twH 17 a0.out ?_
          refine' tkH 18 a0.out ?b0 ?_
          case b0=>(rintro W' hS0;have hc0:=(Below.cell hS0 (p:=⟨b,_,none⟩) HB.out).trans HE.out;clear hS0;go_simp;try with_reducible rfl)
          refine' twH 19 a0.out ?_
          refine' twH 20 a0.out ?_
          try simp only [pq]
          refine' twH 21 a0.out ?_
          try simp only [pq]
          refine wpAnyH_done (by kernel_rfl) ?_ _
          go_wp2
          go_ret
          exact ⟨ret_bool HN.out.symm,a0.out⟩
        · have HN:=hid (show ascN (l.drop (j+1+1)) (v+1) 1000000=q by rw [← HA.out,HS.out];have h1:=HI.out;have h3:inR v (u2+1) 1000000=true:=(by unfold inR at h1 ⊢;simp only [Bool.and_eq_true,decide_eq_true_eq] at h1 ⊢;omega);rw [h3];rfl)
          have HV:=hid (show 1≤v by have:=HI.out;simp only [inR,Bool.and_eq_true,decide_eq_true_eq] at this;exact this.1)
          go_wp2
          replace a0:=bD a0
          refine wp_region_held_drew (S:=(fun W'=>Below w.heap.size w W')) (by kernel_rfl) a0.out (fun _=>?_)
          obtain ⟨b8,a4⟩:∃ w',w'=(wr.drew):=⟨_,rfl⟩
          rw [← a4] at a0
          rw [← a4]
          clear a4
          refine' twH 0 a0.out ?_
          refine' twH 1 a0.out ?_
          refine' twH 2 a0.out ?_
          refine' tkH 3 a0.out ?b1 ?_
          case b1=>(rintro W' hS0;have hc0:=(Below.cell hS0 (p:=⟨b,_,none⟩) HB.out).trans HE.out;clear hS0;go_simp;try with_reducible rfl)
          try simp only [pq]
          refine oneH 4 rfl fun K hK=>?_
          go_simp
          go_at_call 78
          refine (xwithin_is v 1 1000000 _ HI.out (b8)).mono ?_
          rintro e c2 ⟨rfl,rfl⟩
          dsimp only
          refine hK.out _ _ a0.out (fun _=>?_);clear hK K
          try simp only [pq]
          refine' twH 5 a0.out ?_
          refine' twH 6 a0.out ?_
          refine' twH 7 a0.out ?_
          refine' twH 8 a0.out ?_
          try simp only [pq]
          refine' twH 9 a0.out ?_
          refine' twH 10 a0.out ?_
          refine' twH 11 a0.out ?_
          refine' twH 12 a0.out ?_
          try simp only [pq]
          refine' twH 13 a0.out ?_
          refine' tkH 14 a0.out ?b3 ?_
          case b3=>(rintro W' hS0;have hc0:=(Below.cell hS0 (p:=⟨b,_,none⟩) HB.out).trans HU.out;clear hS0;go_simp;try with_reducible rfl)
          refine' twH 15 a0.out ?_
          refine' twH 16 a0.out ?_
          try simp only [pq]
          refine' twH 17 a0.out ?_
          refine' tkH 18 a0.out ?b4 ?_
          case b4=>(rintro W' hS0;have hc0:=(Below.cell hS0 (p:=⟨b,_,none⟩) HB.out).trans HE.out;clear hS0;go_simp;try with_reducible rfl)
          refine' twH 19 a0.out ?_
          refine' twH 20 a0.out ?_
          try simp only [pq]
          refine' twH 21 a0.out ?_
          try simp only [pq]
          refine wpAnyH_done (by kernel_rfl) ?_ _
          go_wp2
          go_roundw
          case rel=>exact ⟨j+1+1,v+1,by omega,by go_num,HN.out,.inr ⟨j+1,v,rfl,HX.out,rfl,HV.out⟩,a0.out⟩
          case measure=>simp [intOf];omega
  · obtain rfl:k=n:=by omega
    have HN:=hid (show q=true by rw [← HA.out,List.drop_of_length_le (by have:=HR.out.len;omega)];rfl)
    go_wp2
    go_ret
    exact ⟨ret_bool HN.out.symm,a0.out⟩
theorem xrising_is (A:Option Addr) (n c:Nat) (l:List Int) (w:World) (hr:RdI w A n c l) (hn:n≤maxLen) (b:Bool) (h:ascN l 1 1000000=b) :
 Calls Tryz.prog 110 #[.slice A n c] w fun e w'=>e=.returned (.bool b)∧Below w.heap.size w w':=by
 subst h
 exact xrising_any A n c l w hr hn
end Go.Proofs.YtokpblmgdmokoaaGreat
