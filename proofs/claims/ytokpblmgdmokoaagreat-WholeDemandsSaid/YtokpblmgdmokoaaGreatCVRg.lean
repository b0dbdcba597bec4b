import Derived.Test.YtokpblmgdmokoaaGreatAVCks
import Derived.Test.YtokpblmgdmokoaaGreatCVRf
set_option maxHeartbeats 4000000
set_option linter.unusedSimpArgs false
set_option linter.unusedVariables false
namespace Go.Proofs.YtokpblmgdmokoaaGreat
open Go.Lib (hid)
open Go.RowKit
theorem xdemand_is (A:Option Addr) (n k:Nat) (ps:List Prt) (c d:Int) (w:World) (hr:RdP w A n k ps) (hn:n≤maxLen) (D:Int) (hD:demV ps c d=D):Calls Tryz.prog 91 #[.slice A n k,.agg #[.int .i64 c,.int .i64 d]] w fun e w'=>e=.returned (.int .i64 D)∧Below w.heap.size w w':=by
 subst hD
 exact xdemand_any A n k ps c d w hr hn
def shR (o:Option Int) (n:Int):Bool:=match o with|none=>false|some s=>decide (n≤s)
theorem shOk_R (ps:List Prt) (l:List Rng) (N:Int):shOk ps l N=shR (shS ps l 0 0) N:=by
 unfold shOk shR
 cases shS ps l 0 0<;>rfl
set_option maxRecDepth 100000 in
theorem xCheckShow_no (ware:ByteArray) (lim by_:Int) (A:Option Addr) (n k:Nat) (ps:List Prt) (B:Option Addr) (m d:Nat) (l:List Rng) (N:Int) (w:World) (hr:RdP w A n k ps) (hl:RdG w B m d l) (hn:n≤maxLen) (hm:m≤maxLen) (q:Int) (hq:chkC ⟨ware,lim,by_,ps⟩=q) (hne:q≠0):Calls Tryz.prog 41 #[.agg #[.string ware,.int .i64 lim,.int .i64 by_,.slice A n k],.slice B m d,.int .i64 N] w fun e w'=>e=.returned (.tuple #[.bool false,.int .i64 q])∧Below w.heap.size w w':=by
 have HQ:=hid hq;clear hq
 go_enter Tryz.func41,Tryz.ntmps41
 obtain ⟨a1,a0⟩:=ent1 w #[.string ware,.int .i64 lim,.int .i64 by_,.slice A n k] 24
 have a3:=hid (RdP.below (hr) a0.out)
 clear hr
 obtain ⟨a4,a5,a6,a7⟩:=at4 a1
 have hc:=xchk_is ware lim by_ A n k ps ((w.alloc (.cells #[.string ware,.int .i64 lim,.int .i64 by_,.slice A n k] 24))) a3.out hn q HQ.out
 have HC:=hid hc;clear hc
 go_wp2_with fail
 refine HC.out.mono ?_
 rintro e b2 ⟨rfl,hb⟩
 clear HC
 clear a4 a5 a6 a7
 have a2:=hid hb
 clear hb
 replace a1:=kH a1 a2
 obtain ⟨a8,a9,b0,b1⟩:=at4 a1
 go_wp2
 go_ret2
 replace a0:=bH a0 a2
 exact ⟨rfl,a0.out⟩
set_option maxRecDepth 100000 in
theorem xCheckShow_yes (ware:ByteArray) (lim by_:Int) (A:Option Addr) (n k:Nat) (ps:List Prt) (B:Option Addr) (m d:Nat) (l:List Rng) (N:Int) (w:World) (hr:RdP w A n k ps) (hl:RdG w B m d l) (hn:n≤maxLen) (hm:m≤maxLen) (hq:chkC ⟨ware,lim,by_,ps⟩=0):Calls Tryz.prog 41 #[.agg #[.string ware,.int .i64 lim,.int .i64 by_,.slice A n k],.slice B m d,.int .i64 N] w fun e w'=>e=.returned (.tuple #[.bool (shOk ps l N),.int .i64 0])∧Below w.heap.size w w':=by
 have H40:=hid (show ps.length≤40 from (chkC_ok hq).1)
 have hmn:=hm;have hn2:=hn;unfold maxLen at hmn hn2
 have HR:=hid hr;have HL:=hid hl;clear hl
 have HQ:=hid hq;clear hq
 rw [shOk_R]
 obtain ⟨res,hres⟩:∃ r,shS ps l 0 0=r:=⟨_,rfl⟩
 rw [hres]
 have HS0:=hid (show shS ps (l.drop 0) 0 0=res from hres);clear hres
 go_enter Tryz.func41,Tryz.ntmps41
 obtain ⟨a5,a2⟩:=ent1 w #[.string ware,.int .i64 lim,.int .i64 by_,.slice A n k] 24
 have b5:=hid (RdP.below (hr) a2.out)
 clear hr
 obtain ⟨f7,f8,f9,g0⟩:=at4 a5
 have hc:=xchk_is ware lim by_ A n k ps ((w.alloc (.cells #[.string ware,.int .i64 lim,.int .i64 by_,.slice A n k] 24))) b5.out hn 0 HQ.out
 have HC:=hid hc;clear hc
 go_wp2_with fail
 refine HC.out.mono ?_
 rintro e g7 ⟨rfl,hb⟩
 clear HC
 clear f7 f8 f9 g0
 have b6:=hid hb
 clear hb
 replace a5:=kH a5 b6
 obtain ⟨f3,f4,f5,f6⟩:=at4 a5
 go_wp2
 clear f3 f4 f5 f6
 replace a2:=bH a2 b6
 replace b5:=hid (RdP.below (b5.out) b6.out)
 go_loopw [9,10] (fun s i wr=>∃ (q:Nat) (S fr:Int),q≤m∧s=.int .i64 S∧i=.int .i64 q∧shS ps (l.drop q) fr S=res∧((q=0∧fr=0)∨∃ (j:Nat) (r:Rng),q=j+1∧l[j]?=some r∧fr=r.hi+1∧0≤r.hi)∧0≤S∧S≤40 * fr∧fr≤1001∧Blk wr w.heap.size 24 #[.string ware,.int .i64 lim,.int .i64 by_,.slice A n k]∧Below w.heap.size w wr) (fun _ i _=>m-(intOf i).toNat)
 case atStart=>exact ⟨0,0,0,Nat.zero_le _,rfl,rfl,HS0.out,.inl ⟨rfl,rfl⟩,by omega,by omega,by omega,a5.out,a2.out⟩
 case round =>
  clear a2 b5 a5
  obtain ⟨q,S,fr,hq,rfl,rfl,hs,hz,hb1,hb2,hb3,hbc,hbe⟩:=hrel
  have HS:=hid hs;have HZ:=hid hz;clear hs hz
  have a1:=hid (hbc)
  have a0:=hid (hbe)
  clear hbc hbe
  by_cases hlt:q<m
  · have hlt':(q:Int)<m:=by omega
    obtain ⟨b9,o9,r,rfl,hb9,hx,e0,e1⟩:=RdG.get HL.out hlt
    have HB9:=hid hb9;have E0:=hid e0;have E1:=hid e1;have HX:=hid hx;clear hb9 e0 e1 hx
    have HST:=hid ((shS_step ps l q r HX.out fr S).symm.trans HS.out)
    have hD:=demV_le H40.out r.lo r.hi
    obtain ⟨Dm,hDm⟩:∃ D,demV ps r.lo r.hi=D:=⟨_,rfl⟩
    rw [hDm] at hD HST
    have HDM:=hid hDm;clear hDm
    obtain ⟨hD1,hD2⟩:=hD
    go_wp2
    by_cases k1:r.lo<0
    · have HRN:=hid (show shR res N=false by rw [← HST.out,if_pos (by have:=HZ.out;rcases this with ⟨-,rfl⟩|⟨j,r2,-,-,rfl,h⟩<;>omega)];rfl)
      replace a1:=kD a1
      replace a0:=bD a0
      refine wp_region_held_drew (S:=(fun W'=>Blk W' (w.heap.size) 24 #[.string ware,.int .i64 lim,.int .i64 by_,.slice A n k]∧Below w.heap.size w W')) (by kernel_rfl) ⟨a1.out,a0.out⟩ (fun _=>?_)
      obtain ⟨g1,a6⟩:∃ w',w'=(wr.drew):=⟨_,rfl⟩
      rw [← a6] at a1 a0
      rw [← a6]
      clear a6
      refine' twH 0 ⟨a1.out,a0.out⟩ ?_
      refine' twH 1 ⟨a1.out,a0.out⟩ ?_
      refine' twH 2 ⟨a1.out,a0.out⟩ ?_
      refine' twH 3 ⟨a1.out,a0.out⟩ ?_
      try simp only [pq]
      refine' tkH 4 ⟨a1.out,a0.out⟩ ?b7 ?_
      case b7=>(rintro W' ⟨hS0,hS1⟩;have hc0:=(Below.cell hS1 (p:=⟨b9,_,none⟩) HB9.out).trans E0.out;clear hS0 hS1;go_simp;try with_reducible rfl)
      refine' twH 5 ⟨a1.out,a0.out⟩ ?_
      refine' twH 6 ⟨a1.out,a0.out⟩ ?_
      refine' tkNH 7 ⟨a1.out,a0.out⟩ ?_
      try simp only [pq]
      refine' tkNH 8 ⟨a1.out,a0.out⟩ ?_
      refine' tkNH 9 ⟨a1.out,a0.out⟩ ?_
      refine' tkNH 10 ⟨a1.out,a0.out⟩ ?_
      refine' tkNH 11 ⟨a1.out,a0.out⟩ ?_
      try simp only [pq]
      refine' tkNH 12 ⟨a1.out,a0.out⟩ ?_
      refine' tkNH 13 ⟨a1.out,a0.out⟩ ?_
      refine' tkNH 14 ⟨a1.out,a0.out⟩ ?_
      refine' tkNH 15 ⟨a1.out,a0.out⟩ ?_
      try simp only [pq]
      refine' tkNH 16 ⟨a1.out,a0.out⟩ ?_
      refine' tkNH 17 ⟨a1.out,a0.out⟩ ?_
      refine' twH 18 ⟨a1.out,a0.out⟩ ?_
      refine' twH 19 ⟨a1.out,a0.out⟩ ?_
      try simp only [pq]
      refine' tkNH 20 ⟨a1.out,a0.out⟩ ?_
      refine' tkNH 21 ⟨a1.out,a0.out⟩ ?_
      refine' tkNH 22 ⟨a1.out,a0.out⟩ ?_
      refine' tkNH 23 ⟨a1.out,a0.out⟩ ?_
      try simp only [pq]
      refine' tkNH 24 ⟨a1.out,a0.out⟩ ?_
      refine' tkNH 25 ⟨a1.out,a0.out⟩ ?_
      refine' twH 26 ⟨a1.out,a0.out⟩ ?_
      refine' twH 27 ⟨a1.out,a0.out⟩ ?_
      try simp only [pq]
      refine' tkNH 28 ⟨a1.out,a0.out⟩ ?_
      refine' tkNH 29 ⟨a1.out,a0.out⟩ ?_
      refine' tkNH 30 ⟨a1.out,a0.out⟩ ?_
      refine' tkNH 31 ⟨a1.out,a0.out⟩ ?_
      try simp only [pq]
      refine' tkNH 32 ⟨a1.out,a0.out⟩ ?_
      refine' tkNH 33 ⟨a1.out,a0.out⟩ ?_
      refine' tkNH 34 ⟨a1.out,a0.out⟩ ?_
      refine' tkNH 35 ⟨a1.out,a0.out⟩ ?_
      try simp only [pq]
      refine' tkNH 36 ⟨a1.out,a0.out⟩ ?_
      refine' tkNH 37 ⟨a1.out,a0.out⟩ ?_
      refine' tkNH 38 ⟨a1.out,a0.out⟩ ?_
      refine' tkNH 39 ⟨a1.out,a0.out⟩ ?_
      try simp only [pq]
      refine' tkNH 40 ⟨a1.out,a0.out⟩ ?_
      refine' tkNH 41 ⟨a1.out,a0.out⟩ ?_
      refine' tkNH 42 ⟨a1.out,a0.out⟩ ?_
      refine' tkNH 43 ⟨a1.out,a0.out⟩ ?_
      try simp only [pq]
      refine' twH 44 ⟨a1.out,a0.out⟩ ?_
      try simp only [pq]
      refine wpAnyH_done (by kernel_rfl) ?_ _
      go_wp2
      go_ret2
      exact ⟨by rw [HRN.out];rfl,a0.out⟩
    · by_cases k2:r.hi<r.lo
      · have HRN:=hid (show shR res N=false by rw [← HST.out,if_pos (by have:=HZ.out;omega)];rfl)
        replace a1:=kD a1
        replace a0:=bD a0
        refine wp_region_held_drew (S:=(fun W'=>Blk W' (w.heap.size) 24 #[.string ware,.int .i64 lim,.int .i64 by_,.slice A n k]∧Below w.heap.size w W')) (by kernel_rfl) ⟨a1.out,a0.out⟩ (fun _=>?_)
        obtain ⟨g2,a7⟩:∃ w',w'=(wr.drew):=⟨_,rfl⟩
        rw [← a7] at a1 a0
        rw [← a7]
        clear a7
        refine' twH 0 ⟨a1.out,a0.out⟩ ?_
        refine' twH 1 ⟨a1.out,a0.out⟩ ?_
        refine' twH 2 ⟨a1.out,a0.out⟩ ?_
        refine' twH 3 ⟨a1.out,a0.out⟩ ?_
        try simp only [pq]
        refine' tkH 4 ⟨a1.out,a0.out⟩ ?b8 ?_
        case b8=>(rintro W' ⟨hS0,hS1⟩;have hc0:=(Below.cell hS1 (p:=⟨b9,_,none⟩) HB9.out).trans E0.out;clear hS0 hS1;go_simp;try with_reducible rfl)
        refine' twH 5 ⟨a1.out,a0.out⟩ ?_
        refine' twH 6 ⟨a1.out,a0.out⟩ ?_
        refine' twH 7 ⟨a1.out,a0.out⟩ ?_
        try simp only [pq]
        refine' twH 8 ⟨a1.out,a0.out⟩ ?_
        refine' twH 9 ⟨a1.out,a0.out⟩ ?_
        refine' twH 10 ⟨a1.out,a0.out⟩ ?_
        refine' tkH 11 ⟨a1.out,a0.out⟩ ?c0 ?_
        case c0=>(rintro W' ⟨hS0,hS1⟩;have hc0:=(Below.cell hS1 (p:=⟨b9,_,none⟩) HB9.out).trans E0.out;clear hS0 hS1;go_simp;try with_reducible rfl)
        try simp only [pq]
        refine' twH 12 ⟨a1.out,a0.out⟩ ?_
        refine' twH 13 ⟨a1.out,a0.out⟩ ?_
        refine' twH 14 ⟨a1.out,a0.out⟩ ?_
        refine' twH 15 ⟨a1.out,a0.out⟩ ?_
        try simp only [pq]
        refine' tkH 16 ⟨a1.out,a0.out⟩ ?c1 ?_
        case c1=>(rintro W' ⟨hS0,hS1⟩;have hc0:=(Below.cell hS1 (p:=⟨b9,_,none⟩) HB9.out).trans E1.out;clear hS0 hS1;go_simp;try with_reducible rfl)
        refine' twH 17 ⟨a1.out,a0.out⟩ ?_
        refine' twH 18 ⟨a1.out,a0.out⟩ ?_
        refine' twH 19 ⟨a1.out,a0.out⟩ ?_
        try simp only [pq]
        refine' tkNH 20 ⟨a1.out,a0.out⟩ ?_
        refine' tkNH 21 ⟨a1.out,a0.out⟩ ?_
        refine' tkNH 22 ⟨a1.out,a0.out⟩ ?_
        refine' tkNH 23 ⟨a1.out,a0.out⟩ ?_
        try simp only [pq]
        refine' tkNH 24 ⟨a1.out,a0.out⟩ ?_
        refine' tkNH 25 ⟨a1.out,a0.out⟩ ?_
        refine' twH 26 ⟨a1.out,a0.out⟩ ?_
        refine' twH 27 ⟨a1.out,a0.out⟩ ?_
        try simp only [pq]
        refine' tkNH 28 ⟨a1.out,a0.out⟩ ?_
        refine' tkNH 29 ⟨a1.out,a0.out⟩ ?_
        refine' tkNH 30 ⟨a1.out,a0.out⟩ ?_
        refine' tkNH 31 ⟨a1.out,a0.out⟩ ?_
        try simp only [pq]
        refine' tkNH 32 ⟨a1.out,a0.out⟩ ?_
        refine' tkNH 33 ⟨a1.out,a0.out⟩ ?_
        refine' tkNH 34 ⟨a1.out,a0.out⟩ ?_
        refine' tkNH 35 ⟨a1.out,a0.out⟩ ?_
        try simp only [pq]
        refine' tkNH 36 ⟨a1.out,a0.out⟩ ?_
        refine' tkNH 37 ⟨a1.out,a0.out⟩ ?_
        refine' tkNH 38 ⟨a1.out,a0.out⟩ ?_
        refine' tkNH 39 ⟨a1.out,a0.out⟩ ?_
        try simp only [pq]
        refine' tkNH 40 ⟨a1.out,a0.out⟩ ?_
        refine' tkNH 41 ⟨a1.out,a0.out⟩ ?_
        refine' tkNH 42 ⟨a1.out,a0.out⟩ ?_
        refine' tkNH 43 ⟨a1.out,a0.out⟩ ?_
        try simp only [pq]
        refine' twH 44 ⟨a1.out,a0.out⟩ ?_
        try simp only [pq]
        refine wpAnyH_done (by kernel_rfl) ?_ _
        go_wp2
        go_ret2
        exact ⟨by rw [HRN.out];rfl,a0.out⟩
      · by_cases k3:(1000:Int)<r.hi
        · have HRN:=hid (show shR res N=false by rw [← HST.out,if_pos (by have:=HZ.out;omega)];rfl)
          replace a1:=kD a1
          replace a0:=bD a0
          refine wp_region_held_drew (S:=(fun W'=>Blk W' (w.heap.size) 24 #[.string ware,.int .i64 lim,.int .i64 by_,.slice A n k]∧Below w.heap.size w W')) (by kernel_rfl) ⟨a1.out,a0.out⟩ (fun _=>?_)
          obtain ⟨g3,a8⟩:∃ w',w'=(wr.drew):=⟨_,rfl⟩
          rw [← a8] at a1 a0
          rw [← a8]
          clear a8
          refine' twH 0 ⟨a1.out,a0.out⟩ ?_
          refine' twH 1 ⟨a1.out,a0.out⟩ ?_
          refine' twH 2 ⟨a1.out,a0.out⟩ ?_
          refine' twH 3 ⟨a1.out,a0.out⟩ ?_
          try simp only [pq]
          refine' tkH 4 ⟨a1.out,a0.out⟩ ?c2 ?_
          case c2=>(rintro W' ⟨hS0,hS1⟩;have hc0:=(Below.cell hS1 (p:=⟨b9,_,none⟩) HB9.out).trans E0.out;clear hS0 hS1;go_simp;try with_reducible rfl)
          refine' twH 5 ⟨a1.out,a0.out⟩ ?_
          refine' twH 6 ⟨a1.out,a0.out⟩ ?_
          refine' twH 7 ⟨a1.out,a0.out⟩ ?_
          try simp only [pq]
          refine' twH 8 ⟨a1.out,a0.out⟩ ?_
          refine' twH 9 ⟨a1.out,a0.out⟩ ?_
          refine' twH 10 ⟨a1.out,a0.out⟩ ?_
          refine' tkH 11 ⟨a1.out,a0.out⟩ ?c3 ?_
          case c3=>(rintro W' ⟨hS0,hS1⟩;have hc0:=(Below.cell hS1 (p:=⟨b9,_,none⟩) HB9.out).trans E0.out;clear hS0 hS1;go_simp;try with_reducible rfl)
          try simp only [pq]
          refine' twH 12 ⟨a1.out,a0.out⟩ ?_
          refine' twH 13 ⟨a1.out,a0.out⟩ ?_
          refine' twH 14 ⟨a1.out,a0.out⟩ ?_
          refine' twH 15 ⟨a1.out,a0.out⟩ ?_
          try simp only [pq]
          refine' tkH 16 ⟨a1.out,a0.out⟩ ?c4 ?_
          case c4=>(rintro W' ⟨hS0,hS1⟩;have hc0:=(Below.cell hS1 (p:=⟨b9,_,none⟩) HB9.out).trans E1.out;clear hS0 hS1;go_simp;try with_reducible rfl)
          refine' twH 17 ⟨a1.out,a0.out⟩ ?_
          refine' twH 18 ⟨a1.out,a0.out⟩ ?_
          refine' twH 19 ⟨a1.out,a0.out⟩ ?_
          try simp only [pq]
          refine' twH 20 ⟨a1.out,a0.out⟩ ?_
          refine' twH 21 ⟨a1.out,a0.out⟩ ?_
          refine' twH 22 ⟨a1.out,a0.out⟩ ?_
          refine' twH 23 ⟨a1.out,a0.out⟩ ?_
          try simp only [pq]
          refine' tkH 24 ⟨a1.out,a0.out⟩ ?c5 ?_
          case c5=>(rintro W' ⟨hS0,hS1⟩;have hc0:=(Below.cell hS1 (p:=⟨b9,_,none⟩) HB9.out).trans E1.out;clear hS0 hS1;go_simp;try with_reducible rfl)
          refine' twH 25 ⟨a1.out,a0.out⟩ ?_
          refine' twH 26 ⟨a1.out,a0.out⟩ ?_
          refine' twH 27 ⟨a1.out,a0.out⟩ ?_
          try simp only [pq]
          refine' tkNH 28 ⟨a1.out,a0.out⟩ ?_
          refine' tkNH 29 ⟨a1.out,a0.out⟩ ?_
          refine' tkNH 30 ⟨a1.out,a0.out⟩ ?_
          refine' tkNH 31 ⟨a1.out,a0.out⟩ ?_
          try simp only [pq]
          refine' tkNH 32 ⟨a1.out,a0.out⟩ ?_
          refine' tkNH 33 ⟨a1.out,a0.out⟩ ?_
          refine' tkNH 34 ⟨a1.out,a0.out⟩ ?_
          refine' tkNH 35 ⟨a1.out,a0.out⟩ ?_
          try simp only [pq]
          refine' tkNH 36 ⟨a1.out,a0.out⟩ ?_
          refine' tkNH 37 ⟨a1.out,a0.out⟩ ?_
          refine' tkNH 38 ⟨a1.out,a0.out⟩ ?_
          refine' tkNH 39 ⟨a1.out,a0.out⟩ ?_
          try simp only [pq]
          refine' tkNH 40 ⟨a1.out,a0.out⟩ ?_
          refine' tkNH 41 ⟨a1.out,a0.out⟩ ?_
          refine' tkNH 42 ⟨a1.out,a0.out⟩ ?_
          refine' tkNH 43 ⟨a1.out,a0.out⟩ ?_
          try simp only [pq]
          refine' twH 44 ⟨a1.out,a0.out⟩ ?_
          try simp only [pq]
          refine wpAnyH_done (by kernel_rfl) ?_ _
          go_wp2
          go_ret2
          exact ⟨by rw [HRN.out];rfl,a0.out⟩
        · rcases Nat.eq_zero_or_pos q with hk0|hk0
          · subst hk0
            have hfr:fr=0:=by rcases HZ.out with ⟨-,h⟩|⟨j,u,h,-⟩;exact h;omega
            subst hfr
            have HNX:=hid (show shS ps (l.drop (0+1)) (r.hi+1) (S+Dm)=res by have:=HST.out;rw [if_neg (by omega)] at this;exact this)
            replace a1:=kD a1
            replace a0:=bD a0
            refine wp_region_held_drew (S:=(fun W'=>Blk W' (w.heap.size) 24 #[.string ware,.int .i64 lim,.int .i64 by_,.slice A n k]∧Below w.heap.size w W')) (by kernel_rfl) ⟨a1.out,a0.out⟩ (fun _=>?_)
            obtain ⟨e9,a9⟩:∃ w',w'=(wr.drew):=⟨_,rfl⟩
            rw [← a9] at a1 a0
            rw [← a9]
            clear a9
            refine' twH 0 ⟨a1.out,a0.out⟩ ?_
            refine' twH 1 ⟨a1.out,a0.out⟩ ?_
            refine' twH 2 ⟨a1.out,a0.out⟩ ?_
            refine' twH 3 ⟨a1.out,a0.out⟩ ?_
            try simp only [pq]
            refine' tkH 4 ⟨a1.out,a0.out⟩ ?c6 ?_
            case c6=>(rintro W' ⟨hS0,hS1⟩;have hc0:=(Below.cell hS1 (p:=⟨b9,_,none⟩) HB9.out).trans E0.out;simp only [Nat.zero_mul,Nat.add_zero,Nat.zero_add] at hc0;clear hS0 hS1;go_simp;try with_reducible rfl)
            refine' twH 5 ⟨a1.out,a0.out⟩ ?_
            refine' twH 6 ⟨a1.out,a0.out⟩ ?_
            refine' twH 7 ⟨a1.out,a0.out⟩ ?_
            try simp only [pq]
            refine' twH 8 ⟨a1.out,a0.out⟩ ?_
            refine' twH 9 ⟨a1.out,a0.out⟩ ?_
            refine' twH 10 ⟨a1.out,a0.out⟩ ?_
            refine' tkH 11 ⟨a1.out,a0.out⟩ ?c7 ?_
            case c7=>(rintro W' ⟨hS0,hS1⟩;have hc0:=(Below.cell hS1 (p:=⟨b9,_,none⟩) HB9.out).trans E0.out;simp only [Nat.zero_mul,Nat.add_zero,Nat.zero_add] at hc0;clear hS0 hS1;go_simp;try with_reducible rfl)
            try simp only [pq]
            refine' twH 12 ⟨a1.out,a0.out⟩ ?_
            refine' twH 13 ⟨a1.out,a0.out⟩ ?_
            refine' twH 14 ⟨a1.out,a0.out⟩ ?_
            refine' twH 15 ⟨a1.out,a0.out⟩ ?_
            try simp only [pq]
            refine' tkH 16 ⟨a1.out,a0.out⟩ ?c8 ?_
            case c8=>(rintro W' ⟨hS0,hS1⟩;have hc0:=(Below.cell hS1 (p:=⟨b9,_,none⟩) HB9.out).trans E1.out;simp only [Nat.zero_mul,Nat.add_zero,Nat.zero_add] at hc0;clear hS0 hS1;go_simp;try with_reducible rfl)
            refine' twH 17 ⟨a1.out,a0.out⟩ ?_
            refine' twH 18 ⟨a1.out,a0.out⟩ ?_
            refine' twH 19 ⟨a1.out,a0.out⟩ ?_
            try simp only [pq]
            refine' twH 20 ⟨a1.out,a0.out⟩ ?_
            refine' twH 21 ⟨a1.out,a0.out⟩ ?_
            refine' twH 22 ⟨a1.out,a0.out⟩ ?_
            refine' twH 23 ⟨a1.out,a0.out⟩ ?_
            try simp only [pq]
            refine' tkH 24 ⟨a1.out,a0.out⟩ ?c9 ?_
            case c9=>(rintro W' ⟨hS0,hS1⟩;have hc0:=(Below.cell hS1 (p:=⟨b9,_,none⟩) HB9.out).trans E1.out;simp only [Nat.zero_mul,Nat.add_zero,Nat.zero_add] at hc0;clear hS0 hS1;go_simp;try with_reducible rfl)
            refine' twH 25 ⟨a1.out,a0.out⟩ ?_
            refine' twH 26 ⟨a1.out,a0.out⟩ ?_
            refine' twH 27 ⟨a1.out,a0.out⟩ ?_
            try simp only [pq]
            refine' twH 28 ⟨a1.out,a0.out⟩ ?_
            refine' twH 29 ⟨a1.out,a0.out⟩ ?_
            refine' twH 30 ⟨a1.out,a0.out⟩ ?_
            refine' tkNH 31 ⟨a1.out,a0.out⟩ ?_
            try simp only [pq]
            refine' tkNH 32 ⟨a1.out,a0.out⟩ ?_
            refine' tkNH 33 ⟨a1.out,a0.out⟩ ?_
            refine' tkNH 34 ⟨a1.out,a0.out⟩ ?_
            refine' tkNH 35 ⟨a1.out,a0.out⟩ ?_
            try simp only [pq]
            refine' tkNH 36 ⟨a1.out,a0.out⟩ ?_
            refine' tkNH 37 ⟨a1.out,a0.out⟩ ?_
            refine' tkNH 38 ⟨a1.out,a0.out⟩ ?_
            refine' tkNH 39 ⟨a1.out,a0.out⟩ ?_
            try simp only [pq]
            refine' tkNH 40 ⟨a1.out,a0.out⟩ ?_
            refine' tkNH 41 ⟨a1.out,a0.out⟩ ?_
            refine' tkNH 42 ⟨a1.out,a0.out⟩ ?_
            refine' twH 43 ⟨a1.out,a0.out⟩ ?_
            try simp only [pq]
            refine' twH 44 ⟨a1.out,a0.out⟩ ?_
            try simp only [pq]
            refine wpAnyH_done (by kernel_rfl) ?_ _
            go_wp2
            have hSw:IntKind.i64.wrap (S+Dm)=S+Dm:=IntWalk.i64_in _ (by omega)
            replace a1:=kD a1
            replace a0:=bD a0
            refine wp_region_held_drew (S:=(fun W'=>Blk W' (w.heap.size) 24 #[.string ware,.int .i64 lim,.int .i64 by_,.slice A n k]∧Below w.heap.size w W')) (by kernel_rfl) ⟨a1.out,a0.out⟩ (fun _=>?_)
            obtain ⟨f0,b0⟩:∃ w',w'=(e9.drew):=⟨_,rfl⟩
            rw [← b0] at a1 a0
            rw [← b0]
            clear b0
            refine' twH 0 ⟨a1.out,a0.out⟩ ?_
            refine' twH 1 ⟨a1.out,a0.out⟩ ?_
            refine' tkH 2 ⟨a1.out,a0.out⟩ ?d0 ?_
            case d0=>(rintro W' ⟨hS0,hS1⟩;have hc0:=Blk.nth hS0 3;clear hS0 hS1;go_simp;try with_reducible rfl)
            refine' twH 3 ⟨a1.out,a0.out⟩ ?_
            try simp only [pq]
            refine' twH 4 ⟨a1.out,a0.out⟩ ?_
            refine' twH 5 ⟨a1.out,a0.out⟩ ?_
            refine' tkH 6 ⟨a1.out,a0.out⟩ ?d1 ?_
            case d1=>(rintro W' ⟨hS0,hS1⟩;have hc0:=(Below.cell hS1 (p:=⟨b9,_,none⟩) HB9.out).trans E0.out;have hc1:=(Below.cell hS1 (p:=⟨b9,_,none⟩) HB9.out).trans E1.out;simp only [Nat.zero_mul,Nat.add_zero,Nat.zero_add] at hc0 hc1;clear hS0 hS1;go_simp;try with_reducible rfl)
            try simp only [pq]
            refine oneH 7 rfl fun K hK=>?_
            go_simp
            go_at_call 91
            refine (xdemand_is A n k ps r.lo r.hi (f0) (HR.out.below a0.out) hn Dm HDM.out).mono ?_
            rintro e g4 ⟨rfl,a3⟩
            dsimp only
            replace a3:=hid a3
            replace a1:=kH a1 a3
            replace a0:=bH a0 a3
            refine hK.out _ _ ⟨a1.out,a0.out⟩ (fun _=>?_);clear hK K
            try simp only [pq]
            refine' twH 8 ⟨a1.out,a0.out⟩ ?_
            refine' twH 9 ⟨a1.out,a0.out⟩ ?_
            try simp only [pq]
            refine wpAnyH_done (by kernel_rfl) ?_ _
            go_wp2
            go_roundw
            case rel=>exact ⟨0+1,S+Dm,r.hi+1,by omega,by go_num,by go_num,HNX.out,.inr ⟨0,r,rfl,HX.out,rfl,by omega⟩,by omega,by omega,by omega,a1.out,a0.out⟩
            case measure=>simp [intOf];omega
          · obtain ⟨j,r2,rfl,hxu,rfl,hu⟩:∃ (j:Nat) (r2:Rng),q=j+1∧l[j]?=some r2∧fr=r2.hi+1∧0≤r2.hi:=by rcases HZ.out with ⟨h,-⟩|h;omega;exact h
            obtain ⟨b2,o2,u2,hA2,-,hx2,-,e2⟩:=RdG.get HL.out (q:=j) (by omega)
            injection hA2 with hA2;injection hA2 with hA3 hA4;subst hA3 hA4
            obtain rfl:u2=r2:=by rw [hxu] at hx2;injection hx2 with hx2;exact hx2.symm
            have HU:=hid e2;clear e2 hx2 hxu
            have hj1:(((j+1:Nat):Int)-1)=(j:Int):=by omega
            have hj3:(0:Int)≤(j:Int)+1:=by omega
            have hj4:(j:Int)+1<m:=by omega
            have hj2:(j:Int)<m:=by omega
            have hjw:IntKind.i64.wrap (j:Int)=(j:Int):=IntWalk.i64_in _ (by omega)
            by_cases k4:r.lo≤u2.hi
            · have HRN:=hid (show shR res N=false by rw [← HST.out,if_pos (by omega)];rfl)
              replace a1:=kD a1
              replace a0:=bD a0
              refine wp_region_held_drew (S:=(fun W'=>Blk W' (w.heap.size) 24 #[.string ware,.int .i64 lim,.int .i64 by_,.slice A n k]∧Below w.heap.size w W')) (by kernel_rfl) ⟨a1.out,a0.out⟩ (fun _=>?_)
              obtain ⟨g5,b1⟩:∃ w',w'=(wr.drew):=⟨_,rfl⟩
              rw [← b1] at a1 a0
              rw [← b1]
              clear b1
              refine' twH 0 ⟨a1.out,a0.out⟩ ?_
              refine' twH 1 ⟨a1.out,a0.out⟩ ?_
              refine' twH 2 ⟨a1.out,a0.out⟩ ?_
              refine' twH 3 ⟨a1.out,a0.out⟩ ?_
              try simp only [pq]
              refine' tkH 4 ⟨a1.out,a0.out⟩ ?d2 ?_
              case d2=>(rintro W' ⟨hS0,hS1⟩;have hc0:=(Below.cell hS1 (p:=⟨b9,_,none⟩) HB9.out).trans E0.out;clear hS0 hS1;go_simp;try with_reducible rfl)
              refine' twH 5 ⟨a1.out,a0.out⟩ ?_
              refine' twH 6 ⟨a1.out,a0.out⟩ ?_
              refine' twH 7 ⟨a1.out,a0.out⟩ ?_
              try simp only [pq]
              refine' twH 8 ⟨a1.out,a0.out⟩ ?_
              refine' twH 9 ⟨a1.out,a0.out⟩ ?_
              refine' twH 10 ⟨a1.out,a0.out⟩ ?_
              refine' tkH 11 ⟨a1.out,a0.out⟩ ?d3 ?_
              case d3=>(rintro W' ⟨hS0,hS1⟩;have hc0:=(Below.cell hS1 (p:=⟨b9,_,none⟩) HB9.out).trans E0.out;clear hS0 hS1;go_simp;try with_reducible rfl)
              try simp only [pq]
              refine' twH 12 ⟨a1.out,a0.out⟩ ?_
              refine' twH 13 ⟨a1.out,a0.out⟩ ?_
              refine' twH 14 ⟨a1.out,a0.out⟩ ?_
              refine' twH 15 ⟨a1.out,a0.out⟩ ?_
              try simp only [pq]
              refine' tkH 16 ⟨a1.out,a0.out⟩ ?d4 ?_
              case d4=>(rintro W' ⟨hS0,hS1⟩;have hc0:=(Below.cell hS1 (p:=⟨b9,_,none⟩) HB9.out).trans E1.out;clear hS0 hS1;go_simp;try with_reducible rfl)
              refine' twH 17 ⟨a1.out,a0.out⟩ ?_
              refine' twH 18 ⟨a1.out,a0.out⟩ ?_
              refine' twH 19 ⟨a1.out,a0.out⟩ ?_
              try simp only [pq]
              refine' twH 20 ⟨a1.out,a0.out⟩ ?_
              refine' twH 21 ⟨a1.out,a0.out⟩ ?_
              refine' twH 22 ⟨a1.out,a0.out⟩ ?_
              refine' twH 23 ⟨a1.out,a0.out⟩ ?_
              try simp only [pq]
              refine' tkH 24 ⟨a1.out,a0.out⟩ ?d5 ?_
              case d5=>(rintro W' ⟨hS0,hS1⟩;have hc0:=(Below.cell hS1 (p:=⟨b9,_,none⟩) HB9.out).trans E1.out;clear hS0 hS1;go_simp;try with_reducible rfl)
              refine' twH 25 ⟨a1.out,a0.out⟩ ?_
              refine' twH 26 ⟨a1.out,a0.out⟩ ?_
              refine' twH 27 ⟨a1.out,a0.out⟩ ?_
              try simp only [pq]
              refine' twH 28 ⟨a1.out,a0.out⟩ ?_
              refine' twH 29 ⟨a1.out,a0.out⟩ ?_
              refine' twH 30 ⟨a1.out,a0.out⟩ ?_
              refine' twH 31 ⟨a1.out,a0.out⟩ ?_
              try simp only [pq]
              refine' twH 32 ⟨a1.out,a0.out⟩ ?_
              refine' twH 33 ⟨a1.out,a0.out⟩ ?_
              refine' twH 34 ⟨a1.out,a0.out⟩ ?_
              refine' twH 35 ⟨a1.out,a0.out⟩ ?_
              try simp only [pq]
              refine' tkH 36 ⟨a1.out,a0.out⟩ ?d6 ?_
              case d6=>(rintro W' ⟨hS0,hS1⟩;have hc0:=(Below.cell hS1 (p:=⟨b9,_,none⟩) HB9.out).trans HU.out;clear hS0 hS1;go_simp;try with_reducible rfl)
              refine' twH 37 ⟨a1.out,a0.out⟩ ?_
              refine' twH 38 ⟨a1.out,a0.out⟩ ?_
              refine' twH 39 ⟨a1.out,a0.out⟩ ?_
              try simp only [pq]
              refine' twH 40 ⟨a1.out,a0.out⟩ ?_
              refine' tkH 41 ⟨a1.out,a0.out⟩ ?d7 ?_
              case d7=>(rintro W' ⟨hS0,hS1⟩;have hc0:=(Below.cell hS1 (p:=⟨b9,_,none⟩) HB9.out).trans E0.out;clear hS0 hS1;go_simp;try with_reducible rfl)
              refine' twH 42 ⟨a1.out,a0.out⟩ ?_
              refine' twH 43 ⟨a1.out,a0.out⟩ ?_
              try simp only [pq]
              refine' twH 44 ⟨a1.out,a0.out⟩ ?_
              try simp only [pq]
              refine wpAnyH_done (by kernel_rfl) ?_ _
              go_wp2
              go_ret2
              exact ⟨by rw [HRN.out];rfl,a0.out⟩
            · have HNX:=hid (show shS ps (l.drop (j+1+1)) (r.hi+1) (S+Dm)=res by have:=HST.out;rw [if_neg (by omega)] at this;exact this)
              replace a1:=kD a1
              replace a0:=bD a0
              refine wp_region_held_drew (S:=(fun W'=>Blk W' (w.heap.size) 24 #[.string ware,.int .i64 lim,.int .i64 by_,.slice A n k]∧Below w.heap.size w W')) (by kernel_rfl) ⟨a1.out,a0.out⟩ (fun _=>?_)
              obtain ⟨f1,b3⟩:∃ w',w'=(wr.drew):=⟨_,rfl⟩
              rw [← b3] at a1 a0
              rw [← b3]
              clear b3
              refine' twH 0 ⟨a1.out,a0.out⟩ ?_
              refine' twH 1 ⟨a1.out,a0.out⟩ ?_
              refine' twH 2 ⟨a1.out,a0.out⟩ ?_
              refine' twH 3 ⟨a1.out,a0.out⟩ ?_
              try simp only [pq]
              refine' tkH 4 ⟨a1.out,a0.out⟩ ?d8 ?_
              case d8=>(rintro W' ⟨hS0,hS1⟩;have hc0:=(Below.cell hS1 (p:=⟨b9,_,none⟩) HB9.out).trans E0.out;clear hS0 hS1;go_simp;try with_reducible rfl)
              refine' twH 5 ⟨a1.out,a0.out⟩ ?_
              refine' twH 6 ⟨a1.out,a0.out⟩ ?_
              refine' twH 7 ⟨a1.out,a0.out⟩ ?_
              try simp only [pq]
              refine' twH 8 ⟨a1.out,a0.out⟩ ?_
              refine' twH 9 ⟨a1.out,a0.out⟩ ?_
              refine' twH 10 ⟨a1.out,a0.out⟩ ?_
              refine' tkH 11 ⟨a1.out,a0.out⟩ ?d9 ?_
              case d9=>(rintro W' ⟨hS0,hS1⟩;have hc0:=(Below.cell hS1 (p:=⟨b9,_,none⟩) HB9.out).trans E0.out;clear hS0 hS1;go_simp;try with_reducible rfl)
              try simp only [pq]
              refine' twH 12 ⟨a1.out,a0.out⟩ ?_
              refine' twH 13 ⟨a1.out,a0.out⟩ ?_
              refine' twH 14 ⟨a1.out,a0.out⟩ ?_
              refine' twH 15 ⟨a1.out,a0.out⟩ ?_
              try simp only [pq]
              refine' tkH 16 ⟨a1.out,a0.out⟩ ?e3 ?_
              case e3=>(rintro W' ⟨hS0,hS1⟩;have hc0:=(Below.cell hS1 (p:=⟨b9,_,none⟩) HB9.out).trans E1.out;clear hS0 hS1;go_simp;try with_reducible rfl)
              refine' twH 17 ⟨a1.out,a0.out⟩ ?_
              refine' twH 18 ⟨a1.out,a0.out⟩ ?_
              refine' twH 19 ⟨a1.out,a0.out⟩ ?_
              try simp only [pq]
              refine' twH 20 ⟨a1.out,a0.out⟩ ?_
              refine' twH 21 ⟨a1.out,a0.out⟩ ?_
              refine' twH 22 ⟨a1.out,a0.out⟩ ?_
              refine' twH 23 ⟨a1.out,a0.out⟩ ?_
              try simp only [pq]
              refine' tkH 24 ⟨a1.out,a0.out⟩ ?e4 ?_
              case e4=>(rintro W' ⟨hS0,hS1⟩;have hc0:=(Below.cell hS1 (p:=⟨b9,_,none⟩) HB9.out).trans E1.out;clear hS0 hS1;go_simp;try with_reducible rfl)
              refine' twH 25 ⟨a1.out,a0.out⟩ ?_
              refine' twH 26 ⟨a1.out,a0.out⟩ ?_
              refine' twH 27 ⟨a1.out,a0.out⟩ ?_
              try simp only [pq]
              refine' twH 28 ⟨a1.out,a0.out⟩ ?_
              refine' twH 29 ⟨a1.out,a0.out⟩ ?_
              refine' twH 30 ⟨a1.out,a0.out⟩ ?_
              refine' twH 31 ⟨a1.out,a0.out⟩ ?_
              try simp only [pq]
              refine' twH 32 ⟨a1.out,a0.out⟩ ?_
              refine' twH 33 ⟨a1.out,a0.out⟩ ?_
              refine' twH 34 ⟨a1.out,a0.out⟩ ?_
              refine' twH 35 ⟨a1.out,a0.out⟩ ?_
              try simp only [pq]
              refine' tkH 36 ⟨a1.out,a0.out⟩ ?e5 ?_
              case e5=>(rintro W' ⟨hS0,hS1⟩;have hc0:=(Below.cell hS1 (p:=⟨b9,_,none⟩) HB9.out).trans HU.out;clear hS0 hS1;go_simp;try with_reducible rfl)
              refine' twH 37 ⟨a1.out,a0.out⟩ ?_
              refine' twH 38 ⟨a1.out,a0.out⟩ ?_
              refine' twH 39 ⟨a1.out,a0.out⟩ ?_
              try simp only [pq]
              refine' twH 40 ⟨a1.out,a0.out⟩ ?_
              refine' tkH 41 ⟨a1.out,a0.out⟩ ?e6 ?_
              case e6=>(rintro W' ⟨hS0,hS1⟩;have hc0:=(Below.cell hS1 (p:=⟨b9,_,none⟩) HB9.out).trans E0.out;clear hS0 hS1;go_simp;try with_reducible rfl)
              refine' twH 42 ⟨a1.out,a0.out⟩ ?_
              refine' twH 43 ⟨a1.out,a0.out⟩ ?_
              try simp only [pq]
              refine' twH 44 ⟨a1.out,a0.out⟩ ?_
              try simp only [pq]
              refine wpAnyH_done (by kernel_rfl) ?_ _
              go_wp2
              have hSw:IntKind.i64.wrap (S+Dm)=S+Dm:=IntWalk.i64_in _ (by omega)
              replace a1:=kD a1
              replace a0:=bD a0
              refine wp_region_held_drew (S:=(fun W'=>Blk W' (w.heap.size) 24 #[.string ware,.int .i64 lim,.int .i64 by_,.slice A n k]∧Below w.heap.size w W')) (by kernel_rfl) ⟨a1.out,a0.out⟩ (fun _=>?_)
              obtain ⟨f2,b4⟩:∃ w',w'=(f1.drew):=⟨_,rfl⟩
              rw [← b4] at a1 a0
              rw [← b4]
              clear b4
              refine' twH 0 ⟨a1.out,a0.out⟩ ?_
              refine' twH 1 ⟨a1.out,a0.out⟩ ?_
              refine' tkH 2 ⟨a1.out,a0.out⟩ ?e7 ?_
              case e7=>(rintro W' ⟨hS0,hS1⟩;have hc0:=Blk.nth hS0 3;clear hS0 hS1;go_simp;try with_reducible rfl)
              refine' twH 3 ⟨a1.out,a0.out⟩ ?_
              try simp only [pq]
              refine' twH 4 ⟨a1.out,a0.out⟩ ?_
              refine' twH 5 ⟨a1.out,a0.out⟩ ?_
              refine' tkH 6 ⟨a1.out,a0.out⟩ ?e8 ?_
              case e8=>(rintro W' ⟨hS0,hS1⟩;have hc0:=(Below.cell hS1 (p:=⟨b9,_,none⟩) HB9.out).trans E0.out;have hc1:=(Below.cell hS1 (p:=⟨b9,_,none⟩) HB9.out).trans E1.out;clear hS0 hS1;go_simp;try with_reducible rfl)
              try simp only [pq]
              refine oneH 7 rfl fun K hK=>?_
              go_simp
              go_at_call 91
              refine (xdemand_is A n k ps r.lo r.hi (f2) (HR.out.below a0.out) hn Dm HDM.out).mono ?_
              rintro e g6 ⟨rfl,a4⟩
              dsimp only
              replace a4:=hid a4
              replace a1:=kH a1 a4
              replace a0:=bH a0 a4
              refine hK.out _ _ ⟨a1.out,a0.out⟩ (fun _=>?_);clear hK K
              try simp only [pq]
              refine' twH 8 ⟨a1.out,a0.out⟩ ?_
              refine' twH 9 ⟨a1.out,a0.out⟩ ?_
              try simp only [pq]
              refine wpAnyH_done (by kernel_rfl) ?_ _
              go_wp2
              go_roundw
              case rel=>exact ⟨j+1+1,S+Dm,r.hi+1,by omega,by go_num,by go_num,HNX.out,.inr ⟨j+1,r,rfl,HX.out,rfl,by omega⟩,by omega,by omega,by omega,a1.out,a0.out⟩
              case measure=>simp [intOf];omega
  · obtain rfl:m=q:=by omega
    have hln:=HL.out.len
    have HRS:=hid (show res=some S by rw [← HS.out,List.drop_of_length_le (by omega)];rfl);clear hln
    by_cases hN:N≤S
    · have HRN:=hid (show shR res N=true by rw [HRS.out];exact decide_eq_true hN)
      have hN2:decide (N≤S)=true:=decide_eq_true hN
      go_wp2
      go_ret2
      exact ⟨by rw [HRN.out];rfl,a0.out⟩
    · have HRN:=hid (show shR res N=false by rw [HRS.out];exact decide_eq_false hN)
      have hN2:decide (N≤S)=false:=decide_eq_false hN
      go_wp2
      go_ret2
      exact ⟨by rw [HRN.out];rfl,a0.out⟩
end Go.Proofs.YtokpblmgdmokoaaGreat
