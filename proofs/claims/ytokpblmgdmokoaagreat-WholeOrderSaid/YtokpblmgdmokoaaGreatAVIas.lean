import Derived.Test.YtokpblmgdmokoaaGreatAVCks
set_option linter.unusedSimpArgs false
set_option linter.unusedVariables false
namespace Go.Proofs.YtokpblmgdmokoaaGreat
open Go.Lib (hid)
open Go.RowKit Go.Maps Go.Shelf
def rowA (ps:List Prt) (l:List Int) (a:Nat) (x:Int) (b:Nat):Bool:=(List.range b).any fun i=>decide (l.getD i 0=x)&&clN ps a i
theorem rowA_succ (ps:List Prt) (l:List Int) (a:Nat) (x:Int) (b:Nat):rowA ps l a x (b+1)=(rowA ps l a x b || (decide (l.getD b 0=x)&&clN ps a b)):=by
 unfold rowA
 rw [List.range_succ,List.any_append]
 simp
theorem rowA_hit {ps:List Prt} {l:List Int} {a:Nat} {x:Int} {b m:Nat} (hb:b<m) (h:(decide (l.getD b 0=x)&&clN ps a b)=true):rowA ps l a x m=true:=by
 unfold rowA
 rw [List.any_eq_true]
 exact ⟨b,List.mem_range.2 hb,h⟩
def asS (ps:List Prt) (l:List Int):Nat→Nat→Int→Option Int
 | 0,_,v=>some v
 | r+1,a,v=>if l.getD a 0<0∨v<l.getD a 0 then none else if rowA ps l a (l.getD a 0) a then none else asS ps l r (a+1) (max v (l.getD a 0+1))
def isAB (ps:List Prt) (lim:Int) (l:List Int):Bool:=decide (l.length=ps.length)&&(match asS ps l ps.length 0 0 with|none=>false|some v=>decide (lim=0) || decide (v≤lim))
theorem asS_succ (ps:List Prt) (l:List Int) (r a:Nat) (v:Int):asS ps l (r+1) a v=if l.getD a 0<0∨v<l.getD a 0 then none else if rowA ps l a (l.getD a 0) a then none else asS ps l r (a+1) (max v (l.getD a 0+1)):=rfl
set_option maxRecDepth 100000 in
set_option maxHeartbeats 4000000 in
theorem isAssign_any (g:Nat) (ware:ByteArray) (lim by_:Int) (A:Option Addr) (n k:Nat) (ps:List Prt) (B:Option Addr) (m d:Nat) (l:List Int) (w:World) (hv:Vw w g ware lim by_ A n k ps) (hl:RdI w B m d l) (hm:m≤maxLen):Calls Tryz.prog 101 #[.pointer (some ⟨g,0,none⟩),.slice B m d] w fun e w'=>e=.returned (.bool (isAB ps lim l))∧w=w':=by
 have h40:=hv.len
 have hmx:=hm;unfold maxLen at hmx
 have HPL:=hid hv.prt.len
 have HV:=hid hv;have HL:=hid hl;clear hv hl
 go_enter Tryz.func101,Tryz.ntmps101
 obtain ⟨-,v1,-,v3⟩:=HV.out.cells
 have hvl:=HV.out.lt
 by_cases hmn:m=n
 · subst hmn
   have hmz:((m:Int) != (m:Int))=false:=by simp
   go_wp2
   clear v1 v3 hvl
   go_loopw [20,5] (fun s20 s5 wr=>∃ (q:Nat) (v:Int),s20=.int .i64 q∧s5=.int .i64 v∧q≤m∧asS ps l (m-q) q v=asS ps l m 0 0∧0≤v∧v≤q∧w=wr) (fun s20 _ _=>m-(intOf s20).toNat)
   case atStart=>exact ⟨0,0,rfl,rfl,Nat.zero_le _,rfl,by omega,by omega,rfl⟩
   case round =>
    obtain ⟨q,v,rfl,rfl,hq,has,hv0,hv1,rfl⟩:=hrel
    have HAS:=hid has;clear has
    by_cases hlt:q<m
    · have hlt':(q:Int)<m:=by omega
      obtain ⟨b9,o9,x,hB,hb9,hx,e0⟩:=RdI.get HL.out hlt
      subst hB
      have HX:=hid (show l.getD q 0=x by rw [List.getD_eq_getElem?_getD,hx];rfl);clear hx
      obtain ⟨r,hr⟩:∃ r,m-q=r+1:=⟨m-q-1,by omega⟩
      have hr2:m-(q+1)=r:=by omega
      have HST:=hid (show asS ps l m 0 0=if x<0∨v<x then none else if rowA ps l q x q then none else asS ps l r (q+1) (max v (x+1)) by rw [← HAS.out,hr,asS_succ,HX.out]);clear hr
      have HR2:=hid hr2;clear hr2
      by_cases h1:x<0
      · have HN:=hid (show asS ps l m 0 0=none by rw [HST.out];exact if_pos (Or.inl h1))
        go_wp2
        go_ret
        exact ⟨ret_bool (by unfold isAB;rw [HPL.out,HN.out,HL.out.len];simp),rfl⟩
      · by_cases h2:v<x
        · have h2':x > v:=h2
          have HN:=hid (show asS ps l m 0 0=none by rw [HST.out];exact if_pos (Or.inr h2))
          go_wp2
          go_ret
          exact ⟨ret_bool (by unfold isAB;rw [HPL.out,HN.out,HL.out.len];simp),rfl⟩
        · have h2':¬ x > v:=h2
          have HST2:=hid (HST.out.trans (if_neg (fun h=>h.elim h1 h2)));clear HST
          obtain ⟨X,hX⟩:∃ z,max v (x+1)=z:=⟨_,rfl⟩
          have hX7:(if v<x+1 then x+1 else v)=X:=by rw [← hX];split<;>omega
          have hx1:IntKind.i64.wrap (x+1)=x+1:=by rw [IntKind.wrap_i64];omega
          have hXb:0≤X∧X≤q+1:=by omega
          have HXX:=hid hX
          go_wp2
          clear e0 hX hX7 hx1
          go_loopw [37] (fun s37 wr=>∃ r:Nat,s37=.int .i64 r∧r≤q∧rowA ps l q x r=false∧w=wr) (fun s37 _=>q-(intOf s37).toNat)
          case atStart=>exact ⟨0,rfl,Nat.zero_le _,rfl,rfl⟩
          case round =>
           obtain ⟨t,rfl,ht,hrow,rfl⟩:=hrel
           have HROW:=hid hrow;clear hrow
           by_cases htq:t<q
           · have htq':(t:Int)<q:=by omega
             have htm:(t:Int)<m:=by omega
             obtain ⟨b8,o8,y,hA,hb8,hy,e1⟩:=RdI.get HL.out (k:=t) (by omega)
             injection hA with hA;injection hA with hA1 hA2;subst hA1 hA2
             have HY:=hid (show l.getD t 0=y by rw [List.getD_eq_getElem?_getD,hy];rfl);clear hy
             have HRS:=hid (rowA_succ ps l q x t)
             by_cases hyx:y=x
             · have hyz:(y == x)=true:=by simpa using hyx
               cases hcl:clN ps q t
               · have HCL:=hid hcl;clear hcl
                 have HYX:=hid (show decide (l.getD t 0=x)=true by rw [HY.out];exact decide_eq_true hyx)
                 have hc_:=clash_any HV.out (show q<m by omega) (show t<m by omega)
                 rw [HCL.out] at hc_
                 have HC:=hid hc_;clear hc_
                 go_wp2_with fail
                 refine HC.out.mono ?_
                 rintro e _ ⟨rfl,rfl⟩
                 clear HC
                 go_wp2
                 go_roundw
                 case rel=>exact ⟨t+1,by go_num,by omega,by rw [HRS.out,HROW.out,HCL.out];simp,by trivial⟩
                 case measure=>simp [intOf];omega
               · have HCL:=hid hcl;clear hcl
                 have HYX:=hid (show decide (l.getD t 0=x)=true by rw [HY.out];exact decide_eq_true hyx)
                 have hc_:=clash_any HV.out (show q<m by omega) (show t<m by omega)
                 rw [HCL.out] at hc_
                 have HC:=hid hc_;clear hc_
                 go_wp2_with fail
                 refine HC.out.mono ?_
                 rintro e _ ⟨rfl,rfl⟩
                 clear HC
                 have HN:=hid (show asS ps l m 0 0=none by rw [HST2.out,if_pos];exact rowA_hit htq (by rw [HYX.out,HCL.out];rfl))
                 go_wp2
                 go_ret
                 exact ⟨ret_bool (by unfold isAB;rw [HPL.out,HN.out,HL.out.len];simp),rfl⟩
             · have hyz:(y == x)=false:=by simpa using hyx
               have HYX:=hid (show decide (l.getD t 0=x)=false by rw [HY.out];exact decide_eq_false hyx)
               go_wp2
               go_roundw
               case rel=>exact ⟨t+1,by go_num,by omega,by rw [HRS.out,HROW.out,HYX.out];rfl,by trivial⟩
               case measure=>simp [intOf];omega
           · obtain rfl:t=q:=by omega
             have HST3:=hid (show asS ps l (m-(t+1)) (t+1) X=asS ps l m 0 0 by rw [HST2.out,HROW.out,HXX.out,HR2.out];rfl)
             go_wp2
             go_roundw
             case rel=>exact ⟨t+1,X,by go_num,rfl,by omega,HST3.out,by omega,by omega,by trivial⟩
             case measure=>simp [intOf];omega
    · obtain rfl:q=m:=by omega
      have HS2:=hid (show asS ps l q 0 0=some v by rw [← HAS.out,Nat.sub_self];rfl)
      obtain ⟨-,v1,-,v3⟩:=HV.out.cells
      have hvl:=HV.out.lt
      by_cases hl0:lim=0
      · have hlz:(lim == 0)=true:=by simpa using hl0
        have HB:=hid (show isAB ps lim l=true by unfold isAB;rw [HPL.out,HS2.out,HL.out.len];simp [hl0])
        go_wp2
        go_ret
        exact ⟨ret_bool (by rw [HB.out]),rfl⟩
      · have hlz:(lim == 0)=false:=by simpa using hl0
        have HB:=hid (show isAB ps lim l=decide (v≤lim) by unfold isAB;rw [HPL.out,HS2.out,HL.out.len];simp [hl0])
        go_wp2
        go_ret
        exact ⟨ret_bool (by rw [HB.out]),rfl⟩
 · have hmz:((m:Int) != (n:Int))=true:=by simp;omega
   go_wp2
   go_ret
   exact ⟨ret_bool (by unfold isAB;rw [HPL.out,HL.out.len,decide_eq_false hmn];rfl),rfl⟩
end Go.Proofs.YtokpblmgdmokoaaGreat
