import Derived.Laws.AppendOwnNone
import Derived.Test.YtjjmifcjailpaaaGreatPSet
set_option maxHeartbeats 2000000
set_option linter.unusedSimpArgs false
set_option linter.unusedVariables false
namespace Go.Proofs.YtjjmifcjailpaaaGreat
open Go.Lib (hid)
open Go.RowKit
theorem rwithin_any (n lo hi:Int) (w:World) :
 Calls Tryz.prog 120 #[.int .i64 n,.int .i64 lo,.int .i64 hi] w fun e w'=>e=.returned (.bool (decide (lo≤n)&&decide (n≤hi)))∧w=w':=by
 by_cases h:lo≤n
 · go_enter Tryz.func120,Tryz.ntmps120
   go_wp2
   go_ret
   exact ⟨by simp [h],rfl⟩
 · go_enter Tryz.func120,Tryz.ntmps120
   go_wp2
   go_ret
   exact ⟨by simp [h];try omega,rfl⟩
theorem rpoint_any (p:Int) (A:Option Addr) (n c:Nat) (a:Int) (w:World) :
 Calls Tryz.prog 119 #[.agg #[.int .i64 p,.slice A n c],.int .i64 a] w fun e w'=>e=.returned (.bool (decide (0≤a)&&decide (a<p)))∧w'=w.alloc (.cells #[.int .i64 p,.slice A n c] 84):=by
 by_cases h:0≤a
 · go_enter Tryz.func119,Tryz.ntmps119
   go_wp2
   go_ret
   exact ⟨by simp [h],rfl⟩
 · go_enter Tryz.func119,Tryz.ntmps119
   go_wp2
   go_ret
   exact ⟨by simp [h];try omega,rfl⟩
theorem Same_any (A B:Option Addr) (m d m' d':Nat) (x y:List Int) (w:World) (hx:RdI w A m d x) (hy:RdI w B m' d' y) (hm:m≤maxLen) :
 Calls Tryz.prog 22 #[.slice A m d,.slice B m' d'] w fun e w'=>e=.returned (.bool (decide (x=y)))∧Below w.heap.size w w':=by
 unfold maxLen at hm
 have hl:=hx.len
 have hl':=hy.len
 have HX:=hid hx;have HY:=hid hy;have HL:=hid hl;have HL':=hid hl';clear hx hy hl hl'
 by_cases hmm:m=m'
 · subst hmm
   go_enter Tryz.func22,Tryz.ntmps22
   go_wp2
   go_loopw [5] (fun i wr=>∃ k:Nat,k≤m∧i=.int .i64 k∧x.take k=y.take k∧Below w.heap.size w wr) (fun i _=>m-(intOf i).toNat)
   case atStart=>exact ⟨0,Nat.zero_le _,rfl,by simp,Below.refl _ _⟩
   case round =>
    obtain ⟨k,hk,rfl,heq,hb⟩:=hrel
    have HE:=hid heq;clear heq
    by_cases hlt:k<m
    · obtain ⟨b,o,u,rfl,hbw,hx,c0⟩:=(HX.out.below hb).get hlt
      obtain ⟨b',o',u',rfl,hbw',hx',c0'⟩:=(HY.out.below hb).get hlt
      have HXX:=hid hx;have HYY:=hid hx';clear hx hx'
      by_cases hu:u=u'
      · have h1:(u != u')=false:=by simpa using hu
        have HU:=hid hu;clear hu
        go_wp2_with fail
        go_quiet (fail)
        go_wp2
        go_roundw
        case rel=>exact ⟨k+1,by omega,by go_num,by rw [List.take_add_one,List.take_add_one,HE.out,HXX.out,HYY.out,HU.out],hb.trans ⟨rfl,rfl,rfl,Nat.le_refl _,fun _ _=>rfl⟩⟩
        case measure=>simp [intOf];omega
      · have h1:(u != u')=true:=by simpa using hu
        have HU:=hid hu;clear hu
        go_wp2_with fail
        go_quiet (fail)
        go_wp2
        go_ret
        exact ⟨ret_bool (by
         symm
         apply decide_eq_false
         intro h
         rw [h,HYY.out] at HXX
         exact HU.out (by injection HXX.out with h;exact h.symm)),hb.trans ⟨rfl,rfl,rfl,Nat.le_refl _,fun _ _=>rfl⟩⟩
    · obtain rfl:k=m:=by omega
      go_wp2
      go_ret
      exact ⟨ret_bool (by
       symm
       apply decide_eq_true
       have:=HE.out
       rwa [List.take_of_length_le (by rw [HL.out];exact Nat.le_refl _),List.take_of_length_le (by rw [HL'.out];exact Nat.le_refl _)] at this),hb⟩
 · have h1:((m:Int) != (m':Int))=true:=by simp;omega
   have H:=hid hmm;clear hmm
   go_enter Tryz.func22,Tryz.ntmps22
   go_wp2
   go_ret
   exact ⟨ret_bool (by
    symm
    apply decide_eq_false
    intro h
    exact H.out (by rw [← HL.out,← HL'.out,h])),Below.refl _ _⟩
end Go.Proofs.YtjjmifcjailpaaaGreat
/- The reference's CheckSystem. -/
namespace Go.Proofs.YtjjmifcjailpaaaGreat
open Go.Lib (hid)
open Go.RowKit
theorem rwithin_yes (n lo hi:Int) (w:World) (h:lo≤n∧n≤hi) :
 Calls Tryz.prog 120 #[.int .i64 n,.int .i64 lo,.int .i64 hi] w fun e w'=>e=.returned (.bool true)∧w=w' :=
 (rwithin_any n lo hi w).mono fun _ _ ⟨h1,h2⟩=>⟨by simp [h1,h.1,h.2],h2⟩
theorem rwithin_no (n lo hi:Int) (w:World) (h:¬ (lo≤n∧n≤hi)) :
 Calls Tryz.prog 120 #[.int .i64 n,.int .i64 lo,.int .i64 hi] w fun e w'=>e=.returned (.bool false)∧w=w' :=
 (rwithin_any n lo hi w).mono fun _ _ ⟨h1,h2⟩=>⟨by rw [h1];congr 2;simpa using h,h2⟩
theorem rpoint_yes (p:Int) (A:Option Addr) (n c:Nat) (a:Int) (w:World) (h:0≤a∧a≤p-1) :
 Calls Tryz.prog 119 #[.agg #[.int .i64 p,.slice A n c],.int .i64 a] w fun e w'=>e=.returned (.bool true)∧w'=w.alloc (.cells #[.int .i64 p,.slice A n c] 84) :=
 (rpoint_any p A n c a w).mono fun _ _ ⟨h1,h2⟩=>⟨by rw [h1];congr 2;simp;omega,h2⟩
theorem rpoint_no (p:Int) (A:Option Addr) (n c:Nat) (a:Int) (w:World) (h:¬ (0≤a∧a≤p-1)) :
 Calls Tryz.prog 119 #[.agg #[.int .i64 p,.slice A n c],.int .i64 a] w fun e w'=>e=.returned (.bool false)∧w'=w.alloc (.cells #[.int .i64 p,.slice A n c] 84) :=
 (rpoint_any p A n c a w).mono fun _ _ ⟨h1,h2⟩=>⟨by rw [h1];congr 2;simp;omega,h2⟩
theorem rCheckSystem_any (p:Int) (A:Option Addr) (n c:Nat) (l:List Bnd) (w:World) (hr:RdB w A n c l) (hn:n≤maxLen) :
 Calls Tryz.prog 87 #[.agg #[.int .i64 p,.slice A n c]] w fun e w'=>e=.returned (.int .i64 (chk p l))∧Below w.heap.size w w':=by
 unfold maxLen at hn
 have HR:=hid hr
 by_cases h:p≤60
 · by_cases h2:n≤400
   · by_cases h1:1≤p
     · have hl:=hr.len
       have HL:=hid hl;clear hl hr
       have b0:=Blk.new w 84 #[.int .i64 p,.slice A n c]
       have B0:=hid b0;clear b0
       have hB:Below w.heap.size w (w.alloc (.cells #[.int .i64 p,.slice A n c] 84)):=(Below.refl _ w).alloc (Nat.le_refl _) _
       go_enter Tryz.func87,Tryz.ntmps87
       go_wp2
       go_loopw [3] (fun i wr=>∃ k:Nat,k≤n∧i=.int .i64 k∧(l.take k).all (okBnd (p-1))=true∧Blk wr w.heap.size 84 #[.int .i64 p,.slice A n c]∧Below w.heap.size w wr) (fun i _=>n-(intOf i).toNat)
       case atStart=>exact ⟨0,Nat.zero_le _,rfl,rfl,B0.out,hB⟩
       case round =>
        obtain ⟨k,hk,rfl,hall,c0,hb⟩:=hrel
        have HA:=hid hall;clear hall
        have hz:=Blk.lt c0
        have y0:wr.cell? ⟨w.heap.size,0,none⟩=some (.int .i64 p):=c0.cell 0
        have y1:wr.cell? ⟨w.heap.size,1,none⟩=some (.slice A n c):=c0.cell 1
        have C0:=hid c0;clear c0
        by_cases hlt:k<n
        · obtain ⟨b,o,f,t,m,i,rfl,hbw,hx,c0,c1,c2,c3⟩:=(HR.out.below hb).get hlt
          have HX:=hid hx;clear hx
          by_cases hf:0≤f∧f≤p-1
          · have hpf:=fun w=>rpoint_yes p (some ⟨b,o,none⟩) n c f w hf
            by_cases ht:0≤t∧t≤p-1
            · have hpt:=fun w=>rpoint_yes p (some ⟨b,o,none⟩) n c t w ht
              have HPF:=hid hpf;have HPT:=hid hpt;clear hpf hpt
              by_cases hft:f=t
              · have hok:okBnd (p-1) ⟨f,t,m,i⟩=false:=by simp [okBnd,hft]
                have h9:(f == t)=true:=by simpa using hft
                clear hft
                have HO:=hid hok;clear hok
                go_wp2_with (first | (go_at_call 119;with_reducible refine (HPF.out _).mono ?_;rintro e w' ⟨rfl,rfl⟩) | (go_at_call 119;with_reducible refine (HPT.out _).mono ?_;rintro e w' ⟨rfl,rfl⟩))
                go_ret
                exact ⟨ret_int (by rw [chk,if_neg (by rw [HL.out];omega),if_neg (by omega),if_neg];rw [all_no HX.out HO.out];simp),(by have hsz_:=Below.size hb;repeat' (first|with_reducible exact hb|with_reducible exact Below.refl _ _|with_reducible refine Below.alloc ?_ ?_ _|with_reducible refine Below.setCell ?_ ?_ _|with_reducible refine Below.drew ?_|with_reducible refine below_setRow ?_ ?_ _|omega | (simp;done) | (simp;omega)))⟩
              · have h9:(f == t)=false:=by simpa using hft
                by_cases hm:-1000000≤m∧m≤1000000
                · have hwm:=fun w=>rwithin_yes m (-1000000) 1000000 w hm
                  by_cases hi:0≤i∧i≤1000000
                  · have hwi:=fun w=>rwithin_yes i 0 1000000 w hi
                    have hok:okBnd (p-1) ⟨f,t,m,i⟩=true:=by simp [okBnd,hft,hf,ht,hm,hi]
                    have HWM:=hid hwm;have HWI:=hid hwi;clear hwm hwi hft hm hi hf ht
                    have HO:=hid hok;clear hok
                    go_wp2_with (first | (go_at_call 119;with_reducible refine (HPF.out _).mono ?_;rintro e w' ⟨rfl,rfl⟩) | (go_at_call 119;with_reducible refine (HPT.out _).mono ?_;rintro e w' ⟨rfl,rfl⟩) | (go_at_call 120;with_reducible refine (HWM.out _).mono ?_;rintro e w' ⟨rfl,rfl⟩) | (go_at_call 120;with_reducible refine (HWI.out _).mono ?_;rintro e w' ⟨rfl,rfl⟩))
                    go_roundw
                    case rel=>exact ⟨k+1,by omega,by go_num,all_take_succ HX.out HA.out HO.out,((C0.out.alloc _).alloc _).alloc _,(by have hsz_:=Below.size hb;repeat' (first|with_reducible exact hb|with_reducible exact Below.refl _ _|with_reducible refine Below.alloc ?_ ?_ _|with_reducible refine Below.setCell ?_ ?_ _|with_reducible refine Below.drew ?_|with_reducible refine below_setRow ?_ ?_ _|omega | (simp;done) | (simp;omega)))⟩
                    case measure=>simp [intOf];omega
                  · have hwi:=fun w=>rwithin_no i 0 1000000 w hi
                    have hok:okBnd (p-1) ⟨f,t,m,i⟩=false:=by simp [okBnd];intros;omega
                    have HWM:=hid hwm;have HWI:=hid hwi;clear hwm hwi hft hm hi hf ht
                    have HO:=hid hok;clear hok
                    go_wp2_with (first | (go_at_call 119;with_reducible refine (HPF.out _).mono ?_;rintro e w' ⟨rfl,rfl⟩) | (go_at_call 119;with_reducible refine (HPT.out _).mono ?_;rintro e w' ⟨rfl,rfl⟩) | (go_at_call 120;with_reducible refine (HWM.out _).mono ?_;rintro e w' ⟨rfl,rfl⟩) | (go_at_call 120;with_reducible refine (HWI.out _).mono ?_;rintro e w' ⟨rfl,rfl⟩))
                    go_ret
                    exact ⟨ret_int (by rw [chk,if_neg (by rw [HL.out];omega),if_neg (by omega),if_neg];rw [all_no HX.out HO.out];simp),(by have hsz_:=Below.size hb;repeat' (first|with_reducible exact hb|with_reducible exact Below.refl _ _|with_reducible refine Below.alloc ?_ ?_ _|with_reducible refine Below.setCell ?_ ?_ _|with_reducible refine Below.drew ?_|with_reducible refine below_setRow ?_ ?_ _|omega | (simp;done) | (simp;omega)))⟩
                · have hwm:=fun w=>rwithin_no m (-1000000) 1000000 w hm
                  have hok:okBnd (p-1) ⟨f,t,m,i⟩=false:=by simp [okBnd];intros;omega
                  have HWM:=hid hwm;clear hwm hft hm hf ht
                  have HO:=hid hok;clear hok
                  go_wp2_with (first | (go_at_call 119;with_reducible refine (HPF.out _).mono ?_;rintro e w' ⟨rfl,rfl⟩) | (go_at_call 119;with_reducible refine (HPT.out _).mono ?_;rintro e w' ⟨rfl,rfl⟩) | (go_at_call 120;with_reducible refine (HWM.out _).mono ?_;rintro e w' ⟨rfl,rfl⟩))
                  go_ret
                  exact ⟨ret_int (by rw [chk,if_neg (by rw [HL.out];omega),if_neg (by omega),if_neg];rw [all_no HX.out HO.out];simp),(by have hsz_:=Below.size hb;repeat' (first|with_reducible exact hb|with_reducible exact Below.refl _ _|with_reducible refine Below.alloc ?_ ?_ _|with_reducible refine Below.setCell ?_ ?_ _|with_reducible refine Below.drew ?_|with_reducible refine below_setRow ?_ ?_ _|omega | (simp;done) | (simp;omega)))⟩
            · have hpt:=fun w=>rpoint_no p (some ⟨b,o,none⟩) n c t w ht
              have hok:okBnd (p-1) ⟨f,t,m,i⟩=false:=by simp [okBnd];intros;omega
              have HPF:=hid hpf;have HPT:=hid hpt;clear hpf hpt hf ht
              have HO:=hid hok;clear hok
              go_wp2_with (first | (go_at_call 119;with_reducible refine (HPF.out _).mono ?_;rintro e w' ⟨rfl,rfl⟩) | (go_at_call 119;with_reducible refine (HPT.out _).mono ?_;rintro e w' ⟨rfl,rfl⟩))
              go_ret
              exact ⟨ret_int (by rw [chk,if_neg (by rw [HL.out];omega),if_neg (by omega),if_neg];rw [all_no HX.out HO.out];simp),(by have hsz_:=Below.size hb;repeat' (first|with_reducible exact hb|with_reducible exact Below.refl _ _|with_reducible refine Below.alloc ?_ ?_ _|with_reducible refine Below.setCell ?_ ?_ _|with_reducible refine Below.drew ?_|with_reducible refine below_setRow ?_ ?_ _|omega | (simp;done) | (simp;omega)))⟩
          · have hpf:=fun w=>rpoint_no p (some ⟨b,o,none⟩) n c f w hf
            have hpt:=fun w=>rpoint_any p (some ⟨b,o,none⟩) n c t w
            have hok:okBnd (p-1) ⟨f,t,m,i⟩=false:=by simp [okBnd];intros;omega
            generalize (decide (0≤t)&&decide (t<p))=bt at *
            have HPF:=hid hpf;have HPT:=hid hpt;clear hpf hpt hf
            have HO:=hid hok;clear hok
            go_wp2_with (first | (go_at_call 119;with_reducible refine (HPF.out _).mono ?_;rintro e w' ⟨rfl,rfl⟩) | (go_at_call 119;with_reducible refine (HPT.out _).mono ?_;rintro e w' ⟨rfl,rfl⟩))
            go_ret
            exact ⟨ret_int (by rw [chk,if_neg (by rw [HL.out];omega),if_neg (by omega),if_neg];rw [all_no HX.out HO.out];simp),(by have hsz_:=Below.size hb;repeat' (first|with_reducible exact hb|with_reducible exact Below.refl _ _|with_reducible refine Below.alloc ?_ ?_ _|with_reducible refine Below.setCell ?_ ?_ _|with_reducible refine Below.drew ?_|with_reducible refine below_setRow ?_ ?_ _|omega | (simp;done) | (simp;omega)))⟩
        · go_wp2
          go_ret
          obtain rfl:k=n:=by omega
          exact ⟨ret_int (by rw [chk,if_neg (by rw [HL.out];omega),if_neg (by omega),if_pos];have:=HA.out;rwa [List.take_of_length_le (by rw [HL.out];omega)] at this),hb⟩
     · go_enter Tryz.func87,Tryz.ntmps87
       go_wp2
       go_ret
       exact ⟨ret_int (by rw [chk,if_neg (by rw [HR.out.len];omega),if_pos (by omega)]),(by (repeat (first|exact Below.refl _ _|refine Below.drew ?_|refine Below.alloc ?_ (by simp) _)))⟩
   · go_enter Tryz.func87,Tryz.ntmps87
     go_wp2
     go_ret
     exact ⟨ret_int (by rw [chk,if_pos (by rw [HR.out.len];omega)]),(by (repeat (first|exact Below.refl _ _|refine Below.drew ?_|refine Below.alloc ?_ (by simp) _)))⟩
 · go_enter Tryz.func87,Tryz.ntmps87
   go_wp2
   go_ret
   exact ⟨ret_int (by rw [chk,if_pos (by omega)]),(by (repeat (first|exact Below.refl _ _|refine Below.drew ?_|refine Below.alloc ?_ (by simp) _)))⟩
end Go.Proofs.YtjjmifcjailpaaaGreat
/- The reference's asked. -/
namespace Go.Proofs.YtjjmifcjailpaaaGreat
open Go.Lib (hid)
open Go.RowKit
end Go.Proofs.YtjjmifcjailpaaaGreat
/- The reference's copied. -/
namespace Go.Proofs.YtjjmifcjailpaaaGreat
open Go.Lib (hid)
open Go.RowKit
end Go.Proofs.YtjjmifcjailpaaaGreat
/- The reference's SameSystem. -/
namespace Go.Proofs.YtjjmifcjailpaaaGreat
open Go.Lib (hid)
open Go.RowKit
end Go.Proofs.YtjjmifcjailpaaaGreat
/- wide, small, three: what the laws of layer 1 begin with. -/
namespace Go.Proofs.YtjjmifcjailpaaaGreat
open Go.Lib (hid)
open Go.RowKit
end Go.Proofs.YtjjmifcjailpaaaGreat
