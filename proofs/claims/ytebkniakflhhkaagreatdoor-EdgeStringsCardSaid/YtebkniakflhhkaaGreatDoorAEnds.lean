import Derived.Test.YtebkniakflhhkaaGreatDoorASolv
set_option maxHeartbeats 2000000
set_option linter.unusedSimpArgs false
set_option linter.unusedVariables false
namespace Go.Proofs.YtebkniakflhhkaaGreatDoor
open Go.Lib (hid)
open Go.RowKit
theorem run_index_arr {z:List Int} (hz:z.length=60) {b:Nat} (hb:b<60) (w:World):(Instr.index 196 (.agg (arr z)) (.int .i64 (b:Int))).run Tryz.prog w=.ok (.int .i64 (at_ z b)) w:=by
 have hsz:∀ w,(sizeOf 3).run Tryz.prog w=.ok 1 w:=fun w=>by kernel_rfl
 have hp:(part 3 (arr z) (b * 1)).run Tryz.prog w=.ok (.int .i64 (at_ z b)) w:=by
  have h1:=arr_get z b (by omega)
  simp [part,isAgg,run_underlying Tryz.underlying3,h1]
 have hb':(0:Int)≤(b:Int)∧(b:Int)<60:=by omega
 unfold Instr.index
 simp only [asIntOf,Sem.run_bind,Sem.run_pure,Result.andThen_ok,run_underlying Tryz.underlying196]
 rw [if_pos (by simpa using hb')]
 simp only [Sem.run_bind,hsz,Result.andThen_ok,Int.toNat_natCast,hp]
theorem wd_rounds {l:List Bnd} {r:Int} {x:List Int} (h:Wd r x) (hok:OkB l) (hr:0≤r):∀ k:Nat,Wd (r+k * 100000000) (rounds l k x)
 | 0=>by simpa [rounds] using h
 | k+1=>by
  have:=(wd_rounds h hok hr k).longer hok (by omega)
  rw [show r+(k:Int) * 100000000+100000000=r+((k+1:Nat):Int) * 100000000 from by omega] at this
  exact this
theorem Wd.more {r s:Int} {x:List Int} (h:Wd r x) (hs:r≤s):Wd s x:=⟨h.1,fun i hi=>(h.2 i hi).imp id (fun h=>by omega)⟩
theorem wd_setL {l:List Bnd} {r:Int} {x:List Int} (h:Wd r x) (hok:OkB l) (hr:0≤r) {p:Nat} (hp:p≤60):Wd (r+6000000000) (setL l p x):=by
 unfold setL
 cases hs:settle l p x with
 | none=>exact wd_zeros (by omega)
 | some y =>
  obtain ⟨k,hk,rfl,_⟩:=settle_some hs
  exact (wd_rounds h hok hr k).more (by omega)
def dist (l:List Bnd) (p a b:Nat):Int:=at_ (setL l p (startL a)) b
theorem dist_bd {l:List Bnd} {p a b:Nat} (hok:OkB l) (hp:p≤60) (ha:a<60) (hb:b<60):dist l p a b=Inf∨(-6000000000≤dist l p a b∧dist l p a b≤6000000000):=by
 have:=(wd_setL (wd_startL (r:=0) (by omega) ha) hok (by omega) hp).2 b hb
 unfold dist
 rw [Int.zero_add] at this
 exact this
def fin (n:Int):Int:=if n=Inf then 0 else n
def isF (n:Int):Bool:=decide (n≠Inf)
theorem greatest_any (p a b:Nat) (A:Option Addr) (n c:Nat) (l:List Bnd) (hp:p≤60) (ha:a<60) (hb:b<60) (hn400:n≤402) (hok:OkB l) (w:World) (hr:RdB w A n c l) :
 Calls Tryz.prog 128 #[.agg #[.int .i64 (p:Int),.slice A n c],.int .i64 (a:Int),.int .i64 (b:Int)] w fun e w'=>e=.returned (.tuple #[.int .i64 (fin (dist l p a b)),.bool (isF (dist l p a b))])∧Below w.heap.size w w':=by
 have hB:Below w.heap.size w (w.alloc (.cells #[.int .i64 (p:Int),.slice A n c] 133)):=(Below.refl _ w).alloc (Nat.le_refl _) _
 have hc:=from_any p a A n c l hp ha hn400 hok _ (hr.below hB)
 have hl:=setL_length (l:=l) (p:=p) (startL_length a)
 unfold dist
 generalize setL l p (startL a)=z at *
 have hidx:=fun w=>run_index_arr hl hb w
 generalize at_ z b=v at *
 have HC:=hid hc;clear hc hr hl
 by_cases hv:v=Inf
 · subst hv
   unfold Inf at hidx
   go_enter Tryz.func128,Tryz.ntmps128
   go_wp2_with fail
   refine HC.out.mono ?_
   rintro e w1 ⟨rfl,hb1⟩
   go_wp2
   go_ret2
   exact ⟨by simp [fin,isF],hB.trans (hb1.mono hB.size)⟩
 · have hne:(v == 9223372036854775807)=false:=by simpa [Inf] using hv
   have HV:=hid hv;clear hv
   go_enter Tryz.func128,Tryz.ntmps128
   go_wp2_with fail
   refine HC.out.mono ?_
   rintro e w1 ⟨rfl,hb1⟩
   go_wp2
   go_ret2
   exact ⟨by simp [fin,isF,HV.out],hB.trans (hb1.mono hB.size)⟩
theorem fin_bd {l:List Bnd} {p a b:Nat} (hok:OkB l) (hp:p≤60) (ha:a<60) (hb:b<60):-6000000000≤fin (dist l p a b)∧fin (dist l p a b)≤6000000000:=by
 unfold fin
 split
 · omega
 · exact (dist_bd hok hp ha hb).resolve_left (by assumption)
theorem least_any (p a b:Nat) (A:Option Addr) (n c:Nat) (l:List Bnd) (hp:p≤60) (ha:a<60) (hb:b<60) (hn400:n≤402) (hok:OkB l) (w:World) (hr:RdB w A n c l) :
 Calls Tryz.prog 129 #[.agg #[.int .i64 (p:Int),.slice A n c],.int .i64 (a:Int),.int .i64 (b:Int)] w fun e w'=>e=.returned (.tuple #[.int .i64 (-fin (dist l p b a)),.bool (isF (dist l p b a))])∧Below w.heap.size w w':=by
 have hB:Below w.heap.size w (w.alloc (.cells #[.int .i64 (p:Int),.slice A n c] 133)):=(Below.refl _ w).alloc (Nat.le_refl _) _
 have hc:=greatest_any p b a A n c l hp hb ha hn400 hok _ (hr.below hB)
 obtain ⟨h1,h2⟩:=fin_bd hok hp hb ha
 generalize fin (dist l p b a)=v at *
 generalize isF (dist l p b a)=t at *
 have HC:=hid hc;clear hc hr
 go_enter Tryz.func129,Tryz.ntmps129
 go_wp2_with fail
 refine HC.out.mono ?_
 rintro e w1 ⟨rfl,hb1⟩
 go_wp2
 go_ret2
 exact ⟨rfl,hB.trans (hb1.mono hB.size)⟩
theorem end_any (p:Int) (A:Option Addr) (n c:Nat) (u:Bool) (w:World) :
 Calls Tryz.prog 91 #[.agg #[.int .i64 p,.slice A n c],.bool u] w fun e w'=>e=.returned (.func (.func (if u then 128 else 129)) #[.agg #[.int .i64 p,.slice A n c]] #[])∧Below w.heap.size w w':=by
 have hmf:∀ (fn:Fn) (first cap:Array Value) (w:World),(Instr.makeFunc fn first cap).run Tryz.prog w=.ok (.func fn first cap) w:=fun _ _ _ _=>rfl
 have hB:Below w.heap.size w (w.alloc (.cells #[.int .i64 p,.slice A n c] 133)):=(Below.refl _ w).alloc (Nat.le_refl _) _
 cases u
 · go_enter Tryz.func91,Tryz.ntmps91
   go_wp2
   go_ret
   exact ⟨rfl,hB⟩
 · go_enter Tryz.func91,Tryz.ntmps91
   go_wp2
   go_ret
   exact ⟨rfl,hB⟩
theorem rdI_two (w:World) (a b:Int):RdI (w.alloc (.cells #[.int .i64 a,.int .i64 b] 3)) (some ⟨w.heap.size,0,none⟩) 2 2 [a,b]:=by
 refine ⟨rfl,Nat.le_refl _,(fun h=>by cases h),.inr ⟨w.heap.size,0,rfl,by simp,fun j u hu=>?_⟩⟩
 rw [Nat.zero_add,(Blk.new w 3 #[.int .i64 a,.int .i64 b]).cell j]
 simpa using hu
def endV (p:Int) (l:List Bnd) (a b:Int) (u:Bool):Value :=
 if scode p l [a,b]=0 then
  (if u then .tuple #[.int .i64 (fin (dist l p.toNat a.toNat b.toNat)),.bool (isF (dist l p.toNat a.toNat b.toNat)),.int .i64 0]
   else .tuple #[.int .i64 (-fin (dist l p.toNat b.toNat a.toNat)),.bool (isF (dist l p.toNat b.toNat a.toNat)),.int .i64 0])
 else .tuple #[.int .i64 0,.bool false,.int .i64 (scode p l [a,b])]
theorem scode_ok {p:Int} {l:List Bnd} {ps:List Int} (h:scode p l ps=0):chk p l=0∧ps.all (isPt p)=true∧(settle l p.toNat zeros).isSome=true:=by
 unfold scode at h
 split at h
 · rename_i hg
   obtain ⟨h1,h2⟩:=gcode_ok hg
   split at h
   · exact ⟨h1,h2,by assumption⟩
   · cases h
 · rename_i hg;exact absurd h hg
theorem endOf_any (p a b:Int) (A:Option Addr) (n c:Nat) (l:List Bnd) (u:Bool) (w:World) (hr:RdB w A n c l) (hn:n≤maxLen) :
 Calls Tryz.prog 59 #[.agg #[.int .i64 p,.slice A n c],.int .i64 a,.int .i64 b,.bool u] w fun e w'=>e=.returned (endV p l a b u)∧Below w.heap.size w w':=by
 have hB:Below w.heap.size w ((w.alloc (.cells #[.int .i64 p,.slice A n c] 84)).alloc (.cells #[.int .i64 a,.int .i64 b] 3)):=((Below.refl _ w).alloc (Nat.le_refl _) _).alloc (by simp) _
 have h2:=rdI_two (w.alloc (.cells #[.int .i64 p,.slice A n c] 84)) a b
 simp only [World.size_alloc] at h2
 have hc:=solvable_any p A _ n c 2 2 l [a,b] _ (hr.below hB) hn h2 (by omega)
 have HC:=hid hc;have HR:=hid hr;clear hc hr h2
 unfold endV
 by_cases hs:scode p l [a,b]=0
 · obtain ⟨hk,hpt,-⟩:=scode_ok hs
   obtain ⟨hp1,hp2,hlen,-⟩:=chk_ok hk
   have hok:=okB_of hk
   rw [if_pos hs]
   rw [hs,sysR_yes] at HC
   simp only [List.all_cons,List.all_nil,Bool.and_true,Bool.and_eq_true,isPt,decide_eq_true_eq] at hpt
   obtain ⟨⟨ha0,ha1⟩,hb0,hb1⟩:=hpt
   clear hs hk
   obtain ⟨p,rfl⟩:=Int.eq_ofNat_of_zero_le (show 0≤p by omega)
   obtain ⟨a,rfl⟩:=Int.eq_ofNat_of_zero_le ha0
   obtain ⟨b,rfl⟩:=Int.eq_ofNat_of_zero_le hb0
   simp only [Int.toNat_natCast]
   have hn2:n≤402:=by have:=HR.out.len;omega
   have hg:=fun w' hw'=>greatest_any p a b A n c l (by omega) (by omega) (by omega) hn2 hok w' (HR.out.below hw')
   have hl:=fun w' hw'=>least_any p a b A n c l (by omega) (by omega) (by omega) hn2 hok w' (HR.out.below hw')
   have HG:=hid hg;have HL:=hid hl;clear hg hl hok
   cases u
   · go_enter Tryz.func59,Tryz.ntmps59
     go_wp2_with fail
     refine HC.out.mono ?_
     rintro e w1 ⟨rfl,hb1⟩
     have hB1:=hB.trans (hb1.mono hB.size)
     go_wp2_with fail
     refine (end_any (p:Int) A n c false _).mono ?_
     rintro e w2 ⟨rfl,hb2⟩
     have hB2:=(hB1.alloc hB1.size (.cells #[.int .i64 (p:Int),.slice A n c] 133)).trans (hb2.mono (hB1.alloc hB1.size _).size)
     go_wp2_with fail
     refine (HL.out _ hB2).mono ?_
     rintro e w3 ⟨rfl,hb3⟩
     have hB3:=hB2.trans (hb3.mono hB2.size)
     go_wp2
     go_ret3
     exact ⟨rfl,hB3⟩
   · go_enter Tryz.func59,Tryz.ntmps59
     go_wp2_with fail
     refine HC.out.mono ?_
     rintro e w1 ⟨rfl,hb1⟩
     have hB1:=hB.trans (hb1.mono hB.size)
     go_wp2_with fail
     refine (end_any (p:Int) A n c true _).mono ?_
     rintro e w2 ⟨rfl,hb2⟩
     have hB2:=(hB1.alloc hB1.size (.cells #[.int .i64 (p:Int),.slice A n c] 133)).trans (hb2.mono (hB1.alloc hB1.size _).size)
     go_wp2_with fail
     refine (HG.out _ hB2).mono ?_
     rintro e w3 ⟨rfl,hb3⟩
     have hB3:=hB2.trans (hb3.mono hB2.size)
     go_wp2
     go_ret3
     exact ⟨rfl,hB3⟩
 · rw [if_neg hs]
   generalize scode p l [a,b]=q at *
   rw [sysR_no hs] at HC
   have hne:(q != 0)=true:=by simpa using hs
   clear hs
   go_enter Tryz.func59,Tryz.ntmps59
   go_wp2_with fail
   refine HC.out.mono ?_
   rintro e w1 ⟨rfl,hb1⟩
   have hB1:=hB.trans (hb1.mono hB.size)
   go_wp2
   go_ret3
   exact ⟨rfl,(by have hsz_:=Below.size hB1;repeat' (first|with_reducible exact hB1|with_reducible exact Below.refl _ _|with_reducible refine Below.alloc ?_ ?_ _|with_reducible refine Below.setCell ?_ ?_ _|with_reducible refine Below.drew ?_|with_reducible refine below_setRow ?_ ?_ _|omega | (simp;done) | (simp;omega)))⟩
theorem Greatest_any (p a b:Int) (A:Option Addr) (n c:Nat) (l:List Bnd) (w:World) (hr:RdB w A n c l) (hn:n≤maxLen) :
 Calls Tryz.prog 34 #[.agg #[.int .i64 p,.slice A n c],.int .i64 a,.int .i64 b] w fun e w'=>∃ x t q,e=.returned (.tuple #[.int .i64 x,.bool t,.int .i64 q])∧endV p l a b true=.tuple #[.int .i64 x,.bool t,.int .i64 q]∧Below w.heap.size w w':=by
 have hB:Below w.heap.size w (w.alloc (.cells #[.int .i64 p,.slice A n c] 84)):=(Below.refl _ w).alloc (Nat.le_refl _) _
 have hc:=endOf_any p a b A n c l true _ (hr.below hB) hn
 obtain ⟨x,t,q,hv⟩:∃ x t q,endV p l a b true=.tuple #[.int .i64 x,.bool t,.int .i64 q]:=by
  unfold endV;repeat' split
  all_goals exact ⟨_,_,_,rfl⟩
 rw [hv] at hc
 have HC:=hid hc;have HV:=hid hv;clear hc hv hr
 go_enter Tryz.func34,Tryz.ntmps34
 go_wp2_with (go_at_call 59;refine HC.out.mono ?_;rintro e w1 ⟨rfl,hb1⟩)
 go_ret3
 exact ⟨x,t,q,rfl,HV.out,hB.trans (hb1.mono hB.size)⟩
theorem Least_any (p a b:Int) (A:Option Addr) (n c:Nat) (l:List Bnd) (w:World) (hr:RdB w A n c l) (hn:n≤maxLen) :
 Calls Tryz.prog 32 #[.agg #[.int .i64 p,.slice A n c],.int .i64 a,.int .i64 b] w fun e w'=>∃ x t q,e=.returned (.tuple #[.int .i64 x,.bool t,.int .i64 q])∧endV p l a b false=.tuple #[.int .i64 x,.bool t,.int .i64 q]∧Below w.heap.size w w':=by
 have hB:Below w.heap.size w (w.alloc (.cells #[.int .i64 p,.slice A n c] 84)):=(Below.refl _ w).alloc (Nat.le_refl _) _
 have hc:=endOf_any p a b A n c l false _ (hr.below hB) hn
 obtain ⟨x,t,q,hv⟩:∃ x t q,endV p l a b false=.tuple #[.int .i64 x,.bool t,.int .i64 q]:=by
  unfold endV;repeat' split
  all_goals exact ⟨_,_,_,rfl⟩
 rw [hv] at hc
 have HC:=hid hc;have HV:=hid hv;clear hc hv hr
 go_enter Tryz.func32,Tryz.ntmps32
 go_wp2_with (go_at_call 59;refine HC.out.mono ?_;rintro e w1 ⟨rfl,hb1⟩)
 go_ret3
 exact ⟨x,t,q,rfl,HV.out,hB.trans (hb1.mono hB.size)⟩
end Go.Proofs.YtebkniakflhhkaaGreatDoor
