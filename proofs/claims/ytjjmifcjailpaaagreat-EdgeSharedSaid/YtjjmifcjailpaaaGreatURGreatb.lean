import Derived.Test.YtjjmifcjailpaaaGreatUClosed
import Derived.Test.YtjjmifcjailpaaaGreatUSums
import Derived.Test.YtjjmifcjailpaaaGreatUEPlace
set_option linter.unusedSimpArgs false
set_option linter.unusedVariables false
namespace Go.Proofs.YtjjmifcjailpaaaGreat
open Go.Lib (hid)
open Go.RowKit
theorem from_settled {p:Int} {l:List Bnd} {a:Nat} (hk:chk p l=0) (hs:(settle l p.toNat zeros).isSome=true) (ha:a<60) :
 settle l p.toNat (startL a)=some (rounds l (p.toNat-1) (startL a))∧longer l (rounds l (p.toNat-1) (startL a))=rounds l (p.toNat-1) (startL a):=by
 obtain ⟨y,h1,h2,-⟩:=shift_ok hk hs ha
 obtain ⟨hp1,hp2,-,-⟩:=chk_ok hk
 exact settle_of_stable (by omega) (edges_of hk) (by rw [startL_length];omega) (startL_le ha) h1 h2
def lowK (l:List Bnd) (x0:List Int) (b:Nat) (most:Int):Nat→Nat→Nat
 | 0,k=>k
 | n+1,k=>if at_ (rounds l k x0) b≤most then k else lowK l x0 b most n (k+1)
theorem lowK_spec {l:List Bnd} {x0:List Int} {b:Nat} {most:Int}:∀ (n k:Nat),at_ (rounds l (k+n) x0) b≤most→(∀ j,j<k→most<at_ (rounds l j x0) b) →
 lowK l x0 b most n k≤k+n∧at_ (rounds l (lowK l x0 b most n k) x0) b≤most∧∀ j,j<lowK l x0 b most n k→most<at_ (rounds l j x0) b
 | 0,k,h,hmin=>⟨Nat.le_refl _,h,hmin⟩
 | n+1,k,h,hmin=>by
  unfold lowK
  by_cases hk:at_ (rounds l k x0) b≤most
  · rw [if_pos hk];exact ⟨by omega,hk,hmin⟩
  · rw [if_neg hk]
    have ih:=lowK_spec (l:=l) (x0:=x0) (b:=b) (most:=most) n (k+1) (by rw [show k+1+n=k+(n+1) from by omega];exact h) (fun j hj=>by
     rcases Nat.lt_or_ge j k with h1|h1
     · exact hmin j h1
     · obtain rfl:j=k:=by omega
       omega)
    exact ⟨by omega,ih.2⟩
theorem dist_rounds {p:Int} {l:List Bnd} {a:Nat} (hk:chk p l=0) (hs:(settle l p.toNat zeros).isSome=true) (ha:a<60) :
 setL l p.toNat (startL a)=rounds l (p.toNat-1) (startL a)∧Stable l (rounds l (p.toNat-1) (startL a))∧longer l (rounds l (p.toNat-1) (startL a))=rounds l (p.toNat-1) (startL a):=by
 obtain ⟨hp1,hp2,hlen,-⟩:=chk_ok hk
 obtain ⟨h1,h2⟩:=from_settled hk hs ha
 obtain ⟨h3,-⟩:=stable_settle (edges_of hk) (by rw [startL_length];omega) h1
 exact ⟨by unfold setL;rw [h1];rfl,h3,h2⟩
theorem rounds_top {p:Int} {l:List Bnd} {a:Nat} (hk:chk p l=0) (ha:a<60):∀ (k v:Nat),at_ (rounds l k (startL a)) v=Inf∨at_ (rounds l k (startL a)) v≤k * 1000000
 | 0,v=>by
  show at_ (startL a) v=Inf∨at_ (startL a) v≤((0:Nat):Int) * 1000000
  by_cases hv:v<60
  · rw [at_startL ha v hv]
    split
    · exact .inr (by omega)
    · exact .inl rfl
  · rw [at_out (by rw [startL_length];omega)];exact .inr (by omega)
 | k+1,v=>by
  show at_ (longer l (rounds l k (startL a))) v=Inf∨at_ (longer l (rounds l k (startL a))) v≤((k+1:Nat):Int) * 1000000
  rcases longer_cases l (rounds l k (startL a)) v with h|⟨c,hc,h1,-,h⟩
  · rw [h]
    rcases rounds_top hk ha k v with q|q
    · exact .inl q
    · exact .inr (by omega)
  · rw [h]
    rw [look_eq] at h1 ⊢
    have:=edges60 hk c hc
    rcases rounds_top hk ha k c.f.toNat with q|q
    · exact absurd q h1
    · exact .inr (by omega)
theorem rfrom_eq {p:Int} {l:List Bnd} {a:Nat} (hk:chk p l=0) (hs:(settle l p.toNat zeros).isSome=true) (ha:a<p.toNat) :
 ∃ z,rsums 1000000000 l (p.toNat+1) ((List.replicate p.toNat 1000000000).set a 0)=some z∧z.length=p.toNat∧∀ v,v<p.toNat→at_ z v=conv 1000000000 (dist l p.toNat a v):=by
 obtain ⟨hp1,hp2,-,-⟩:=chk_ok hk
 obtain ⟨e,hst,hfix⟩:=dist_rounds (a:=a) hk hs (by omega)
 obtain ⟨y,h1,h2,h3⟩:=rsums_eq (far:=1000000000) (l:=l) (p:=p.toNat) (x:=startL a) (y:=(List.replicate p.toNat 1000000000).set a 0) (by omega) (edges_of hk) (by rw [startL_length];omega) (by simp) (fun v hv=>by
  rw [at_set _ _ _ _ (by rw [List.length_replicate];exact ha),at_startL (by omega) _ (by omega)]
  by_cases hav:a=v
  · rw [if_pos hav,if_pos hav];unfold conv Inf;rw [if_neg (by omega)]
  · rw [if_neg hav,if_neg hav,at_repl hv];unfold conv;rw [if_pos rfl]) (fun k v hv hI hkp=>by
  rcases rounds_top hk (a:=a) (by omega) k v with q|q
  · exact absurd q hI
  · omega) (by unfold Inf;omega) hfix
 refine ⟨y,h1,h2,fun v hv=>?_⟩
 rw [h3 v hv]
 unfold dist
 rw [e]
theorem dist_top {p:Int} {l:List Bnd} {a v:Nat} (hk:chk p l=0) (hs:(settle l p.toNat zeros).isSome=true) (ha:a<60) (h:dist l p.toNat a v≠Inf):dist l p.toNat a v≤60000000:=by
 obtain ⟨hp1,hp2,-,-⟩:=chk_ok hk
 obtain ⟨e,-⟩:=dist_rounds (a:=a) hk hs ha
 unfold dist at h ⊢
 rw [e] at h ⊢
 rcases rounds_top hk ha (p.toNat-1) v with q|q
 · exact absurd q h
 · omega
theorem bd_start {p a:Nat} (ha:a<p):Bd 0 ((List.replicate p (1000000000:Int)).set a 0):=fun v hv=>by
 rw [at_set _ _ _ _ (by rw [List.length_replicate];exact ha)]
 rw [List.length_set,List.length_replicate] at hv
 split
 · omega
 · rw [at_repl hv];omega
set_option maxRecDepth 100000 in
set_option maxHeartbeats 4000000 in
theorem rgreat_any (p a b:Nat) (A:Option Addr) (n k:Nat) (l:List Bnd) (w:World) (hr:RdB w A n k l) (hn400:n≤402) (hk:chk p l=0) (hs:(settle l p zeros).isSome=true) (ha:a<p) (hb:b<p) :
 Calls Tryz.prog 103 #[.agg #[.int .i64 (p:Int),.slice A n k],.int .i64 (a:Int),.int .i64 (b:Int)] w fun e w'=>e=.returned (.tuple #[.int .i64 (fin (dist l p a b)),.bool (isF (dist l p a b))])∧Below w.heap.size w w':=by
 obtain ⟨hp1,hp2,-,-⟩:=chk_ok hk
 have he:=okP_of hk
 have hs':(settle l (p:Int).toNat zeros).isSome=true:=by rw [Int.toNat_natCast];exact hs
 obtain ⟨z,hz1,hz2,hz3⟩:=rfrom_eq (a:=a) hk hs' (by rw [Int.toNat_natCast];exact ha)
 have htop:=fun h=>dist_top (a:=a) (v:=b) hk hs' (by omega) h
 rw [Int.toNat_natCast] at hz1 hz2 hz3 he htop
 have hzb:z[b]?=some (conv 1000000000 (dist l p a b)):=by rw [get_at' (by omega),hz3 b hb]
 have hsum:=fun (g c':Nat) (w':World) (hr':RdB w' A n k l) (hq':RdI w' (some ⟨g,0,none⟩) p c' ((List.replicate p (1000000000:Int)).set a 0))=>sums_any p 1000000000 A (some ⟨g,0,none⟩) n k p c' l _ w' hr' hn400 he (by omega) (by omega) hq' (by simp) (bd_start ha) (by omega) (by omega)
 rw [hz1] at hsum
 unfold RetB at hsum
 dsimp only [Option.getD_some,Option.isSome_some] at hsum
 obtain ⟨X,hX⟩:∃ X,fin (dist l p a b)=X:=⟨_,rfl⟩
 obtain ⟨T,hT⟩:∃ T,isF (dist l p a b)=T:=⟨_,rfl⟩
 rw [hX,hT]
 have HX:=hid hX;have HT:=hid hT;clear hX hT
 have HSUM:=hid hsum;have HZB:=hid hzb;have HR:=hid hr;clear hsum hzb hr hz1 hz3 he hs hs'
 obtain ⟨i0,hi0,hz0,hz1,hz2'⟩:=info_parts infoI
 have HI:=hid hi0;have HZ0:=hid hz0;have HZ1:=hid hz1;have HZ2:=hid hz2';clear hi0 hz0 hz1 hz2'
 have hB:Below w.heap.size w (w.alloc (.cells #[.int .i64 (p:Int),.slice A n k] 84)):=(Below.refl _ w).alloc (Nat.le_refl _) _
 have B0:=hid (Blk.new w 84 #[.int .i64 (p:Int),.slice A n k])
 go_enter Tryz.func103,Tryz.ntmps103
 go_wp2
 go_loopw [9,8] (fun i v wr=>∃ j:Nat,j≤p∧i=.int .i64 j∧wr.ownsRow (w.heap.size+1) 3 1 v j ((List.replicate j (1000000000:Int)).map (Value.int .i64))∧Blk wr w.heap.size 84 #[.int .i64 (p:Int),.slice A n k]∧Below w.heap.size w wr) (fun i _ _=>p-(intOf i).toNat)
 case atStart=>exact ⟨0,Nat.zero_le _,rfl,World.ownsRow_nil _ _ _ _,B0.out,hB⟩
 case round =>
  obtain ⟨j,hj,rfl,hown,hbs,hbe⟩:=hrel
  have HBS:=hid hbs;clear hbs
  have hlt0:=HBS.out.lt
  have y0:wr.cell? ⟨w.heap.size,0,none⟩=some (.int .i64 (p:Int)):=Blk.cell HBS.out 0
  have y1:wr.cell? ⟨w.heap.size,1,none⟩=some (.slice A n k):=Blk.cell HBS.out 1
  by_cases hlt:j<p
  · have hlt':(j:Int)<p:=by omega
    have OW:=hid (hown.alloc (.cells #[.int .i64 1000000000] 3));clear hown
    have N1:=hid (Blk.new wr 3 #[.int .i64 1000000000])
    have hbb:=hbe.alloc hbe.size (.cells #[.int .i64 1000000000] 3)
    have hrep:(List.replicate (j+1) (1000000000:Int)).map (Value.int .i64)=(List.replicate j (1000000000:Int)).map (Value.int .i64)++[.int .i64 1000000000]:=by rw [List.replicate_succ',List.map_append];rfl
    have HREP:=hid hrep;clear hrep
    go_wp2_with (at_builtin;refine wpList_append_own _ rfl (.tmp 18) (.tmp 19) 34 rfl (w.heap.size+1) 3 i0 _ 1 8 Tryz.underlying34 HI.out HZ0.out HZ1.out HZ2.out rfl (by omega) u8 _ _ rfl OW.out ⟨wr.heap.size,0,none⟩ 1 1 [.int .i64 1000000000] rfl rfl (fun j u hu=>by rw [Addr.add_lit,Nat.zero_add,N1.out.cell];simpa using hu) (by simp [Value.oneCell']) (by unfold maxLen;omega) (by omega) (by simp;omega) ?_;intro v' w4 hown4 hg4 _;have HO4:=hid hown4;have HG4:=hid (show World.grownBy _ w4 u8.ownBlock from hg4);clear hown4 hg4)
    go_roundw
    case rel=>exact ⟨j+1,by omega,by go_num,(by rw [HREP.out];exact HO4.out),blk_grown (HBS.out.alloc _) HG4.out (fun e=>by have:=(OW.out.lt _ e).1;omega),hbb.grown HG4.out hbb.size (fun q e=>by have:=(OW.out.lt q e).1;omega)⟩
    case measure=>simp [intOf];omega
  · obtain rfl:j=p:=by omega
    obtain ⟨A5,c5,hv5,-⟩:=own_form hown
    subst hv5
    obtain ⟨g,hgA,hgb⟩:=own_some2 hown (by omega)
    subst hgA
    obtain ⟨r,hiv,-,hrc,hdm,-⟩:=own_iv (show OwnI wr (w.heap.size+1) (some ⟨g,0,none⟩) j c5 (List.replicate j 1000000000) from hown)
    rw [List.length_replicate] at hrc
    have HIV:=hid hiv;clear hiv hown
    have u0:wr.cell? ⟨g,a,none⟩=some (.int .i64 1000000000):=by rw [HIV.out.cell,iv_get (by rw [List.length_replicate];exact ha),at_repl ha]
    have f0:wr.frozen? ⟨g,a,none⟩=false:=HIV.out.frozen _
    have hst:=HIV.out.set_ a (.int .i64 0)
    rw [iv_set (by rw [List.length_replicate];exact ha)] at hst
    have HST:=hid hst;clear hst
    have HBS5:=hid (HBS.out.far (p:=⟨g,a,none⟩) (by simp;omega) (.int .i64 0))
    have HB5:=hid (hbe.setCell (p:=⟨g,a,none⟩) (by simp;omega) (.int .i64 0))
    have ha':(a:Int)<j:=by omega
    have hb':(b:Int)<j:=by omega
    have y2:(wr.setCell ⟨g,a,none⟩ (.int .i64 0)).cell? ⟨w.heap.size,0,none⟩=some (.int .i64 (j:Int)):=Blk.cell HBS5.out 0
    have y3:(wr.setCell ⟨g,a,none⟩ (.int .i64 0)).cell? ⟨w.heap.size,1,none⟩=some (.slice A n k):=Blk.cell HBS5.out 1
    go_wp2_with fail
    refine (HSUM.out g c5 _ (HR.out.below HB5.out) (iv_rd HST.out (by rw [List.length_set,List.length_replicate]) (by omega))).mono ?_
    rintro e w6 ⟨A2,n2,c2,rfl,ho,hb6⟩
    clear y0 y1 y2 y3 u0 f0
    have hzr:=(OwnI.rd ho).1
    obtain rfl:j=n2:=hz2.symm.trans hzr.len
    have HBS6:=hid (Blk.keep HBS5.out hb6)
    have HB6:=hid (HB5.out.trans (hb6.mono HB5.out.size))
    obtain ⟨bz,oz,hAz⟩:=rdI_some hzr HZB.out
    subst hAz
    obtain ⟨ca,cl⟩:=rdI_at hzr HZB.out
    have y0:w6.cell? ⟨w.heap.size,0,none⟩=some (.int .i64 (j:Int)):=Blk.cell HBS6.out 0
    clear hzr ho hb6 HBS6 HBS5 HB5 HST HIV HZB HSUM HR hbe
    generalize dist l j a b=D at *
    by_cases hD:D=Inf
    · subst hD
      have hv:conv 1000000000 Inf=1000000000:=by unfold conv;rw [if_pos rfl]
      rw [hv] at ca
      obtain rfl:X=0:=HX.out.symm.trans (if_pos rfl)
      obtain rfl:T=false:=HT.out.symm.trans (by simp [isF])
      clear htop
      go_wp2
      go_ret2
      exact ⟨rfl,HB6.out⟩
    · have hv:conv 1000000000 D=D:=by unfold conv;rw [if_neg hD]
      rw [hv] at ca
      obtain rfl:D=X:=(HX.out.symm.trans (if_neg hD)).symm
      obtain rfl:T=true:=HT.out.symm.trans (by simp [isF,hD])
      have h6:=htop hD
      clear htop hD
      have hge:decide (1000000000≤D)=false:=decide_eq_false (by omega)
      go_wp2
      go_ret2
      exact ⟨rfl,HB6.out⟩
end Go.Proofs.YtjjmifcjailpaaaGreat
