import Derived.Test.YtjjmifcjailpaaaGreatUEEithM
set_option linter.unusedSimpArgs false
set_option linter.unusedVariables false
namespace Go.Proofs.YtjjmifcjailpaaaGreat
open Go.Lib (hid)
open Go.RowKit
theorem fstart_length (p a:Nat):(fstart p a).length=p:=by simp [fstart,fars]
theorem ffold_length (x:List Int):∀ (l:List Bnd) (y:List Int),(l.foldl (frelax x) y).length=y.length
 | [],_=>rfl
 | b::l,y=>by rw [List.foldl_cons,ffold_length x l,frelax_length]
theorem fstep_length (l:List Bnd) (p:Nat) (x:List Int):(fstep l p x).length=p:=by unfold fstep;rw [ffold_length,fars_length]
theorem frounds_length (l:List Bnd) (p a:Nat):∀ k,(frounds l p a k).length=p
 | 0=>fstart_length p a
 | k+1=>fstep_length l p _
section
variable {l:List Bnd} {p:Nat} (he:∀ c∈l,0≤c.f∧c.f<p∧0≤c.t∧c.t<p∧-1000000≤c.m∧c.m≤1000000)
include he
end
def fillL (x:List Int) (j:Nat):List Int:=List.replicate j farF++x.drop j
theorem fillL_length {x:List Int} {j:Nat} (h:j≤x.length):(fillL x j).length=x.length:=by simp [fillL];omega
theorem fillL_zero (x:List Int):fillL x 0=x:=by simp [fillL]
theorem fillL_all {x:List Int} {p:Nat} (h:x.length=p):fillL x p=fars p:=by subst h;simp [fillL,fars]
theorem fillL_set {x:List Int} {j:Nat} (h:j<x.length):(fillL x j).set j farF=fillL x (j+1):=by
 unfold fillL
 rw [List.set_append_right _ _ (by simp),List.length_replicate,Nat.sub_self,List.drop_eq_getElem_cons h,List.set_cons_zero,List.replicate_succ',List.append_assoc]
 rfl
theorem frounds_bd {l:List Bnd} {p a:Nat} (he:∀ c∈l,0≤c.f∧c.f<p∧0≤c.t∧c.t<p∧-1000000≤c.m∧c.m≤1000000) (ha:a<p) {k v:Nat} (hk:k≤60) (hv:v<p) :
 farF≤at_ (frounds l p a k) v∨(-60000000≤at_ (frounds l p a k) v∧at_ (frounds l p a k) v≤60000000):=by
 by_cases h:at_ (frounds l p a k) v<farF
 · obtain ⟨r,-,-,h1,h2⟩:=frounds_walk he ha k v hv h hk
   right;omega
 · left;omega
theorem ffold_take {l:List Bnd} {j:Nat} {b:Bnd} {x y:List Int} (h:l[j]?=some b):(l.take (j+1)).foldl (frelax x) y=frelax x ((l.take j).foldl (frelax x) y) b:=by
 rw [List.take_add_one,h,List.foldl_append]
 rfl
theorem scanB_step {l:List Bnd} {p a m best:Nat} (hm:m≤p):scanB l p a (p+1-m) m best=if best=0∨m<best then scanB l p a (p+1-(m+1)) (m+1) (if hitF l p a m=true then m else best) else best:=by
 obtain ⟨d,hd⟩:∃ d,p+1-m=d+1:=⟨p-m,by omega⟩
 rw [hd,show p+1-(m+1)=d from by omega]
 rfl
theorem scanB_end {l:List Bnd} {p a best:Nat}:scanB l p a (p+1-(p+1)) (p+1) best=best:=by rw [Nat.sub_self];rfl
theorem scanB_stop {l:List Bnd} {p a m best:Nat} (n:Nat) (h:¬ (best=0∨m<best)):scanB l p a n m best=best:=by
 cases n with
 | zero=>rfl
 | succ n=>unfold scanB;rw [if_neg h]
theorem frelax_yes {x y:List Int} {b:Bnd} (h:look x b.f<farF):frelax x y b=y.set b.t.toNat (min (look y b.t) (look x b.f+b.m)):=by unfold frelax;rw [if_pos h]
theorem frelax_no {x y:List Int} {b:Bnd} (h:¬ look x b.f<farF):frelax x y b=y:=by unfold frelax;rw [if_neg h]
theorem frounds_pred {l:List Bnd} {p a m:Nat} (h:1≤m):fstep l p (frounds l p a (m-1))=frounds l p a m:=by
 cases m with
 | zero=>omega
 | succ m=>rfl
theorem cell_alloc {w:World} {q:Addr} {v:Value} (h:w.cell? q=some v) (hl:q.block<w.heap.size) (o:Obj):(w.alloc o).cell? q=some v:=(((Below.refl _ w).alloc (Nat.le_refl _) o).cell hl).trans h
theorem cell_drew {w:World} {q:Addr} {v:Value} (h:w.cell? q=some v):w.drew.cell? q=some v:=h
theorem cell_far {w:World} {q p:Addr} {v:Value} (h:w.cell? q=some v) (hq:q.block≠p.block) (u:Value):(w.setCell p u).cell? q=some v:=by
 unfold World.cell? at h ⊢
 rw [heap_setCell_other w p q.block u hq]
 exact h
set_option maxRecDepth 100000 in
set_option maxHeartbeats 16000000 in
theorem rFewest_any (p:Nat) (A:Option Addr) (n c:Nat) (l:List Bnd) (w:World) (hr:RdB w A n c l) (hn400:n≤402)
 (he:∀ c∈l,0≤c.f∧c.f<p∧0≤c.t∧c.t<p∧-1000000≤c.m∧c.m≤1000000) (hp1:1≤p) (hp:p≤60) :
 Calls Tryz.prog 50 #[.agg #[.int .i64 (p:Int),.slice A n c]] w fun e w'=>e=.returned (.int .i64 (fewA l p p:Nat))∧Below w.heap.size w w':=by
 obtain ⟨i0,hi0,hz0,hz1,hz2⟩:=info_parts infoI
 have HI:=hid hi0;have HZ0:=hid hz0;have HZ1:=hid hz1;have HZ2:=hid hz2;clear hi0 hz0 hz1 hz2
 have hB:Below w.heap.size w (w.alloc (.cells #[.int .i64 (p:Int),.slice A n c] 84)):=(Below.refl _ w).alloc (Nat.le_refl _) _
 have hrn:=hr.len
 have HB:=hid hB;have HS:=hid (Blk.new w 84 #[.int .i64 (p:Int),.slice A n c]);have HR:=hid hr;have HE:=hid he;clear hB hr he
 go_enter Tryz.func50,Tryz.ntmps50
 go_wp2
 go_loopw [4,3] (fun av bv wr=>∃ a:Nat,a≤p∧av=.int .i64 a∧bv=.int .i64 (fewA l p a:Nat)∧Blk wr w.heap.size 84 #[.int .i64 (p:Int),.slice A n c]∧Below w.heap.size w wr) (fun av _ _=>p-(intOf av).toNat)
 case atStart=>exact ⟨0,Nat.zero_le _,rfl,rfl,HS.out,HB.out⟩
 case round =>
  clear HS HB
  obtain ⟨a,ha,rfl,rfl,hbs,hbe⟩:=hrel
  have HBS:=hid hbs;have HBE:=hid hbe;clear hbs hbe
  have z0:wr.cell? ⟨w.heap.size,0,none⟩=some (.int .i64 (p:Int)):=Blk.cell HBS.out 0
  by_cases hap:a<p
  · have hap':(a:Int)<p:=by omega
    go_wp2
    clear z0
    go_loopw [6,5] (fun i v wq=>∃ j:Nat,j≤p∧i=.int .i64 j∧wq.ownsRow (w.heap.size+1) 3 1 v j ((List.replicate j (1000000000:Int)).map (Value.int .i64))∧Blk wq w.heap.size 84 #[.int .i64 (p:Int),.slice A n c]∧Below w.heap.size w wq) (fun i _ _=>p-(intOf i).toNat)
    case atStart=>exact ⟨0,Nat.zero_le _,rfl,World.ownsRow_nil _ _ _ _,HBS.out,HBE.out⟩
    case round =>
     clear HBS HBE
     rename_i wq_
     obtain ⟨j,hj,rfl,hown,hbs,hbe⟩:=hrel
     have HBS:=hid hbs;clear hbs
     have hlt0:=HBS.out.lt
     have y0:wr.cell? ⟨w.heap.size,0,none⟩=some (.int .i64 (p:Int)):=Blk.cell HBS.out 0
     by_cases hlt:j<p
     · have hlt':(j:Int)<p:=by omega
       have OW:=hid (hown.alloc (.cells #[.int .i64 1000000000] 3));clear hown
       have N1:=hid (Blk.new wr 3 #[.int .i64 1000000000])
       have hbb:=hbe.alloc hbe.size (.cells #[.int .i64 1000000000] 3)
       have hrep:(List.replicate (j+1) (1000000000:Int)).map (Value.int .i64)=(List.replicate j (1000000000:Int)).map (Value.int .i64)++[.int .i64 1000000000]:=by rw [List.replicate_succ',List.map_append];rfl
       have HREP:=hid hrep;clear hrep
       go_wp2_with (at_builtin;refine wpList_append_own _ rfl (.tmp 24) (.tmp 25) 34 rfl (w.heap.size+1) 3 i0 _ 1 8 Tryz.underlying34 HI.out HZ0.out HZ1.out HZ2.out rfl (by omega) u5 _ _ rfl OW.out ⟨wr.heap.size,0,none⟩ 1 1 [.int .i64 1000000000] rfl rfl (fun j u hu=>by rw [Addr.add_lit,Nat.zero_add,N1.out.cell];simpa using hu) (by simp [Value.oneCell']) (by unfold maxLen;omega) (by omega) (by simp;omega) ?_;intro v' w4 hown4 hg4 _;have HO4:=hid hown4;have HG4:=hid (show World.grownBy _ w4 u5.ownBlock from hg4);clear hown4 hg4)
       go_roundw
       case rel=>exact ⟨j+1,by omega,by go_num,(by rw [HREP.out];exact HO4.out),blk_grown (HBS.out.alloc _) HG4.out (fun e=>by have:=(OW.out.lt _ e).1;omega),hbb.grown HG4.out hbb.size (fun q e=>by have:=(OW.out.lt q e).1;omega)⟩
       case measure=>simp [intOf];omega
     · obtain rfl:j=p:=by omega
       obtain ⟨A5,c5,hv5,-⟩:=own_form hown
       subst hv5
       obtain ⟨g,hgA,hgb⟩:=own_some2 hown (by omega)
       subst hgA
       obtain ⟨r,hiv,-,hrc,hdm,-⟩:=own_iv (show OwnI wr (w.heap.size+1) (some ⟨g,0,none⟩) j c5 (List.replicate j 1000000000) from hown)
       rw [List.length_replicate] at hrc
       have HIV:=hid hiv;clear hiv hown
       have u0:wr.cell? ⟨g,a,none⟩=some (.int .i64 1000000000):=by rw [HIV.out.cell,iv_get (by rw [List.length_replicate];exact hap),at_repl hap]
       have f0:wr.frozen? ⟨g,a,none⟩=false:=HIV.out.frozen _
       have hst:=HIV.out.set_ a (.int .i64 0)
       rw [iv_set (by rw [List.length_replicate];exact hap)] at hst
       have HST:=hid hst;clear hst
       have HBS5:=hid (HBS.out.far (p:=⟨g,a,none⟩) (by simp;omega) (.int .i64 0))
       have HB5:=hid (hbe.setCell (p:=⟨g,a,none⟩) (by simp;omega) (.int .i64 0))
       have hfin:scanB l j a (j+1-1) 1 (fewA l j a)=fewA l j (a+1):=rfl
       have HFIN:=hid hfin
       clear hfin HBS HIV hbe
       generalize hX:fewA l j (a+1)=X at *
       have HXE:=hid hX;clear hX
       go_wp2
       clear u0 f0 y0
       go_loopw [7,3,5] (fun mv bv xv wq=>∃ (m best g cx:Nat),1≤m∧m≤j+1∧mv=.int .i64 m∧bv=.int .i64 best∧xv=.slice (some ⟨g,0,none⟩) j cx∧RdI wq (some ⟨g,0,none⟩) j cx (frounds l j a (m-1))∧scanB l j a (j+1-m) m best=X∧Blk wq w.heap.size 84 #[.int .i64 (j:Int),.slice A n c]∧Below w.heap.size w wq) (fun mv _ _ _=>j+1-(intOf mv).toNat)
       case atStart=>exact ⟨1,fewA l j a,g,c5,by omega,by omega,rfl,rfl,rfl,iv_rd HST.out (by rw [List.length_set,List.length_replicate]) (by omega),HFIN.out,HBS5.out,HB5.out⟩
       case round =>
        clear HST HBS5 HB5 HFIN
        obtain ⟨m,best,g2,cx,hm1,hm2,rfl,rfl,rfl,hx,hsc,hbs,hbe⟩:=hrel
        obtain ⟨wo,rfl⟩:∃ wo:World,wo=wr:=⟨wr,rfl⟩
        obtain ⟨x,hxd⟩:∃ x,frounds l j a (m-1)=x:=⟨_,rfl⟩
        have hxl:x.length=j:=by rw [← hxd,frounds_length]
        have hxs:fstep l j x=frounds l j a m:=by rw [← hxd];exact frounds_pred hm1
        have hxb:∀ v,v<j→farF≤at_ x v∨(-60000000≤at_ x v∧at_ x v≤60000000):=fun v hv=>by rw [← hxd];exact frounds_bd HE.out hap (by omega) hv
        rw [hxd] at hx
        have hlg0:=(rdI_at hx (k:=0) (v:=at_ x 0) (get_at' (by omega))).2
        have HX:=hid hx;have HSC:=hid hsc;have HBS:=hid hbs;have HBE:=hid hbe;have HXL:=hid hxl;have HXS:=hid hxs;have HXB:=hid hxb;clear hx hsc hbs hbe hxd hxl hxs hxb
        have hlt0':=HBS.out.lt
        have y0:wo.cell? ⟨w.heap.size,0,none⟩=some (.int .i64 (j:Int)):=Blk.cell HBS.out 0
        have y1:wo.cell? ⟨w.heap.size,1,none⟩=some (.slice A n c):=Blk.cell HBS.out 1
        by_cases hmp:m≤j
        · have hmp':(m:Int)≤j:=by omega
          have hstep:=scanB_step (l:=l) (p:=j) (a:=a) (best:=best) hmp
          rw [HSC.out] at hstep
          by_cases hb0:best=0
          · rw [if_pos (.inl hb0)] at hstep
            subst hb0
            have HSTEP:=hid hstep;clear hstep
            have hxl:=HXL.out
            have hown:(wo.alloc (.cells #[] 3)).ownsRow wo.heap.size 3 1 (.slice (some ⟨wo.heap.size,0,none⟩) 0 0) 0 []:=World.ownsRow_lit wo #[] 0 (Nat.le_refl _) (by unfold maxLen;omega) rfl
            have hb0:Below wo.heap.size wo (wo.alloc (.cells #[] 3)):=(Below.refl _ wo).alloc (Nat.le_refl _) _
            have HL:=hid (HX.out.below hb0);have HO:=hid hown;have HB:=hid hb0;clear hown hb0
            go_wp2_with (at_builtin;refine wpList_append_own _ rfl (.tmp 45) (.tmp 46) 34 rfl wo.heap.size 3 i0 _ 1 8 Tryz.underlying34 HI.out HZ0.out HZ1.out HZ2.out rfl (by omega) _ 0 [] rfl HO.out ⟨g2,0,none⟩ j cx (x.map (Value.int .i64)) rfl (by rw [List.length_map,HL.out.len,Nat.mul_one]) (HL.out.cells.hc _ rfl) (ints_one2 x) (by unfold maxLen;omega) (by omega) (by simp) ?_;intro v' w' hown' hg' _;rw [Nat.zero_add,List.nil_append] at hown';obtain ⟨B',d',rfl,-⟩:=own_form hown';have HO':=hid hown';have HG':=hid (show World.grownBy _ w' (some wo.heap.size) from hg');clear hown' hg')
            have hBW:Below wo.heap.size wo w':=HB.out.grown HG'.out (by simp) (fun k e=>by cases e;exact Nat.le_refl _)
            obtain ⟨gy,hgB,hgy⟩:=own_some2 HO'.out (by omega)
            subst hgB
            obtain ⟨ry,hiv,-,hrc2,hdm2,-⟩:=own_iv HO'.out
            have HBW:=hid hBW;have HIV0:=hid hiv;clear hBW hiv HO' HG' HO HB HL y0 y1
            go_loopw [9] (fun i wq=>∃ q:Nat,q≤j∧i=.int .i64 q∧Blk wq gy 3 (iv (fillL x q) ry)∧Below wo.heap.size wo wq) (fun i _=>j-(intOf i).toNat)
            case atStart=>exact ⟨0,Nat.zero_le _,rfl,by rw [fillL_zero];exact HIV0.out,HBW.out⟩
            case round =>
             clear HIV0 HBW
             obtain ⟨q,hq,rfl,hby,hbw⟩:=hrel
             have HBY:=hid hby;have HBW:=hid hbw;clear hby hbw
             have hly:=HBY.out.lt
             have y0:wr.cell? ⟨w.heap.size,0,none⟩=some (.int .i64 (j:Int)):=Blk.cell (Blk.keep HBS.out HBW.out) 0
             by_cases hqj:q<j
             · have hqj':(q:Int)<j:=by omega
               have hfl:(fillL x q).length=j:=(fillL_length (by omega)).trans hxl
               have u0:wr.cell? ⟨gy,q,none⟩=some (.int .i64 (at_ (fillL x q) q)):=by rw [HBY.out.cell,iv_get (by omega)]
               have f0:wr.frozen? ⟨gy,q,none⟩=false:=HBY.out.frozen _
               have hst:=HBY.out.set_ q (.int .i64 1000000000)
               rw [iv_set (by omega),show (fillL x q).set q 1000000000=fillL x (q+1) from fillL_set (by omega)] at hst
               have HST:=hid hst;clear hst
               generalize at_ (fillL x q) q=v9 at *
               go_wp2
               go_roundw
               case rel=>exact ⟨q+1,by omega,by go_num,HST.out,HBW.out.setCell (by simpa using hgy) _⟩
               case measure=>simp [intOf];omega
             · obtain rfl:q=j:=by omega
               have hby:=HBY.out
               rw [fillL_all hxl] at hby
               have HBY0:=hid hby;have HBW0:=HBW;clear hby HBY HBW
               go_wp2
               clear y0
               go_loopw [10] (fun i wq=>∃ u:Nat,u≤n∧i=.int .i64 u∧Blk wq gy 3 (iv ((l.take u).foldl (frelax x) (fars q)) ry)∧Below wo.heap.size wo wq) (fun i _=>n-(intOf i).toNat)
               case atStart=>exact ⟨0,Nat.zero_le _,rfl,HBY0.out,HBW0.out⟩
               case round =>
                clear HBY0 HBW0
                obtain ⟨u,hu,rfl,hby,hbw⟩:=hrel
                obtain ⟨wq,rfl⟩:∃ wq:World,wq=wr:=⟨wr,rfl⟩
                have HBY:=hid hby;have HBW:=hid hbw;clear hby hbw
                have HBT:=hid (HBE.out.trans (HBW.out.mono HBE.out.size))
                have hly:=HBY.out.lt;have hsw:=HBW.out.size
                have y0:wq.cell? ⟨w.heap.size,0,none⟩=some (.int .i64 (q:Int)):=Blk.cell (Blk.keep HBS.out HBW.out) 0
                have y1:wq.cell? ⟨w.heap.size,1,none⟩=some (.slice A n c):=Blk.cell (Blk.keep HBS.out HBW.out) 1
                by_cases hun:u<n
                · obtain ⟨ba,oa,f,t,mm,i,hA,hbw',hx2,c0,c1,c2,c3⟩:=(HR.out.below HBT.out).get hun
                  obtain ⟨e1,e2,e3,e4,e5,e6⟩:=HE.out _ (List.mem_of_getElem? hx2)
                  simp only at e1 e2 e3 e4 e5 e6
                  obtain ⟨f,rfl⟩:=Int.eq_ofNat_of_zero_le e1
                  obtain ⟨t,rfl⟩:=Int.eq_ofNat_of_zero_le e3
                  have hft:f<q:=by omega
                  have htt:t<q:=by omega
                  have HX2:=hid hx2;clear hx2 e1 e3
                  subst hA
                  have hyl:((l.take u).foldl (frelax x) (fars q)).length=q:=by rw [ffold_length,fars_length]
                  obtain ⟨vf,hvf⟩:∃ v,at_ x f=v:=⟨_,rfl⟩
                  have hbd:=HXB.out f hft
                  rw [hvf] at hbd
                  have y2:wq.cell? ⟨g2,f,none⟩=some (.int .i64 vf):=by have h:=(rdI_at (HX.out.below HBW.out) (k:=f) (v:=vf) (by rw [get_at' (by omega),hvf])).1;rwa [Nat.zero_add] at h
                  have hlg:=(rdI_at (HX.out.below HBW.out) (k:=f) (v:=vf) (by rw [get_at' (by omega),hvf])).2
                  have hlook:look x (f:Int)=vf:=by rw [look_at,hvf]
                  have HLK:=hid hlook;clear hlook hvf
                  obtain ⟨y,hy⟩:∃ y,(l.take u).foldl (frelax x) (fars q)=y:=⟨_,rfl⟩
                  have hby:=HBY.out
                  rw [hy] at hby hyl
                  have HBY2:=hid hby;have HY:=hid hy;clear hby hy HBY
                  by_cases q1:vf<1000000000
                  · have d1:decide (vf<1000000000)=true:=decide_eq_true q1
                    have hnr:-60000000≤vf∧vf≤60000000:=by unfold farF at hbd;omega
                    obtain ⟨n1,n2⟩:=hnr
                    obtain ⟨vt,hvt⟩:∃ v,at_ y t=v:=⟨_,rfl⟩
                    have hvt2:wq.cell? ⟨gy,t,none⟩=some (.int .i64 vt):=by rw [HBY2.out.cell,iv_get (by omega),hvt]
                    have hlook2:look y (t:Int)=vt:=by rw [look_at,hvt]
                    have HLK2:=hid hlook2;have HVT:=hid hvt2;clear hlook2 hvt hvt2 hbd
                    go_wp2_with fail
                    clear y0 y1 c0 c1 c2 c3 d1
                    have BB:=hid (Blk.drew (Blk.new wq 70 #[.int .i64 (f:Int),.int .i64 (t:Int),.int .i64 mm,.int .i64 i]))
                    have BY:=hid (Blk.drew (HBY2.out.alloc (.cells #[.int .i64 (f:Int),.int .i64 (t:Int),.int .i64 mm,.int .i64 i] 70)))
                    have BE:=hid (Below.drew (HBW.out.alloc HBW.out.size (.cells #[.int .i64 (f:Int),.int .i64 (t:Int),.int .i64 mm,.int .i64 i] 70)))
                    have YF:=hid (cell_drew (cell_alloc y2 hlg (.cells #[.int .i64 (f:Int),.int .i64 (t:Int),.int .i64 mm,.int .i64 i] 70)))
                    have YT:=hid (cell_drew (cell_alloc HVT.out hly (.cells #[.int .i64 (f:Int),.int .i64 (t:Int),.int .i64 mm,.int .i64 i] 70)))
                    clear y2 HVT HBT HBW
                    have HWR:=hid (wrap_small (x:=vf+mm) (by omega) (by omega))
                    generalize wq.alloc (.cells #[.int .i64 (f:Int),.int .i64 (t:Int),.int .i64 mm,.int .i64 i] 70)=W0 at *
                    by_cases q2:vt≤vf+mm
                    · have d2:min vt (vf+mm)=vt:=Int.min_eq_left q2
                      have d3:decide (vt≤vf+mm)=true:=decide_eq_true q2
                      have d4:decide (vf+mm<vt)=false:=decide_eq_false (by omega)
                      have d5:¬ vf+mm<vt:=by omega
                      have HIV:=hid (iv_set (y:=y) (r:=ry) (show t<y.length by omega) vt)
                      have HRY:Hid (frelax x ((l.take u).foldl (frelax x) (fars q)) ⟨f,t,mm,i⟩=y.set t vt):=hid (by rw [frelax_yes (by dsimp only;rw [HLK.out];exact q1),HY.out];dsimp only;rw [HLK.out,HLK2.out,d2,Int.toNat_natCast])
                      refine wp_region_held_drew (S:=(fun W'=>Blk W' wq.heap.size 70 #[.int .i64 (f:Int),.int .i64 (t:Int),.int .i64 mm,.int .i64 i]∧W'.cell? ⟨g2,f,none⟩=some (.int .i64 vf))) (by kernel_rfl) ⟨BB.out,YF.out⟩ (fun _=>?_)
                      obtain ⟨a0,a4⟩:∃ w',w'=W0.drew:=⟨_,rfl⟩
                      rw [← a4] at BB YF BY YT BE
                      rw [← a4]
                      clear a4
                      refine' twH 0 ⟨BB.out,YF.out⟩ ?_
                      refine' twH 1 ⟨BB.out,YF.out⟩ ?_
                      refine' tkH 2 ⟨BB.out,YF.out⟩ ?d8 ?_
                      case d8=>(rintro W' ⟨hS0,hS1⟩;have hc0:=Blk.nth hS0 1;clear hS0 hS1;go_simp;try with_reducible rfl)
                      refine' twH 3 ⟨BB.out,YF.out⟩ ?_
                      try simp only [pq]
                      refine' twH 4 ⟨BB.out,YF.out⟩ ?_
                      refine' tkH 5 ⟨BB.out,YF.out⟩ ?d9 ?_
                      case d9=>(rintro W' ⟨hS0,hS1⟩;have hc0:=Blk.nth hS0 1;clear hS0 hS1;go_simp;try with_reducible rfl)
                      refine' twH 6 ⟨BB.out,YF.out⟩ ?_
                      refine' twH 8 ⟨BB.out,YF.out⟩ ?_
                      try simp only [pq]
                      refine' twH 9 ⟨BB.out,YF.out⟩ ?_
                      refine' tkH 10 ⟨BB.out,YF.out⟩ ?e0 ?_
                      case e0=>(rintro W' ⟨hS0,hS1⟩;have hc0:=Blk.nth hS0 0;clear hS0 hS1;go_simp;try with_reducible rfl)
                      refine' twH 11 ⟨BB.out,YF.out⟩ ?_
                      refine' tkH 12 ⟨BB.out,YF.out⟩ ?e7 ?_
                      case e7=>(rintro W' ⟨hS0,hS1⟩;go_simp;try with_reducible rfl)
                      try simp only [pq]
                      refine' twH 13 ⟨BB.out,YF.out⟩ ?_
                      refine' tkH 14 ⟨BB.out,YF.out⟩ ?e8 ?_
                      case e8=>(rintro W' ⟨hS0,hS1⟩;have hc0:=Blk.nth hS0 2;clear hS0 hS1;go_simp;try with_reducible rfl)
                      refine' twH 15 ⟨BB.out,YF.out⟩ ?_
                      try simp only [pq]
                      refine oneH 7 rfl fun K hK=>?_
                      have v7:a0.cell? ⟨gy,t,none⟩=some (.int .i64 vt):=YT.out
                      go_simp
                      clear v7
                      refine hK.out _ _ ⟨BB.out,YF.out⟩ (fun _=>?_);clear hK K
                      try simp only [pq]
                      refine oneH 16 rfl fun K hK=>?_
                      try rw [HWR.out]
                      go_simp
                      refine hK.out _ _ ⟨BB.out,YF.out⟩ (fun _=>?_);clear hK K
                      try simp only [pq]
                      refine' twH 17 ⟨BB.out,YF.out⟩ ?_
                      try simp only [pq]
                      refine oneH 18 rfl fun K hK=>?_
                      have v0:a0.cell? ⟨gy,t,none⟩=some (.int .i64 vt):=YT.out
                      have f0:a0.frozen? ⟨gy,t,none⟩=false:=Blk.frozen BY.out _
                      go_simp
                      have b2:=hid (Blk.far (BB.out) (p:=⟨gy,t,none⟩) (by simp;omega) (.int .i64 vt))
                      have b3:=hid (Blk.set_ (BY.out) t (.int .i64 vt))
                      have b4:=hid ((cell_far (q:=⟨g2,f,none⟩) YF.out (p:=⟨gy,t,none⟩) (by simp;omega) (.int .i64 vt)))
                      have b5:=hid (Below.setCell (BE.out) (p:=⟨gy,t,none⟩) (by simp;omega) (.int .i64 vt))
                      obtain ⟨g6,a5⟩:∃ w',w'=(a0.setCell ⟨gy,t,none⟩ (.int .i64 vt)):=⟨_,rfl⟩
                      rw [← a5] at b2 b3 b5 b4
                      rw [← a5]
                      clear a5 v0 f0
                      refine hK.out _ _ ⟨b2.out,b4.out⟩ (fun _=>?_);clear hK K
                      try simp only [pq]
                      refine wpAnyH_done (by kernel_rfl) ?_ _
                      have hby:=b3.out
                      rw [HIV.out] at hby
                      have HBYF:=hid hby;clear hby
                      go_wp2
                      go_roundw
                      case rel=>exact ⟨u+1,by omega,by go_num,by rw [ffold_take HX2.out,HRY.out];exact HBYF.out,b5.out⟩
                      case measure=>(simp [intOf];omega)
                    · have d2:min vt (vf+mm)=vf+mm:=Int.min_eq_right (by omega)
                      have d3:decide (vt≤vf+mm)=false:=decide_eq_false q2
                      have d4:decide (vf+mm<vt)=true:=decide_eq_true (by omega)
                      have d5:vf+mm<vt:=by omega
                      have HIV:=hid (iv_set (y:=y) (r:=ry) (show t<y.length by omega) (vf+mm))
                      have HRY:Hid (frelax x ((l.take u).foldl (frelax x) (fars q)) ⟨f,t,mm,i⟩=y.set t (vf+mm)):=hid (by rw [frelax_yes (by dsimp only;rw [HLK.out];exact q1),HY.out];dsimp only;rw [HLK.out,HLK2.out,d2,Int.toNat_natCast])
                      refine wp_region_held_drew (S:=(fun W'=>Blk W' wq.heap.size 70 #[.int .i64 (f:Int),.int .i64 (t:Int),.int .i64 mm,.int .i64 i]∧W'.cell? ⟨g2,f,none⟩=some (.int .i64 vf))) (by kernel_rfl) ⟨BB.out,YF.out⟩ (fun _=>?_)
                      obtain ⟨a1,a6⟩:∃ w',w'=W0.drew:=⟨_,rfl⟩
                      rw [← a6] at BB YF BY YT BE
                      rw [← a6]
                      clear a6
                      refine' twH 0 ⟨BB.out,YF.out⟩ ?_
                      refine' twH 1 ⟨BB.out,YF.out⟩ ?_
                      refine' tkH 2 ⟨BB.out,YF.out⟩ ?e9 ?_
                      case e9=>(rintro W' ⟨hS0,hS1⟩;have hc0:=Blk.nth hS0 1;clear hS0 hS1;go_simp;try with_reducible rfl)
                      refine' twH 3 ⟨BB.out,YF.out⟩ ?_
                      try simp only [pq]
                      refine' twH 4 ⟨BB.out,YF.out⟩ ?_
                      refine' tkH 5 ⟨BB.out,YF.out⟩ ?f1 ?_
                      case f1=>(rintro W' ⟨hS0,hS1⟩;have hc0:=Blk.nth hS0 1;clear hS0 hS1;go_simp;try with_reducible rfl)
                      refine' twH 6 ⟨BB.out,YF.out⟩ ?_
                      refine' twH 8 ⟨BB.out,YF.out⟩ ?_
                      try simp only [pq]
                      refine' twH 9 ⟨BB.out,YF.out⟩ ?_
                      refine' tkH 10 ⟨BB.out,YF.out⟩ ?f2 ?_
                      case f2=>(rintro W' ⟨hS0,hS1⟩;have hc0:=Blk.nth hS0 0;clear hS0 hS1;go_simp;try with_reducible rfl)
                      refine' twH 11 ⟨BB.out,YF.out⟩ ?_
                      refine' tkH 12 ⟨BB.out,YF.out⟩ ?f3 ?_
                      case f3=>(rintro W' ⟨hS0,hS1⟩;go_simp;try with_reducible rfl)
                      try simp only [pq]
                      refine' twH 13 ⟨BB.out,YF.out⟩ ?_
                      refine' tkH 14 ⟨BB.out,YF.out⟩ ?f4 ?_
                      case f4=>(rintro W' ⟨hS0,hS1⟩;have hc0:=Blk.nth hS0 2;clear hS0 hS1;go_simp;try with_reducible rfl)
                      refine' twH 15 ⟨BB.out,YF.out⟩ ?_
                      try simp only [pq]
                      refine oneH 7 rfl fun K hK=>?_
                      have v7:a1.cell? ⟨gy,t,none⟩=some (.int .i64 vt):=YT.out
                      go_simp
                      clear v7
                      refine hK.out _ _ ⟨BB.out,YF.out⟩ (fun _=>?_);clear hK K
                      try simp only [pq]
                      refine oneH 16 rfl fun K hK=>?_
                      try rw [HWR.out]
                      go_simp
                      refine hK.out _ _ ⟨BB.out,YF.out⟩ (fun _=>?_);clear hK K
                      try simp only [pq]
                      refine' twH 17 ⟨BB.out,YF.out⟩ ?_
                      try simp only [pq]
                      refine oneH 18 rfl fun K hK=>?_
                      have v0:a1.cell? ⟨gy,t,none⟩=some (.int .i64 vt):=YT.out
                      have f0:a1.frozen? ⟨gy,t,none⟩=false:=Blk.frozen BY.out _
                      go_simp
                      have b6:=hid (Blk.far (BB.out) (p:=⟨gy,t,none⟩) (by simp;omega) (.int .i64 (vf+mm)))
                      have b7:=hid (Blk.set_ (BY.out) t (.int .i64 (vf+mm)))
                      have b8:=hid ((cell_far (q:=⟨g2,f,none⟩) YF.out (p:=⟨gy,t,none⟩) (by simp;omega) (.int .i64 (vf+mm))))
                      have b9:=hid (Below.setCell (BE.out) (p:=⟨gy,t,none⟩) (by simp;omega) (.int .i64 (vf+mm)))
                      obtain ⟨g7,a7⟩:∃ w',w'=(a1.setCell ⟨gy,t,none⟩ (.int .i64 (vf+mm))):=⟨_,rfl⟩
                      rw [← a7] at b6 b7 b9 b8
                      rw [← a7]
                      clear a7 v0 f0
                      refine hK.out _ _ ⟨b6.out,b8.out⟩ (fun _=>?_);clear hK K
                      try simp only [pq]
                      refine wpAnyH_done (by kernel_rfl) ?_ _
                      have hby:=b7.out
                      rw [HIV.out] at hby
                      have HBYF:=hid hby;clear hby
                      go_wp2
                      go_roundw
                      case rel=>exact ⟨u+1,by omega,by go_num,by rw [ffold_take HX2.out,HRY.out];exact HBYF.out,b9.out⟩
                      case measure=>(simp [intOf];omega)
                  · have d1:decide (vf<1000000000)=false:=decide_eq_false q1
                    go_wp2
                    go_roundw
                    case rel=>exact ⟨u+1,by omega,by go_num,by rw [ffold_take HX2.out,HY.out,frelax_no (by dsimp only;rw [HLK.out];exact q1)];exact HBY2.out.alloc _,HBW.out.alloc HBW.out.size _⟩
                    case measure=>simp [intOf];omega
                · obtain rfl:u=n:=by omega
                  have hby:=HBY.out
                  rw [List.take_of_length_le (by omega),show l.foldl (frelax x) (fars q)=frounds l q a m from HXS.out] at hby
                  have hyl:=frounds_length l q a m
                  have u1:wq.cell? ⟨gy,a,none⟩=some (.int .i64 (at_ (frounds l q a m) a)):=by rw [hby.cell,iv_get (by omega)]
                  have HBY2:=hid hby;clear hby HBY
                  have hhit:hitF l q a m=decide (at_ (frounds l q a m) a<0):=rfl
                  have HHIT:=hid hhit;clear hhit
                  have hrd:=iv_rd HBY2.out hyl (c:=d') (by omega)
                  have HRD:=hid hrd;clear hrd
                  obtain ⟨v8,hv8⟩:∃ v,at_ (frounds l q a m) a=v:=⟨_,rfl⟩
                  rw [hv8] at u1 HHIT;clear hv8
                  by_cases hneg:v8<0
                  · have d1:decide (v8<0)=true:=decide_eq_true hneg
                    rw [d1] at HHIT
                    have hst:=HSTEP.out
                    rw [HHIT.out,if_pos rfl] at hst
                    have HST:=hid hst;clear hst
                    go_wp2
                    go_roundw
                    case rel=>exact ⟨m+1,m,gy,d',by omega,by omega,by go_num,rfl,rfl,HRD.out,HST.out.symm,Blk.keep HBS.out HBW.out,HBT.out⟩
                    case measure=>simp [intOf];omega
                  · have d1:decide (v8<0)=false:=decide_eq_false hneg
                    rw [d1] at HHIT
                    have hst:=HSTEP.out
                    rw [HHIT.out,if_neg (by simp)] at hst
                    have HST:=hid hst;clear hst
                    go_wp2
                    go_roundw
                    case rel=>exact ⟨m+1,0,gy,d',by omega,by omega,by go_num,rfl,rfl,HRD.out,HST.out.symm,Blk.keep HBS.out HBW.out,HBT.out⟩
                    case measure=>simp [intOf];omega
          · have hb1:((best:Int) == 0)=false:=beq_eq_false_iff_ne.2 (by omega)
            by_cases hb2:m<best
            · rw [if_pos (.inr hb2)] at hstep
              have hb3:decide ((m:Int)<best)=true:=decide_eq_true (by omega)
              have hb4:(m:Int)<best:=by omega
              have HSTEP:=hid hstep;clear hstep
              have hxl:=HXL.out
              have hown:(wo.alloc (.cells #[] 3)).ownsRow wo.heap.size 3 1 (.slice (some ⟨wo.heap.size,0,none⟩) 0 0) 0 []:=World.ownsRow_lit wo #[] 0 (Nat.le_refl _) (by unfold maxLen;omega) rfl
              have hb0:Below wo.heap.size wo (wo.alloc (.cells #[] 3)):=(Below.refl _ wo).alloc (Nat.le_refl _) _
              have HL:=hid (HX.out.below hb0);have HO:=hid hown;have HB:=hid hb0;clear hown hb0
              go_wp2_with (at_builtin;refine wpList_append_own _ rfl (.tmp 45) (.tmp 46) 34 rfl wo.heap.size 3 i0 _ 1 8 Tryz.underlying34 HI.out HZ0.out HZ1.out HZ2.out rfl (by omega) _ 0 [] rfl HO.out ⟨g2,0,none⟩ j cx (x.map (Value.int .i64)) rfl (by rw [List.length_map,HL.out.len,Nat.mul_one]) (HL.out.cells.hc _ rfl) (ints_one2 x) (by unfold maxLen;omega) (by omega) (by simp) ?_;intro v' w' hown' hg' _;rw [Nat.zero_add,List.nil_append] at hown';obtain ⟨B',d',rfl,-⟩:=own_form hown';have HO':=hid hown';have HG':=hid (show World.grownBy _ w' (some wo.heap.size) from hg');clear hown' hg')
              have hBW:Below wo.heap.size wo w':=HB.out.grown HG'.out (by simp) (fun k e=>by cases e;exact Nat.le_refl _)
              obtain ⟨gy,hgB,hgy⟩:=own_some2 HO'.out (by omega)
              subst hgB
              obtain ⟨ry,hiv,-,hrc2,hdm2,-⟩:=own_iv HO'.out
              have HBW:=hid hBW;have HIV0:=hid hiv;clear hBW hiv HO' HG' HO HB HL y0 y1
              go_loopw [9] (fun i wq=>∃ q:Nat,q≤j∧i=.int .i64 q∧Blk wq gy 3 (iv (fillL x q) ry)∧Below wo.heap.size wo wq) (fun i _=>j-(intOf i).toNat)
              case atStart=>exact ⟨0,Nat.zero_le _,rfl,by rw [fillL_zero];exact HIV0.out,HBW.out⟩
              case round =>
               clear HIV0 HBW
               obtain ⟨q,hq,rfl,hby,hbw⟩:=hrel
               have HBY:=hid hby;have HBW:=hid hbw;clear hby hbw
               have hly:=HBY.out.lt
               have y0:wr.cell? ⟨w.heap.size,0,none⟩=some (.int .i64 (j:Int)):=Blk.cell (Blk.keep HBS.out HBW.out) 0
               by_cases hqj:q<j
               · have hqj':(q:Int)<j:=by omega
                 have hfl:(fillL x q).length=j:=(fillL_length (by omega)).trans hxl
                 have u0:wr.cell? ⟨gy,q,none⟩=some (.int .i64 (at_ (fillL x q) q)):=by rw [HBY.out.cell,iv_get (by omega)]
                 have f0:wr.frozen? ⟨gy,q,none⟩=false:=HBY.out.frozen _
                 have hst:=HBY.out.set_ q (.int .i64 1000000000)
                 rw [iv_set (by omega),show (fillL x q).set q 1000000000=fillL x (q+1) from fillL_set (by omega)] at hst
                 have HST:=hid hst;clear hst
                 generalize at_ (fillL x q) q=v9 at *
                 go_wp2
                 go_roundw
                 case rel=>exact ⟨q+1,by omega,by go_num,HST.out,HBW.out.setCell (by simpa using hgy) _⟩
                 case measure=>simp [intOf];omega
               · obtain rfl:q=j:=by omega
                 have hby:=HBY.out
                 rw [fillL_all hxl] at hby
                 have HBY0:=hid hby;have HBW0:=HBW;clear hby HBY HBW
                 go_wp2
                 clear y0
                 go_loopw [10] (fun i wq=>∃ u:Nat,u≤n∧i=.int .i64 u∧Blk wq gy 3 (iv ((l.take u).foldl (frelax x) (fars q)) ry)∧Below wo.heap.size wo wq) (fun i _=>n-(intOf i).toNat)
                 case atStart=>exact ⟨0,Nat.zero_le _,rfl,HBY0.out,HBW0.out⟩
                 case round =>
                  clear HBY0 HBW0
                  obtain ⟨u,hu,rfl,hby,hbw⟩:=hrel
                  obtain ⟨wq,rfl⟩:∃ wq:World,wq=wr:=⟨wr,rfl⟩
                  have HBY:=hid hby;have HBW:=hid hbw;clear hby hbw
                  have HBT:=hid (HBE.out.trans (HBW.out.mono HBE.out.size))
                  have hly:=HBY.out.lt;have hsw:=HBW.out.size
                  have y0:wq.cell? ⟨w.heap.size,0,none⟩=some (.int .i64 (q:Int)):=Blk.cell (Blk.keep HBS.out HBW.out) 0
                  have y1:wq.cell? ⟨w.heap.size,1,none⟩=some (.slice A n c):=Blk.cell (Blk.keep HBS.out HBW.out) 1
                  by_cases hun:u<n
                  · obtain ⟨ba,oa,f,t,mm,i,hA,hbw',hx2,c0,c1,c2,c3⟩:=(HR.out.below HBT.out).get hun
                    obtain ⟨e1,e2,e3,e4,e5,e6⟩:=HE.out _ (List.mem_of_getElem? hx2)
                    simp only at e1 e2 e3 e4 e5 e6
                    obtain ⟨f,rfl⟩:=Int.eq_ofNat_of_zero_le e1
                    obtain ⟨t,rfl⟩:=Int.eq_ofNat_of_zero_le e3
                    have hft:f<q:=by omega
                    have htt:t<q:=by omega
                    have HX2:=hid hx2;clear hx2 e1 e3
                    subst hA
                    have hyl:((l.take u).foldl (frelax x) (fars q)).length=q:=by rw [ffold_length,fars_length]
                    obtain ⟨vf,hvf⟩:∃ v,at_ x f=v:=⟨_,rfl⟩
                    have hbd:=HXB.out f hft
                    rw [hvf] at hbd
                    have y2:wq.cell? ⟨g2,f,none⟩=some (.int .i64 vf):=by have h:=(rdI_at (HX.out.below HBW.out) (k:=f) (v:=vf) (by rw [get_at' (by omega),hvf])).1;rwa [Nat.zero_add] at h
                    have hlg:=(rdI_at (HX.out.below HBW.out) (k:=f) (v:=vf) (by rw [get_at' (by omega),hvf])).2
                    have hlook:look x (f:Int)=vf:=by rw [look_at,hvf]
                    have HLK:=hid hlook;clear hlook hvf
                    obtain ⟨y,hy⟩:∃ y,(l.take u).foldl (frelax x) (fars q)=y:=⟨_,rfl⟩
                    have hby:=HBY.out
                    rw [hy] at hby hyl
                    have HBY2:=hid hby;have HY:=hid hy;clear hby hy HBY
                    by_cases q1:vf<1000000000
                    · have d1:decide (vf<1000000000)=true:=decide_eq_true q1
                      have hnr:-60000000≤vf∧vf≤60000000:=by unfold farF at hbd;omega
                      obtain ⟨n1,n2⟩:=hnr
                      obtain ⟨vt,hvt⟩:∃ v,at_ y t=v:=⟨_,rfl⟩
                      have hvt2:wq.cell? ⟨gy,t,none⟩=some (.int .i64 vt):=by rw [HBY2.out.cell,iv_get (by omega),hvt]
                      have hlook2:look y (t:Int)=vt:=by rw [look_at,hvt]
                      have HLK2:=hid hlook2;have HVT:=hid hvt2;clear hlook2 hvt hvt2 hbd
                      go_wp2_with fail
                      clear y0 y1 c0 c1 c2 c3 d1
                      have BB:=hid (Blk.drew (Blk.new wq 70 #[.int .i64 (f:Int),.int .i64 (t:Int),.int .i64 mm,.int .i64 i]))
                      have BY:=hid (Blk.drew (HBY2.out.alloc (.cells #[.int .i64 (f:Int),.int .i64 (t:Int),.int .i64 mm,.int .i64 i] 70)))
                      have BE:=hid (Below.drew (HBW.out.alloc HBW.out.size (.cells #[.int .i64 (f:Int),.int .i64 (t:Int),.int .i64 mm,.int .i64 i] 70)))
                      have YF:=hid (cell_drew (cell_alloc y2 hlg (.cells #[.int .i64 (f:Int),.int .i64 (t:Int),.int .i64 mm,.int .i64 i] 70)))
                      have YT:=hid (cell_drew (cell_alloc HVT.out hly (.cells #[.int .i64 (f:Int),.int .i64 (t:Int),.int .i64 mm,.int .i64 i] 70)))
                      clear y2 HVT HBT HBW
                      have HWR:=hid (wrap_small (x:=vf+mm) (by omega) (by omega))
                      generalize wq.alloc (.cells #[.int .i64 (f:Int),.int .i64 (t:Int),.int .i64 mm,.int .i64 i] 70)=W0 at *
                      by_cases q2:vt≤vf+mm
                      · have d2:min vt (vf+mm)=vt:=Int.min_eq_left q2
                        have d3:decide (vt≤vf+mm)=true:=decide_eq_true q2
                        have d4:decide (vf+mm<vt)=false:=decide_eq_false (by omega)
                        have d5:¬ vf+mm<vt:=by omega
                        have HIV:=hid (iv_set (y:=y) (r:=ry) (show t<y.length by omega) vt)
                        have HRY:Hid (frelax x ((l.take u).foldl (frelax x) (fars q)) ⟨f,t,mm,i⟩=y.set t vt):=hid (by rw [frelax_yes (by dsimp only;rw [HLK.out];exact q1),HY.out];dsimp only;rw [HLK.out,HLK2.out,d2,Int.toNat_natCast])
                        refine wp_region_held_drew (S:=(fun W'=>Blk W' wq.heap.size 70 #[.int .i64 (f:Int),.int .i64 (t:Int),.int .i64 mm,.int .i64 i]∧W'.cell? ⟨g2,f,none⟩=some (.int .i64 vf))) (by kernel_rfl) ⟨BB.out,YF.out⟩ (fun _=>?_)
                        obtain ⟨a2,a8⟩:∃ w',w'=W0.drew:=⟨_,rfl⟩
                        rw [← a8] at BB YF BY YT BE
                        rw [← a8]
                        clear a8
                        refine' twH 0 ⟨BB.out,YF.out⟩ ?_
                        refine' twH 1 ⟨BB.out,YF.out⟩ ?_
                        refine' tkH 2 ⟨BB.out,YF.out⟩ ?f5 ?_
                        case f5=>(rintro W' ⟨hS0,hS1⟩;have hc0:=Blk.nth hS0 1;clear hS0 hS1;go_simp;try with_reducible rfl)
                        refine' twH 3 ⟨BB.out,YF.out⟩ ?_
                        try simp only [pq]
                        refine' twH 4 ⟨BB.out,YF.out⟩ ?_
                        refine' tkH 5 ⟨BB.out,YF.out⟩ ?f6 ?_
                        case f6=>(rintro W' ⟨hS0,hS1⟩;have hc0:=Blk.nth hS0 1;clear hS0 hS1;go_simp;try with_reducible rfl)
                        refine' twH 6 ⟨BB.out,YF.out⟩ ?_
                        refine' twH 8 ⟨BB.out,YF.out⟩ ?_
                        try simp only [pq]
                        refine' twH 9 ⟨BB.out,YF.out⟩ ?_
                        refine' tkH 10 ⟨BB.out,YF.out⟩ ?f7 ?_
                        case f7=>(rintro W' ⟨hS0,hS1⟩;have hc0:=Blk.nth hS0 0;clear hS0 hS1;go_simp;try with_reducible rfl)
                        refine' twH 11 ⟨BB.out,YF.out⟩ ?_
                        refine' tkH 12 ⟨BB.out,YF.out⟩ ?f8 ?_
                        case f8=>(rintro W' ⟨hS0,hS1⟩;go_simp;try with_reducible rfl)
                        try simp only [pq]
                        refine' twH 13 ⟨BB.out,YF.out⟩ ?_
                        refine' tkH 14 ⟨BB.out,YF.out⟩ ?f9 ?_
                        case f9=>(rintro W' ⟨hS0,hS1⟩;have hc0:=Blk.nth hS0 2;clear hS0 hS1;go_simp;try with_reducible rfl)
                        refine' twH 15 ⟨BB.out,YF.out⟩ ?_
                        try simp only [pq]
                        refine oneH 7 rfl fun K hK=>?_
                        have v7:a2.cell? ⟨gy,t,none⟩=some (.int .i64 vt):=YT.out
                        go_simp
                        clear v7
                        refine hK.out _ _ ⟨BB.out,YF.out⟩ (fun _=>?_);clear hK K
                        try simp only [pq]
                        refine oneH 16 rfl fun K hK=>?_
                        try rw [HWR.out]
                        go_simp
                        refine hK.out _ _ ⟨BB.out,YF.out⟩ (fun _=>?_);clear hK K
                        try simp only [pq]
                        refine' twH 17 ⟨BB.out,YF.out⟩ ?_
                        try simp only [pq]
                        refine oneH 18 rfl fun K hK=>?_
                        have v0:a2.cell? ⟨gy,t,none⟩=some (.int .i64 vt):=YT.out
                        have f0:a2.frozen? ⟨gy,t,none⟩=false:=Blk.frozen BY.out _
                        go_simp
                        have c4:=hid (Blk.far (BB.out) (p:=⟨gy,t,none⟩) (by simp;omega) (.int .i64 vt))
                        have c6:=hid (Blk.set_ (BY.out) t (.int .i64 vt))
                        have c7:=hid ((cell_far (q:=⟨g2,f,none⟩) YF.out (p:=⟨gy,t,none⟩) (by simp;omega) (.int .i64 vt)))
                        have c8:=hid (Below.setCell (BE.out) (p:=⟨gy,t,none⟩) (by simp;omega) (.int .i64 vt))
                        obtain ⟨g8,a9⟩:∃ w',w'=(a2.setCell ⟨gy,t,none⟩ (.int .i64 vt)):=⟨_,rfl⟩
                        rw [← a9] at c4 c6 c8 c7
                        rw [← a9]
                        clear a9 v0 f0
                        refine hK.out _ _ ⟨c4.out,c7.out⟩ (fun _=>?_);clear hK K
                        try simp only [pq]
                        refine wpAnyH_done (by kernel_rfl) ?_ _
                        have hby:=c6.out
                        rw [HIV.out] at hby
                        have HBYF:=hid hby;clear hby
                        go_wp2
                        go_roundw
                        case rel=>exact ⟨u+1,by omega,by go_num,by rw [ffold_take HX2.out,HRY.out];exact HBYF.out,c8.out⟩
                        case measure=>(simp [intOf];omega)
                      · have d2:min vt (vf+mm)=vf+mm:=Int.min_eq_right (by omega)
                        have d3:decide (vt≤vf+mm)=false:=decide_eq_false q2
                        have d4:decide (vf+mm<vt)=true:=decide_eq_true (by omega)
                        have d5:vf+mm<vt:=by omega
                        have HIV:=hid (iv_set (y:=y) (r:=ry) (show t<y.length by omega) (vf+mm))
                        have HRY:Hid (frelax x ((l.take u).foldl (frelax x) (fars q)) ⟨f,t,mm,i⟩=y.set t (vf+mm)):=hid (by rw [frelax_yes (by dsimp only;rw [HLK.out];exact q1),HY.out];dsimp only;rw [HLK.out,HLK2.out,d2,Int.toNat_natCast])
                        refine wp_region_held_drew (S:=(fun W'=>Blk W' wq.heap.size 70 #[.int .i64 (f:Int),.int .i64 (t:Int),.int .i64 mm,.int .i64 i]∧W'.cell? ⟨g2,f,none⟩=some (.int .i64 vf))) (by kernel_rfl) ⟨BB.out,YF.out⟩ (fun _=>?_)
                        obtain ⟨a3,b0⟩:∃ w',w'=W0.drew:=⟨_,rfl⟩
                        rw [← b0] at BB YF BY YT BE
                        rw [← b0]
                        clear b0
                        refine' twH 0 ⟨BB.out,YF.out⟩ ?_
                        refine' twH 1 ⟨BB.out,YF.out⟩ ?_
                        refine' tkH 2 ⟨BB.out,YF.out⟩ ?g0 ?_
                        case g0=>(rintro W' ⟨hS0,hS1⟩;have hc0:=Blk.nth hS0 1;clear hS0 hS1;go_simp;try with_reducible rfl)
                        refine' twH 3 ⟨BB.out,YF.out⟩ ?_
                        try simp only [pq]
                        refine' twH 4 ⟨BB.out,YF.out⟩ ?_
                        refine' tkH 5 ⟨BB.out,YF.out⟩ ?g1 ?_
                        case g1=>(rintro W' ⟨hS0,hS1⟩;have hc0:=Blk.nth hS0 1;clear hS0 hS1;go_simp;try with_reducible rfl)
                        refine' twH 6 ⟨BB.out,YF.out⟩ ?_
                        refine' twH 8 ⟨BB.out,YF.out⟩ ?_
                        try simp only [pq]
                        refine' twH 9 ⟨BB.out,YF.out⟩ ?_
                        refine' tkH 10 ⟨BB.out,YF.out⟩ ?g3 ?_
                        case g3=>(rintro W' ⟨hS0,hS1⟩;have hc0:=Blk.nth hS0 0;clear hS0 hS1;go_simp;try with_reducible rfl)
                        refine' twH 11 ⟨BB.out,YF.out⟩ ?_
                        refine' tkH 12 ⟨BB.out,YF.out⟩ ?g4 ?_
                        case g4=>(rintro W' ⟨hS0,hS1⟩;go_simp;try with_reducible rfl)
                        try simp only [pq]
                        refine' twH 13 ⟨BB.out,YF.out⟩ ?_
                        refine' tkH 14 ⟨BB.out,YF.out⟩ ?g5 ?_
                        case g5=>(rintro W' ⟨hS0,hS1⟩;have hc0:=Blk.nth hS0 2;clear hS0 hS1;go_simp;try with_reducible rfl)
                        refine' twH 15 ⟨BB.out,YF.out⟩ ?_
                        try simp only [pq]
                        refine oneH 7 rfl fun K hK=>?_
                        have v7:a3.cell? ⟨gy,t,none⟩=some (.int .i64 vt):=YT.out
                        go_simp
                        clear v7
                        refine hK.out _ _ ⟨BB.out,YF.out⟩ (fun _=>?_);clear hK K
                        try simp only [pq]
                        refine oneH 16 rfl fun K hK=>?_
                        try rw [HWR.out]
                        go_simp
                        refine hK.out _ _ ⟨BB.out,YF.out⟩ (fun _=>?_);clear hK K
                        try simp only [pq]
                        refine' twH 17 ⟨BB.out,YF.out⟩ ?_
                        try simp only [pq]
                        refine oneH 18 rfl fun K hK=>?_
                        have v0:a3.cell? ⟨gy,t,none⟩=some (.int .i64 vt):=YT.out
                        have f0:a3.frozen? ⟨gy,t,none⟩=false:=Blk.frozen BY.out _
                        go_simp
                        have c9:=hid (Blk.far (BB.out) (p:=⟨gy,t,none⟩) (by simp;omega) (.int .i64 (vf+mm)))
                        have d0:=hid (Blk.set_ (BY.out) t (.int .i64 (vf+mm)))
                        have d6:=hid ((cell_far (q:=⟨g2,f,none⟩) YF.out (p:=⟨gy,t,none⟩) (by simp;omega) (.int .i64 (vf+mm))))
                        have d7:=hid (Below.setCell (BE.out) (p:=⟨gy,t,none⟩) (by simp;omega) (.int .i64 (vf+mm)))
                        obtain ⟨g9,b1⟩:∃ w',w'=(a3.setCell ⟨gy,t,none⟩ (.int .i64 (vf+mm))):=⟨_,rfl⟩
                        rw [← b1] at c9 d0 d7 d6
                        rw [← b1]
                        clear b1 v0 f0
                        refine hK.out _ _ ⟨c9.out,d6.out⟩ (fun _=>?_);clear hK K
                        try simp only [pq]
                        refine wpAnyH_done (by kernel_rfl) ?_ _
                        have hby:=d0.out
                        rw [HIV.out] at hby
                        have HBYF:=hid hby;clear hby
                        go_wp2
                        go_roundw
                        case rel=>exact ⟨u+1,by omega,by go_num,by rw [ffold_take HX2.out,HRY.out];exact HBYF.out,d7.out⟩
                        case measure=>(simp [intOf];omega)
                    · have d1:decide (vf<1000000000)=false:=decide_eq_false q1
                      go_wp2
                      go_roundw
                      case rel=>exact ⟨u+1,by omega,by go_num,by rw [ffold_take HX2.out,HY.out,frelax_no (by dsimp only;rw [HLK.out];exact q1)];exact HBY2.out.alloc _,HBW.out.alloc HBW.out.size _⟩
                      case measure=>simp [intOf];omega
                  · obtain rfl:u=n:=by omega
                    have hby:=HBY.out
                    rw [List.take_of_length_le (by omega),show l.foldl (frelax x) (fars q)=frounds l q a m from HXS.out] at hby
                    have hyl:=frounds_length l q a m
                    have u1:wq.cell? ⟨gy,a,none⟩=some (.int .i64 (at_ (frounds l q a m) a)):=by rw [hby.cell,iv_get (by omega)]
                    have HBY2:=hid hby;clear hby HBY
                    have hhit:hitF l q a m=decide (at_ (frounds l q a m) a<0):=rfl
                    have HHIT:=hid hhit;clear hhit
                    have hrd:=iv_rd HBY2.out hyl (c:=d') (by omega)
                    have HRD:=hid hrd;clear hrd
                    obtain ⟨v8,hv8⟩:∃ v,at_ (frounds l q a m) a=v:=⟨_,rfl⟩
                    rw [hv8] at u1 HHIT;clear hv8
                    by_cases hneg:v8<0
                    · have d1:decide (v8<0)=true:=decide_eq_true hneg
                      rw [d1] at HHIT
                      have hst:=HSTEP.out
                      rw [HHIT.out,if_pos rfl] at hst
                      have HST:=hid hst;clear hst
                      go_wp2
                      go_roundw
                      case rel=>exact ⟨m+1,m,gy,d',by omega,by omega,by go_num,rfl,rfl,HRD.out,HST.out.symm,Blk.keep HBS.out HBW.out,HBT.out⟩
                      case measure=>simp [intOf];omega
                    · have d1:decide (v8<0)=false:=decide_eq_false hneg
                      rw [d1] at HHIT
                      have hst:=HSTEP.out
                      rw [HHIT.out,if_neg (by simp)] at hst
                      have HST:=hid hst;clear hst
                      go_wp2
                      go_roundw
                      case rel=>exact ⟨m+1,best,gy,d',by omega,by omega,by go_num,rfl,rfl,HRD.out,HST.out.symm,Blk.keep HBS.out HBW.out,HBT.out⟩
                      case measure=>simp [intOf];omega
            · have hb3:decide ((m:Int)<best)=false:=decide_eq_false (by omega)
              have hb4:¬ (m:Int)<best:=by omega
              have HSTOP:=hid (scanB_stop (l:=l) (p:=j) (a:=a) (m:=m) (best:=best) (j+1-m) (by omega))
              clear hstep
              go_wp2
              go_roundw
              case rel=>exact ⟨a+1,by omega,by go_num,by rw [HXE.out,← HSC.out,HSTOP.out],HBS.out,HBE.out⟩
              case measure=>simp [intOf];omega
        · obtain rfl:m=j+1:=by omega
          have hgt:¬ ((j+1:Nat):Int)≤j:=by omega
          have HSTOP:=hid (scanB_end (l:=l) (p:=j) (a:=a) (best:=best))
          go_wp2
          go_roundw
          case rel=>exact ⟨a+1,by omega,by go_num,by rw [HXE.out,← HSC.out,HSTOP.out],HBS.out,HBE.out⟩
          case measure=>simp [intOf];omega
  · obtain rfl:a=p:=by omega
    go_wp2
    go_ret
    exact ⟨rfl,HBE.out⟩
end Go.Proofs.YtjjmifcjailpaaaGreat
