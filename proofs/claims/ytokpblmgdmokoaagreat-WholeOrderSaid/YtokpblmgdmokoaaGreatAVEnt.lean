import Derived.Test.YtokpblmgdmokoaaGreatAVChk
set_option linter.unusedSimpArgs false
set_option linter.unusedVariables false
namespace Go.Proofs.YtokpblmgdmokoaaGreat
open Go.RowKit Go.Maps Go.ChangeMaps Go.MapKept
open Go.WideElems (Fit rd rg pl rd_val elemAt)
open Go.Maps (Keyed)
section
variable {P:Program} {k:TypeId} {w:World} {b n:Nat} {D:DataW Unit}
theorem findIdx_last {es:Array MapEntry} {x:MapEntry} {c:Nat} (h:∀ y∈es.toList,y.born<c) (hx:x.born=c):(es.push x).findIdx? (fun e=>(e.born:Int) == ((c:Nat):Int))=some es.size:=by
 obtain ⟨l⟩:=es
 rw [List.push_toArray,List.findIdx?_toArray,List.findIdx?_append]
 have h1:l.findIdx? (fun e=>(e.born:Int) == ((c:Nat):Int))=none:=by
  rw [List.findIdx?_eq_none_iff]
  intro y hy
  have:=h y hy
  simp
  omega
 rw [h1]
 simp [hx]
theorem findIdx_born {es:Array MapEntry} {j:Nat} {x:MapEntry} (hnd:(es.toList.map (·.born)).Nodup) (hj:es.toList[j]?=some x):es.findIdx? (fun e=>(e.born:Int) == ((x.born:Nat):Int))=some j:=by
 obtain ⟨l⟩:=es
 rw [List.findIdx?_toArray,List.findIdx?_eq_some_iff_getElem]
 dsimp only at hnd hj
 obtain ⟨hl,rfl⟩:=List.getElem?_eq_some_iff.1 hj
 refine ⟨hl,by simp,fun i hi=>?_⟩
 simp only [beq_iff_eq]
 intro e
 have e2:(l[i]'(by omega)).born=l[j].born:=by omega
 have hne:=List.pairwise_iff_getElem.1 hnd i j (by simpa using (by omega:i<l.length)) (by simpa using hl) hi
 simp only [List.getElem_map] at hne
 exact hne e2
theorem modify_last (es:Array MapEntry) (x:MapEntry) (f:MapEntry→MapEntry):(es.push x).modify es.size f=es.push (f x):=by
 obtain ⟨l⟩:=es
 apply Array.ext'
 rw [Array.toList_modify]
 apply List.ext_getElem?
 intro i
 rw [List.getElem?_modify]
 by_cases h:l.length=i
 · subst h;simp
 · by_cases h2:i<l.length
   · simp [h,List.getElem?_append_left h2]
   · simp only [List.push_toArray,h,if_false]
     rw [List.getElem?_append_right (by omega),List.getElem?_append_right (by omega),List.getElem?_eq_none (by simp;omega),List.getElem?_eq_none (by simp;omega)]
     rfl
theorem modify_congr {es:Array MapEntry} {j:Nat} {x:MapEntry} (f g:MapEntry→MapEntry) (hj:es[j]?=some x) (hf:f x=g x):es.modify j f=es.modify j g:=by
 apply Array.ext'
 rw [Array.toList_modify,Array.toList_modify]
 apply List.ext_getElem?
 intro i
 rw [List.getElem?_modify,List.getElem?_modify]
 by_cases h:j=i
 · subst h
   have:es.toList[j]?=some x:=by simpa using hj
   simp [this,hf]
 · simp [h]
theorem modify_same {es:Array MapEntry} {j:Nat} {x:MapEntry} (f:MapEntry→MapEntry) (hj:es[j]?=some x) (hf:f x=x):es.modify j f=es:=by
 apply Array.ext'
 rw [Array.toList_modify]
 apply List.ext_getElem?
 intro i
 rw [List.getElem?_modify]
 by_cases h:j=i
 · subst h
   have:es.toList[j]?=some x:=by simpa using hj
   simp [this,hf]
 · simp [h]
theorem entryI {t e:TypeId} (h:w.ownsMap P k (plainElem P e) b n D) (K:Keyed P k) (ht:P.underlying t=some (.map k e)) (he:P.underlying e=some (.int .i64)) (hz:∀ w,(zeroValue e).run P w=.ok (.int .i64 0) w) (hn:n+1<maxLen)
 {key:Value} {kl:Lit} (hkey:keyOf P k key=some kl) (a:Int) (ha:D.atKey kl (.lit (.int .i64 0))=.lit (.int .i64 a)) :
 ∃ (st:Nat) (w1:World),(Instr.mapEntry t (.map (some b)) key).run P w=.ok (.tuple #[.int .i64 a,.int .i64 st]) w1∧(Instr.lookup t (.map (some b)) key false).run P w=.ok (.int .i64 a) w∧(Instr.lookup t (.map (some b)) key false).run P w1=.ok (.int .i64 a) w1∧w.mapTurned w1 b ∧
  (∃ D1:DataW Unit,w1.ownsMap P k (plainElem P e) b (n+1) D1∧D1.atKey kl (.lit (.int .i64 0))=.lit (.int .i64 a))∧∀ c:Int,(Lit.int .i64 c).wf=true→∃ w2,(Instr.entryStore t (.map (some b)) (.int .i64 st) (.int .i64 c)).run P w1=.ok () w2∧w2.ownsMap P k (plainElem P e) b (n+1) (D.put kl (.lit (.int .i64 c)))∧w.mapTurned w2 b:=by
 have hst:=fun (c:Int) (hc:(Lit.int .i64 c).wf=true)=>h.store K ht (by omega) (val:=.int .i64 c) hkey (plainElem_int (H:=Unit) he hc)
 obtain ⟨c0,hlk,hc0,-⟩:=h.lookup_int K ht he (hz w) hkey
 have e0:c0=a:=by rw [ha] at hc0;injection hc0 with hc0;injection hc0 with _ hc0;exact hc0.symm
 subst e0
 have h0:=h
 obtain ⟨es,clock,hb,F,hs,hD⟩:=h
 rcases K.find w hkey es.toList F.keys with ⟨h1,h2⟩|⟨j,x,h1,h2,h3⟩
 · have hup:∀ c,(Instr.mapUpdate t (.map (some b)) key (.int .i64 c)).run P w=.ok () (setBlock w b (.map (es.push ⟨key,.int .i64 c,clock⟩) (clock+1))):=fun c=>by
    simp [Instr.mapUpdate,run_underlying ht,MapKept.run_getObj_map hb,K.check w false hkey,h1,MapKept.run_setObj_map _ hb,Result.andThen,setBlock]
   have ha0:c0=0:=by
    have hl2:(Instr.lookup t (.map (some b)) key false).run P w=.ok (.int .i64 0) w:=by
     simp [Instr.lookup,run_underlying ht,MapKept.run_getObj_map hb,K.check w _ hkey,h1,hz w,Result.andThen]
    rw [hl2] at hlk
    injection hlk with hlk
    injection hlk with _ hlk
    exact hlk.symm
   subst ha0
   have hb1:=heap_setBlock_same (w:=w) (b:=b) hb (.map (es.push ⟨key,.int .i64 0,clock⟩) (clock+1))
   refine ⟨clock,setBlock w b (.map (es.push ⟨key,.int .i64 0,clock⟩) (clock+1)),?_,hlk,?_,⟨es,clock,_,_,hb,rfl⟩,?_,fun c hc=>?_⟩
   · simp [Instr.mapEntry,run_underlying ht,MapKept.run_getObj_map hb,K.check w false hkey,h1,hz w,MapKept.run_setObj_map _ hb,Result.andThen,setBlock,goInt]
   · obtain ⟨w',hr,hown,-⟩:=hst 0 (by decide)
     rw [hup 0] at hr
     injection hr with _ hr
     subst hr
     obtain ⟨c1,hr1,hc1,-⟩:=hown.lookup_int K ht he (hz _) hkey
     have:c1=0:=by
      have hD0:IsMap D:=h0.isMap
      rw [atKey_put_same hD0 (K.key hkey)] at hc1
      injection hc1 with hc1
      injection hc1 with _ hc1
      exact hc1.symm
     rw [this] at hr1
     exact hr1
   · obtain ⟨w',hr,hown,-⟩:=hst 0 (by decide)
     rw [hup 0] at hr
     injection hr with _ hr
     subst hr
     exact ⟨_,hown,atKey_put_same h0.isMap (K.key hkey) _ _⟩
   · obtain ⟨w',hr,hown,-⟩:=hst c hc
     rw [hup c] at hr
     injection hr with _ hr
     refine ⟨w',?_,hown,?_⟩
     · have hfi:=findIdx_last (x:=⟨key,.int .i64 0,clock⟩) F.stamped.1 rfl
       simp [Instr.entryStore,MapKept.run_getObj_map hb1,asInt,asIntOf,hfi,MapKept.run_setObj_map _ hb1,Result.andThen]
       rw [← hr]
       simp [setBlock,modify_last]
     · rw [← hr]
       exact ⟨es,clock,_,_,hb,rfl⟩
 · have hj:es[j]?=some x:=by simpa using h2
   have hms:∀ f:MapEntry→MapEntry,f x=x→es.modify j f=es:=fun f hf=>modify_same f hj hf
   have hup:∀ c,(Instr.mapUpdate t (.map (some b)) key (.int .i64 c)).run P w=.ok () (setBlock w b (.map (es.modify j fun e'=>{ e' with key:=key,val:=.int .i64 c }) clock)):=fun c=>by
    simp [Instr.mapUpdate,run_underlying ht,MapKept.run_getObj_map hb,K.check w false hkey,h1,hj,h3,K.stays w hkey,MapKept.run_setObj_map _ hb,Result.andThen,setBlock]
   have hv:x.val=.int .i64 c0:=by
    have hl2:(Instr.lookup t (.map (some b)) key false).run P w=.ok x.val w:=by
     simp [Instr.lookup,run_underlying ht,MapKept.run_getObj_map hb,K.check w _ hkey,h1,Result.andThen]
    rw [hl2] at hlk
    injection hlk with hlk
   have hsame:es.modify j (fun e'=>{ e' with key:=key })=es:=hms _ (by rw [← h3])
   have hw1:setBlock w b (.map es clock)=w:=by
    unfold setBlock
    have:w.heap.setIfInBounds b (.map es clock)=w.heap:=by
     apply Array.ext'
     rw [Array.toList_setIfInBounds]
     apply List.ext_getElem?
     intro i
     rw [List.getElem?_set]
     by_cases h:b=i
     · subst h
       have hlt:=(Array.getElem?_eq_some_iff.1 hb).1
       have hb':w.heap.toList[b]?=some (.map es clock):=by simpa using hb
       simp [hlt,hb']
       exact (Array.getElem?_eq_some_iff.1 hb).2.symm
     · simp [h]
    rw [this]
   refine ⟨x.born,w,?_,hlk,hlk,⟨es,clock,es,clock,hb,hw1.symm⟩,⟨D,⟨es,clock,hb,F,by omega,hD⟩,ha⟩,fun c hc=>?_⟩
   · simp [Instr.mapEntry,run_underlying ht,MapKept.run_getObj_map hb,K.check w false hkey,h1,hj,h3,K.stays w hkey,MapKept.run_setObj_map _ hb,Result.andThen,goInt,hv,hsame]
     exact hw1
   · obtain ⟨w',hr,hown,-⟩:=hst c hc
     rw [hup c] at hr
     injection hr with _ hr
     refine ⟨w',?_,hown,?_⟩
     · have hfi:=findIdx_born F.stamped.2.1 h2
       simp [Instr.entryStore,MapKept.run_getObj_map hb,asInt,asIntOf,hfi,MapKept.run_setObj_map _ hb,Result.andThen]
       rw [← hr]
       rw [modify_congr (fun e=>{ e with val:=.int .i64 c }) (fun e'=>{ e' with key:=key,val:=.int .i64 c }) hj (by rw [← h3])]
       rfl
     · rw [← hr]
       exact ⟨es,clock,_,_,hb,rfl⟩
end
end Go.Proofs.YtokpblmgdmokoaaGreat
