import Derived.Shelf.Spec.SlicesInsertGrow
import Derived.Test.YtokpblmgdmokoaaGreatAVDel
import Derived.Test.YtokpblmgdmokoaaGreatAVAsg
set_option linter.unusedSimpArgs false
set_option linter.unusedVariables false
namespace Go.Proofs.YtokpblmgdmokoaaGreat
open Go.RowKit Go.Maps Go.Shelf
def laysIns_ren:Go.Shelf.Ren:=⟨fun|21=>103|27=>127|28=>128|35=>143|39=>165|n=>n,fun|22=>30|3=>3|4=>4|0=>0|n=>n,fun|n=>n⟩
theorem laysIns:Go.Proofs.Lays2.n21 Tryz.prog laysIns_ren:={
 mixed:=by kernel_rfl
 f21:=Tryz.func103.trans (congrArg some (by kernel_rfl))
 f27:=Tryz.func127.trans (congrArg some (by kernel_rfl))
 f28:=Tryz.func128.trans (congrArg some (by kernel_rfl))
 f35:=Tryz.func143.trans (congrArg some (by kernel_rfl))
 f39:=Tryz.func165.trans (congrArg some (by kernel_rfl))
 t0:=Tryz.underlying0
 a0:=Tryz.isAgg0
 z0:=Tryz.sizeOf0
 v0:=Tryz.zeroValue0
 t3:=Tryz.underlying3
 a3:=Tryz.isAgg3
 z3:=Tryz.sizeOf3
 v3:=Tryz.zeroValue3
 t4:=Tryz.underlying4
 a4:=Tryz.isAgg4
 z4:=Tryz.sizeOf4
 v4:=Tryz.zeroValue4
 t22:=Tryz.underlying30
 a22:=Tryz.isAgg30
 z22:=Tryz.sizeOf30
 v22:=Tryz.zeroValue30
 i3:=by kernel_rfl }
theorem ins_get (l:List Int) (i:Nat) (x:Int) (hi:i≤l.length) (j:Nat):(l.insertIdx i x)[j]?=if j<i then l[j]? else if j=i then some x else l[j-1]?:=by
 rw [List.getElem?_insertIdx]
 split
 · rfl
 · split
   · rename_i h;rw [if_pos (by omega)]
   · rfl
theorem insert_any (b n vb:Nat) (l:List Int) (i:Nat) (x:Int) (w:World) (hl:RdI w (some ⟨b,0,none⟩) n n l) (hn:n≤100000) (hi:i≤n) (hv:w.cell? ⟨vb,0,none⟩=some (.int .i64 x)):Calls Tryz.prog 103 #[.slice (some ⟨b,0,none⟩) n n,.int .i64 i,.slice (some ⟨vb,0,none⟩) 1 1] w fun e w'=>∃ g c,e=.returned (.slice (some ⟨g,0,none⟩) (n+1) c)∧RdI w' (some ⟨g,0,none⟩) (n+1) c (l.insertIdx i x)∧Below w.heap.size w w':=by
 have hcs:∀ j v,(l.map (Value.int .i64))[j]?=some v→w.cell? ⟨b,0+j,none⟩=some v:=by
  rcases hl.cells with h0|⟨b',o',e,hlt,hc⟩
  · intro j v hj;rw [h0] at hj;cases hj
  · injection e with e;injection e with e1 e2;subst e1 e2;exact hc
 have hvs:∀ j v,([.int .i64 x]:List Value)[j]?=some v→w.cell? ⟨vb,0+j,none⟩=some v:=by
  intro j v hj
  cases j with
  | zero=>simp at hj;subst hj;exact hv
  | succ j=>simp at hj
 have h1v:∀ v∈([.int .i64 x]:List Value),v.oneCell'=true:=fun v hv=>by rw [List.mem_singleton.1 hv];rfl
 have hll:(l.map (Value.int .i64)).length=n:=by rw [List.length_map];exact hl.len
 by_cases hin:i=n
 · subst hin
   refine (Any2.slices_Insert_int_end_grow laysIns (some ⟨b,0,none⟩) i i vb 0 1 1 (l.map (Value.int .i64)) [.int .i64 x] w (by omega) (Nat.le_refl _) (by omega) (by omega) hll rfl (fun h=>by cases h) (fun a ha j v hj=>by cases ha;rw [Addr.add_lit];exact hcs j v hj) hvs h1v).mono ?_
   rintro e w' ⟨rfl,rfl⟩
   refine ⟨w.heap.size,_,rfl,⟨by rw [List.length_insertIdx,hl.len,if_pos (by omega)],grownCap_ge _ _ _ _,fun h=>(by cases h),.inr ⟨w.heap.size,0,rfl,by simp,fun j v hj=>?_⟩⟩,((Below.refl _ w).drew).alloc (Nat.le_refl _) _⟩
   rw [Nat.zero_add]
   have e:(l.map (Value.int .i64)++[Value.int .i64 x])[j]?=some v:=by
    rw [List.getElem?_map,ins_get l i x (by rw [hl.len];exact hi)] at hj
    rw [List.getElem?_append]
    split at hj
    · rename_i h;rw [if_pos (by omega),List.getElem?_map];exact hj
    · split at hj
      · rename_i h1 h;subst h;rw [if_neg (by omega),hll,Nat.sub_self];exact hj
      · rw [List.getElem?_eq_none (by have:=hl.len;omega)] at hj;cases hj
   have hjl:j<(l.map (Value.int .i64)++[Value.int .i64 x]).length:=(List.getElem?_eq_some_iff.1 e).1
   refine (World.cell?_alloc_at (w:=w.drew) _ _ w.heap.size j rfl).trans ?_
   rw [Array.getElem?_append_left (by simpa using hjl)]
   simpa using e
 · refine (Any2.slices_Insert_int_grow laysIns b 0 n n i vb 0 1 1 (l.map (Value.int .i64)) [.int .i64 x] w (by omega) (by omega) (Nat.le_refl _) (by omega) (by omega) hll rfl hcs hvs (fun v hv=>by obtain ⟨y,-,rfl⟩:=List.mem_map.1 hv;rfl) h1v).mono ?_
   rintro e w' ⟨rfl,rfl⟩
   obtain ⟨ROW,hROW⟩:∃ ROW:Array Value,ROW=((l.map (Value.int .i64)).take i).toArray++Go.Builtin.zeroCells (Value.int .i64 0).cells (n+1-i)++Go.Builtin.zeroCells (Value.int .i64 0).cells (grownCap w (n+1) n (laysIns_ren.t 3)-(n+1)):=⟨_,rfl⟩
   rw [← hROW]
   have hsz:n+1≤ROW.size:=by
    rw [hROW]
    simp [Go.Builtin.zeroCells,Value.cells,hl.len]
    omega
   have hpre:∀ j,j<i→ROW[j]?=(l.map (Value.int .i64))[j]?:=fun j hj=>by
    rw [hROW,Array.append_assoc,Array.getElem?_append_left (by simp [hl.len];omega)]
    simp [List.getElem?_take,hj]
   clear hROW
   obtain ⟨W1,hW1⟩:∃ W,W=(w.alloc (.cells ROW (laysIns_ren.t 3))).drew:=⟨_,rfl⟩
   rw [← hW1]
   have hc1:∀ j,W1.cell? ⟨w.heap.size,j,none⟩=ROW[j]?:=fun j=>by rw [hW1];exact World.cell?_alloc_at (w:=w) ROW _ w.heap.size j rfl
   have hN:∀ j,j<n+1→(W1.cell? ⟨w.heap.size,j,none⟩).isSome=true:=fun j hj=>by rw [hc1,Array.getElem?_eq_getElem (by omega)];rfl
   have hb1:Below w.heap.size w W1:=by rw [hW1];exact Below.drew ((Below.refl _ w).alloc (Nat.le_refl _) _)
   have hs1:w.heap.size<W1.heap.size:=by rw [hW1];show w.heap.size<(w.alloc _).heap.size;simp
   clear hW1
   have hb2:Below w.heap.size w ((((W1).setCells w.heap.size i [.int .i64 x]).drew).setCells w.heap.size (i+1) ((l.map (Value.int .i64)).drop i)):=below_setCells (Nat.le_refl _) _ (Below.drew (below_setCells (Nat.le_refl _) _ hb1 _)) _
   refine ⟨w.heap.size,_,rfl,⟨by rw [List.length_insertIdx,hl.len,if_pos (by omega)],grownCap_ge _ _ _ _,fun h=>(by cases h),.inr ⟨w.heap.size,0,rfl,?_,fun j v hj=>?_⟩⟩,hb2⟩
   · exact Nat.lt_of_lt_of_le hs1 (below_setCells (Nat.zero_le _) _ (Below.drew (below_setCells (Nat.zero_le _) _ (Below.refl 0 W1) _)) _).size
   · rw [Nat.zero_add]
     have hN2:∀ j,j<n+1→((((W1).setCells w.heap.size i [.int .i64 x]).drew).cell? ⟨w.heap.size,j,none⟩).isSome=true:=fun j hj=>isSome_setCells w.heap.size [.int .i64 x] i W1 (fun q hq=>hN _ (by simp at hq;omega)) j (hN j hj)
     rw [List.getElem?_map,ins_get l i x (by rw [hl.len];exact hi)] at hj
     split at hj
     · rename_i h
       rw [World.cell?_setCells_out _ _ _ _ _ (fun _ _=>Or.inl (by show j<i+1;omega))]
       refine (World.cell?_setCells_out _ _ _ W1 _ (fun _ _=>Or.inl (by show j<i;omega))).trans ?_
       rw [hc1,hpre j h,List.getElem?_map]
       exact hj
     · split at hj
       · rename_i h1 h
         subst h
         rw [World.cell?_setCells_out _ _ _ _ _ (fun _ _=>Or.inl (by show j<j+1;omega))]
         refine (World.cell?_setCells_in w.heap.size [.int .i64 x] j W1 (fun q hq=>hN _ (by simp at hq;omega)) 0 (by simp)).trans ?_
         exact hj
       · rename_i h1 h
         have hjn:j-1<n:=by
          rcases Nat.lt_or_ge (j-1) n with h|h
          · exact h
          · rw [List.getElem?_eq_none (by rw [hl.len];exact h)] at hj;cases hj
         have hk:j-(i+1)<((l.map (Value.int .i64)).drop i).length:=by rw [List.length_drop,hll];omega
         have h5:=World.cell?_setCells_in w.heap.size ((l.map (Value.int .i64)).drop i) (i+1) (((W1).setCells w.heap.size i [.int .i64 x]).drew) (fun q hq=>hN2 _ (by rw [List.length_drop,hll] at hq;omega)) (j-(i+1)) hk
         rw [show i+1+(j-(i+1))=j by omega] at h5
         rw [h5,← List.getElem?_eq_getElem hk,List.getElem?_drop,show i+(j-(i+1))=j-1 by omega,List.getElem?_map]
         exact hj
end Go.Proofs.YtokpblmgdmokoaaGreat
