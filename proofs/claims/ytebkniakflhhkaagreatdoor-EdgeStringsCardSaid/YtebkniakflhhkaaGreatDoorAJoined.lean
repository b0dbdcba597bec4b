import Derived.Test.YtebkniakflhhkaaGreatDoorASet
set_option linter.unusedSimpArgs false
set_option linter.unusedVariables false
namespace Go.Proofs.YtebkniakflhhkaaGreatDoor
open Go.Lib (hid)
open Go.RowKit
theorem Cells.hc {w:World} {A:Option Addr} {cs:List Value} (h:Cells w A cs):∀ ad,A=some ad→∀ j u,cs[j]?=some u→w.cell? (ad.add j)=some u:=by
 intro ad hA j u hu
 rcases h with rfl|⟨b,o,e,_,hc⟩
 · simp at hu
 · rw [hA] at e
   injection e with e
   subst e
   rw [Addr.add_lit]
   exact hc j u hu
theorem infoB:(Tryz.prog.info? 50).map (fun i=>(i.zero,i.size,i.bytes))=some (some (.agg #[.int .i64 0,.int .i64 0,.int .i64 0,.int .i64 0]),4,32):=by kernel_rfl
theorem infoI:(Tryz.prog.info? 3).map (fun i=>(i.zero,i.size,i.bytes))=some (some (.int .i64 0),1,8):=by kernel_rfl
theorem bcells_append (l m:List Bnd):bcells (l++m)=bcells l++bcells m:=by simp [bcells]
theorem RdB.nil_ (w:World):RdB w none 0 0 []:=⟨rfl,Nat.le_refl _,fun _=>⟨rfl,rfl⟩,.inl rfl⟩
theorem RdI.nil_ (w:World):RdI w none 0 0 []:=⟨rfl,Nat.le_refl _,fun _=>⟨rfl,rfl⟩,.inl rfl⟩
theorem RdB.grown {w w':World} {A:Option Addr} {n c:Nat} {l:List Bnd} (h:RdB w A n c l) {B:Nat} (hB:w.heap.size≤B) {wm:World} (h1:Below w.heap.size w wm) {row:Option Nat} (hg:wm.grownBy w' row) (hr:∀ k,row=some k→B≤k) (hBm:B≤wm.heap.size):RdB w' A n c l :=
 h.below (h1.grown hg (Nat.le_trans hB hBm) (fun k e=>Nat.le_trans hB (hr k e)))
set_option maxRecDepth 100000 in
set_option maxHeartbeats 1000000 in
theorem joinedI_any (A B:Option Addr) (n c m d:Nat) (l k:List Int) (w:World) (hl:RdI w A n c l) (hk:RdI w B m d k) (hs:n+m≤100000) :
 Calls Tryz.prog 157 #[.slice A n c,.slice B m d] w fun e w'=>∃ g,e=.returned (.slice (some ⟨g,0,none⟩) (n+m) (n+m))∧OwnI w' w.heap.size (some ⟨g,0,none⟩) (n+m) (n+m) (l++k)∧Below w.heap.size w w':=by
 obtain ⟨i0,hi0,hz0,hz1,hz2⟩:=info_parts infoI
 have HLA:=hid hl;have HKB:=hid hk;clear hl hk
 have HI:=hid hi0;have HZ0:=hid hz0;have HZ1:=hid hz1;have HZ2:=hid hz2;clear hi0 hz0 hz1 hz2
 have hnm:((n:Int)+(m:Int))=((n+m:Nat):Int):=by omega
 have HNM:=hid hnm;clear hnm
 go_enter Tryz.func157,Tryz.ntmps157
 go_wp2_with (first
  | (at_make;(refine wpList_make_own _ rfl _ _ 51 rfl w.heap.size 3 i0 _ 1 Tryz.underlying51 HI.out HZ0.out HZ1.out .i64 .i64 _ (n+m) rfl rfl HNM.out (by rw [HZ2.out];omega) (by unfold maxLen;omega) (Nat.le_refl _) ?_);intro w1 hown1 hg1;have HO1:=hid hown1;have HG1:=hid hg1;clear hown1 hg1)
  | (at_builtin;refine wpList_append_fits_any _ rfl (.tmp 12) (.tmp 13) 51 rfl w.heap.size 3 i0 1 Tryz.underlying51 HI.out HZ1.out w.heap.size 0 (n+m) [] rfl HO1.out A n c (l.map (Value.int .i64)) rfl (by rw [List.length_map,HLA.out.len,Nat.mul_one]) HLA.out.nil (HLA.out.below ((Below.refl _ w).grown HG1.out (Nat.le_refl _) (fun _ e=>by cases e))).cells.hc (ints_oneCell _ l) (by omega) ?_;intro w2 hown2 hg2;simp only [Nat.zero_add,List.nil_append] at hown2;have HO2:=hid hown2;have HG2:=hid hg2;clear hown2 hg2)
  | (at_builtin;(refine wpList_append_fits_any _ rfl (.tmp 15) (.tmp 16) 51 rfl w.heap.size 3 i0 1 Tryz.underlying51 HI.out HZ1.out w.heap.size n (n+m) (l.map (Value.int .i64)) rfl HO2.out B m d (k.map (Value.int .i64)) rfl (by rw [List.length_map,HKB.out.len,Nat.mul_one]) HKB.out.nil (HKB.out.below (((Below.refl _ w).grown HG1.out (Nat.le_refl _) (fun _ e=>by cases e)).grown HG2.out HG1.out.size (fun g e=>by injection e with e;omega))).cells.hc (ints_oneCell _ k) (by omega) ?_);intro w3 hown3 hg3;have HO3:=hid hown3;have HG3:=hid hg3;clear hown3 hg3))
 go_ret
 refine ⟨w.heap.size,rfl,by unfold OwnI;rw [List.map_append];exact HO3.out,?_⟩
 exact (((Below.refl _ w).grown HG1.out (Nat.le_refl _) (fun _ e=>by cases e)).grown HG2.out HG1.out.size (fun g e=>by injection e with e;omega)).grown HG3.out (Nat.le_trans HG1.out.size HG2.out.size) (fun g e=>by injection e with e;omega)
end Go.Proofs.YtebkniakflhhkaaGreatDoor
