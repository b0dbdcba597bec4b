import Derived.Test.YtebkniakflhhkaaGreatDoorAEMax
import Derived.Test.YtebkniakflhhkaaGreatDoorAEJoinM
set_option linter.unusedSimpArgs false
set_option linter.unusedVariables false
namespace Go.Proofs.YtebkniakflhhkaaGreatDoor
open Go.RowKit
theorem rdB_new (w:World) (L:List Bnd) (n:Nat) (hn:L.length=n):RdB (w.alloc (.cells (bcells L).toArray 50)) (some ⟨w.heap.size,0,none⟩) n n L:=by
 refine ⟨hn,Nat.le_refl _,(fun h=>by cases h),.inr ⟨w.heap.size,0,rfl,by simp,fun j u hu=>?_⟩⟩
 rw [Nat.zero_add,(Blk.new w 50 (bcells L).toArray).cell j]
 simpa using hu
theorem rdB_newP (w:World) (p:Prg):RdB (w.alloc (.cells #[.int .i64 p.af,.int .i64 p.at2,.int .i64 p.bf,.int .i64 p.bt] 25)) (some ⟨w.heap.size,0,none⟩) 1 1 [pB p]:=by
 refine ⟨rfl,Nat.le_refl _,(fun h=>by cases h),.inr ⟨w.heap.size,0,rfl,by simp,fun j u hu=>?_⟩⟩
 rw [Nat.zero_add,(Blk.new w 25 #[.int .i64 p.af,.int .i64 p.at2,.int .i64 p.bf,.int .i64 p.bt]).cell j]
 simpa [bcells,Bnd.cells,pB] using hu
set_option maxRecDepth 100000 in
theorem ffirst_any (w:World):Calls Tryz.prog 9 #[] w fun e w'=>∃ A B,e=.returned (.agg #[.int .i64 3,.slice A 6 6,.slice B 4 4])∧RdB w' A 6 6 fW∧RdB w' B 4 4 fT∧Below w.heap.size w w':=by
 go_enter Tryz.func9,Tryz.ntmps9
 go_wp2
 have hb0:=(Below.refl w.heap.size w).alloc (Nat.le_refl _) (.cells #[.int .i64 3,.slice (some ⟨w.heap.size+1,0,none⟩) 6 6,.slice (some ⟨w.heap.size+1+1,0,none⟩) 4 4] 35)
 have h1:=rdB_new (w.alloc (.cells #[.int .i64 3,.slice (some ⟨w.heap.size+1,0,none⟩) 6 6,.slice (some ⟨w.heap.size+1+1,0,none⟩) 4 4] 35)) fW 6 rfl
 have h2:=rdB_new ((w.alloc (.cells #[.int .i64 3,.slice (some ⟨w.heap.size+1,0,none⟩) 6 6,.slice (some ⟨w.heap.size+1+1,0,none⟩) 4 4] 35)).alloc (.cells #[.int .i64 0,.int .i64 1,.int .i64 12,.int .i64 1,.int .i64 1,.int .i64 0,.int .i64 (-10),.int .i64 1,.int .i64 1,.int .i64 2,.int .i64 22,.int .i64 2,.int .i64 2,.int .i64 1,.int .i64 (-20),.int .i64 2,.int .i64 2,.int .i64 3,.int .i64 5,.int .i64 3,.int .i64 3,.int .i64 2,.int .i64 (-5),.int .i64 3] 50)) fT 4 rfl
 simp only [World.size_alloc] at h1 h2
 refine bodyPost_ret (v:=.agg #[.int .i64 3,.slice (some ⟨w.heap.size+1,0,none⟩) 6 6,.slice (some ⟨w.heap.size+1+1,0,none⟩) 4 4]) (by simp [results,Tryz.results9,go_sem]) rfl ⟨_,_,rfl,h1.alloc _,h2,?_⟩
 exact (hb0.alloc (by simp) _).alloc (by simp;omega) _
set_option maxRecDepth 100000 in
theorem sfirst_any (w:World):Calls Tryz.prog 10 #[] w fun e w'=>∃ A B,e=.returned (.agg #[.int .i64 3,.slice A 6 6,.slice B 4 4])∧RdB w' A 6 6 sW∧RdB w' B 4 4 sT∧Below w.heap.size w w':=by
 go_enter Tryz.func10,Tryz.ntmps10
 go_wp2
 have hb0:=(Below.refl w.heap.size w).alloc (Nat.le_refl _) (.cells #[.int .i64 3,.slice (some ⟨w.heap.size+1,0,none⟩) 6 6,.slice (some ⟨w.heap.size+1+1,0,none⟩) 4 4] 35)
 have h1:=rdB_new (w.alloc (.cells #[.int .i64 3,.slice (some ⟨w.heap.size+1,0,none⟩) 6 6,.slice (some ⟨w.heap.size+1+1,0,none⟩) 4 4] 35)) sW 6 rfl
 have h2:=rdB_new ((w.alloc (.cells #[.int .i64 3,.slice (some ⟨w.heap.size+1,0,none⟩) 6 6,.slice (some ⟨w.heap.size+1+1,0,none⟩) 4 4] 35)).alloc (.cells #[.int .i64 0,.int .i64 1,.int .i64 25,.int .i64 6,.int .i64 1,.int .i64 0,.int .i64 (-20),.int .i64 6,.int .i64 1,.int .i64 2,.int .i64 15,.int .i64 7,.int .i64 2,.int .i64 1,.int .i64 (-11),.int .i64 7,.int .i64 2,.int .i64 3,.int .i64 9,.int .i64 8,.int .i64 3,.int .i64 2,.int .i64 (-9),.int .i64 8] 50)) sT 4 rfl
 simp only [World.size_alloc] at h1 h2
 refine bodyPost_ret (v:=.agg #[.int .i64 3,.slice (some ⟨w.heap.size+1,0,none⟩) 6 6,.slice (some ⟨w.heap.size+1+1,0,none⟩) 4 4]) (by simp [results,Tryz.results10,go_sem]) rfl ⟨_,_,rfl,h1.alloc _,h2,?_⟩
 exact (hb0.alloc (by simp) _).alloc (by simp;omega) _
theorem of_any (a b c d:Int) (w:World):Calls Tryz.prog 12 #[.int .i64 a,.int .i64 b,.int .i64 c,.int .i64 d] w fun e w'=>e=.returned (.agg #[.int .i64 a,.int .i64 b,.int .i64 c,.int .i64 d])∧Below w.heap.size w w':=by
 go_enter Tryz.func12,Tryz.ntmps12
 go_wp2
 refine bodyPost_ret (v:=.agg #[.int .i64 a,.int .i64 b,.int .i64 c,.int .i64 d]) (by simp [results,Tryz.results12,go_sem]) rfl ⟨rfl,(by (repeat (first|exact Below.refl _ _|refine Below.drew ?_|refine Below.alloc ?_ (by simp) _)))⟩
theorem j_meets (w:World) (A B C D:Option Addr) (h1:RdB w A 6 6 fW) (h2:RdB w B 4 4 fT) (h3:RdB w C 6 6 sW) (h4:RdB w D 4 4 sT):Calls Tryz.prog 11 #[.agg #[.int .i64 3,.slice A 6 6,.slice B 4 4],.agg #[.int .i64 3,.slice C 6 6,.slice D 4 4],.agg #[.int .i64 0,.int .i64 2,.int .i64 0,.int .i64 2]] w fun e w'=>e=.returned (.tuple #[.bool true,.int .i64 0])∧Below w.heap.size w w':=by
 have h:=Meets_any 3 A B 6 6 4 4 fW fT 3 C D 6 6 4 4 sW sT 0 2 0 2 w h1 h2 (by unfold maxLen;omega) (by unfold maxLen;omega) h3 h4 (by unfold maxLen;omega) (by unfold maxLen;omega)
 rw [show meetsV ⟨3,fW,fT⟩ ⟨3,sW,sT⟩ ⟨0,2,0,2⟩=(true,0) from jn_meets] at h
 exact h
theorem j_not (w:World) (A B C D:Option Addr) (h1:RdB w A 6 6 fW) (h2:RdB w B 4 4 fT) (h3:RdB w C 6 6 sW) (h4:RdB w D 4 4 sT):Calls Tryz.prog 11 #[.agg #[.int .i64 3,.slice A 6 6,.slice B 4 4],.agg #[.int .i64 3,.slice C 6 6,.slice D 4 4],.agg #[.int .i64 0,.int .i64 1,.int .i64 0,.int .i64 1]] w fun e w'=>e=.returned (.tuple #[.bool false,.int .i64 0])∧Below w.heap.size w w':=by
 have h:=Meets_any 3 A B 6 6 4 4 fW fT 3 C D 6 6 4 4 sW sT 0 1 0 1 w h1 h2 (by unfold maxLen;omega) (by unfold maxLen;omega) h3 h4 (by unfold maxLen;omega) (by unfold maxLen;omega)
 rw [show meetsV ⟨3,fW,fT⟩ ⟨3,sW,sT⟩ ⟨0,1,0,1⟩=(false,0) from jn_not] at h
 exact h
theorem j_shared (w:World) (A B C D:Option Addr) (h1:RdB w A 6 6 fW) (h2:RdB w B 4 4 fT) (h3:RdB w C 6 6 sW) (h4:RdB w D 4 4 sT):Calls Tryz.prog 13 #[.agg #[.int .i64 3,.slice A 6 6,.slice B 4 4],.agg #[.int .i64 3,.slice C 6 6,.slice D 4 4],.agg #[.int .i64 0,.int .i64 1,.int .i64 1,.int .i64 2]] w fun e w'=>e=.returned (.tuple #[.int .i64 11,.int .i64 12,.int .i64 0])∧Below w.heap.size w w':=by
 have h:=Shared_any 3 A B 6 6 4 4 fW fT 3 C D 6 6 4 4 sW sT 0 1 1 2 w h1 h2 (by unfold maxLen;omega) (by unfold maxLen;omega) h3 h4 (by unfold maxLen;omega) (by unfold maxLen;omega)
 rw [show sharedV ⟨3,fW,fT⟩ ⟨3,sW,sT⟩ ⟨0,1,1,2⟩=(11,12,0) from jn_shared] at h
 exact h
theorem j_long (w:World) (A B C D:Option Addr) (h1:RdB w A 6 6 fW) (h2:RdB w B 4 4 fT) (h3:RdB w C 6 6 sW) (h4:RdB w D 4 4 sT):Calls Tryz.prog 15 #[.agg #[.int .i64 3,.slice A 6 6,.slice B 4 4],.agg #[.int .i64 3,.slice C 6 6,.slice D 4 4]] w fun e w'=>e=.returned (.tuple #[.int .i64 2,.int .i64 0])∧Below w.heap.size w w':=by
 have h:=Longest_any 3 A B 6 6 4 4 fW fT 3 C D 6 6 4 4 sW sT w h1 h2 (by unfold maxLen;omega) (by unfold maxLen;omega) h3 h4 (by unfold maxLen;omega) (by unfold maxLen;omega)
 rw [show longV ⟨3,fW,fT⟩ ⟨3,sW,sT⟩=(2,0) from jn_long] at h
 exact h
theorem j_max (w:World) (A B C D:Option Addr) (h1:RdB w A 6 6 fW) (h2:RdB w B 4 4 fT) (h3:RdB w C 6 6 sW) (h4:RdB w D 4 4 sT):Calls Tryz.prog 14 #[.agg #[.int .i64 3,.slice A 6 6,.slice B 4 4],.agg #[.int .i64 3,.slice C 6 6,.slice D 4 4]] w fun e w'=>∃ E c,e=.returned (.tuple #[.slice E 1 c,.int .i64 0])∧RdB w' E 1 c ([⟨0,2,0,2⟩].map pB)∧Below w.heap.size w w':=by
 refine (Maximal_any 3 A B 6 6 4 4 fW fT 3 C D 6 6 4 4 sW sT w h1 h2 (by unfold maxLen;omega) (by unfold maxLen;omega) h3 h4 (by unfold maxLen;omega) (by unfold maxLen;omega)).mono ?_
 rintro e w' ⟨L,E,n,c,rfl,hr,hnd,hm,_,hb⟩
 rw [show both ⟨3,fW,fT⟩ ⟨3,sW,sT⟩=0 from jn_both]
 have hS:allL ⟨3,fW,fT⟩ ⟨3,sW,sT⟩ (mostN ⟨3,fW,fT⟩ ⟨3,sW,sT⟩)=[⟨0,1,1,2⟩,⟨1,2,0,1⟩,⟨0,2,0,2⟩]:=jn_all
 have hB:both ⟨3,fW,fT⟩ ⟨3,sW,sT⟩=0:=jn_both
 rw [hS] at hm
 have h2:∀ p,p∈prs (sortY L) ↔ p=⟨0,2,0,2⟩:=by
  intro p
  rw [hm]
  constructor
  · rintro ⟨_,h,ht⟩
    simp only [List.mem_cons,List.not_mem_nil,or_false] at h
    rcases h with rfl|rfl|rfl
    · exact absurd ht (by decide +kernel)
    · exact absurd ht (by decide +kernel)
    · rfl
  · rintro rfl
    exact ⟨hB,by simp,by decide +kernel⟩
 have h3:prs (sortY L)=[⟨0,2,0,2⟩]:=by
  generalize prs (sortY L)=R at hnd h2
  match R,hnd,h2 with
  | [],_,h2=>exact absurd ((h2 ⟨0,2,0,2⟩).2 rfl) (by simp)
  | [x],_,h2=>rw [(h2 x).1 (by simp)]
  | x::y::l,hnd,h2 =>
   have hx:=(h2 x).1 (by simp)
   have hy:=(h2 y).1 (by simp)
   rw [hx,hy] at hnd
   simp at hnd
 rw [h3] at hr
 obtain rfl:n=1:=hr.len.symm
 exact ⟨E,c,rfl,hr,hb⟩
theorem j_with (w:World) (C D:Option Addr) (h3:RdB w C 6 6 sW) (h4:RdB w D 4 4 sT):Calls Tryz.prog 16 #[.agg #[.int .i64 3,.slice C 6 6,.slice D 4 4],.bool true,.agg #[.int .i64 0,.int .i64 1,.int .i64 (-101),.int .i64 11]] w fun e w'=>∃ E k G l,e=.returned (.tuple #[.agg #[.int .i64 3,.slice E 6 k,.slice G 5 l],.int .i64 0])∧RdB w' E 6 k sW∧RdB w' G 5 l (sT++[⟨0,1,-101,11⟩])∧Below w.heap.size w w':=by
 have h:=With_any 3 C D 6 6 4 4 sW sT w h3 h4 (by unfold maxLen;omega) (by unfold maxLen;omega) true 0 1 (-101) 11
 rw [show withE true ⟨3,sW,sT⟩ ⟨0,1,-101,11⟩=0 from jn_withE,show withO true ⟨3,sW,sT⟩ ⟨0,1,-101,11⟩=cO from jn_with] at h
 refine h.mono ?_
 rintro e w' ⟨E,n,k,G,m,l,rfl,r1,r2,_,_,hb⟩
 rw [if_pos rfl] at r1 r2
 obtain rfl:n=6:=r1.len.symm
 obtain rfl:m=5:=r2.len.symm
 exact ⟨E,k,G,l,rfl,r1,r2,hb⟩
theorem j_clash (w:World) (A B:Option Addr) (h1:RdB w A 6 6 fW) (h2:RdB w B 4 4 fT) (E:Option Addr) (k:Nat) (G:Option Addr) (l:Nat) (h3:RdB w E 6 k sW) (h4:RdB w G 5 l (sT++[⟨0,1,-101,11⟩])) :
 Calls Tryz.prog 17 #[.agg #[.int .i64 3,.slice A 6 6,.slice B 4 4],.agg #[.int .i64 3,.slice E 6 k,.slice G 5 l],.agg #[.int .i64 0,.int .i64 2,.int .i64 0,.int .i64 2]] w fun e w'=>∃ I c,e=.returned (.tuple #[.agg #[.bool true,.slice I 2 c],.bool true,.int .i64 0])∧Below w.heap.size w w':=by
 have h:=Clash_any 3 A B 6 6 4 4 fW fT 3 E G 6 k 5 l sW (sT++[⟨0,1,-101,11⟩]) 0 2 0 2 w h1 h2 (by unfold maxLen;omega) (by unfold maxLen;omega) h3 h4 (by unfold maxLen;omega) (by unfold maxLen;omega)
 refine h.mono ?_
 obtain ⟨q1,q2,q3⟩:=jn_clash
 change (clashV ⟨3,fW,fT⟩ ⟨3,sW,sT++[⟨0,1,-101,11⟩]⟩ ⟨0,2,0,2⟩).2=0 at q1
 change (clashV ⟨3,fW,fT⟩ ⟨3,sW,sT++[⟨0,1,-101,11⟩]⟩ ⟨0,2,0,2⟩).1.2=_ at q2
 change (clashV ⟨3,fW,fT⟩ ⟨3,sW,sT++[⟨0,1,-101,11⟩]⟩ ⟨0,2,0,2⟩).1.1.length=2 at q3
 generalize clashV ⟨3,fW,fT⟩ ⟨3,sW,sT++[⟨0,1,-101,11⟩]⟩ ⟨0,2,0,2⟩=V at q1 q2 q3
 rintro e w' ⟨I,n,c,rfl,hr,_,hb⟩
 obtain ⟨⟨V1,V2,V3⟩,V4⟩:=V
 dsimp only at q1 q2 q3
 injection q2 with q2 q2'
 subst q1 q2 q2'
 obtain rfl:n=2:=hr.len.symm.trans q3
 exact ⟨I,c,rfl,hb⟩
theorem j_place (w:World) (A B C D:Option Addr) (h1:RdB w A 6 6 fW) (h2:RdB w B 4 4 fT) (h3:RdB w C 6 6 sW) (h4:RdB w D 4 4 sT) (X Y Z U:Option Addr) (x1:RdI w X 4 4 [0,11,31,36]) (x2:RdI w Y 4 4 [0,20,31,40]) (x3:RdI w Z 3 3 [0,90,190]) (x4:RdI w U 3 3 [0,-95,-115]) :
 Calls Tryz.prog 18 #[.agg #[.int .i64 3,.slice A 6 6,.slice B 4 4],.agg #[.int .i64 3,.slice C 6 6,.slice D 4 4],.agg #[.int .i64 0,.int .i64 1,.int .i64 1,.int .i64 2],.agg #[.slice X 4 4,.slice Y 4 4,.slice Z 3 3,.slice U 3 3]] w fun e w'=>e=.returned (.tuple #[.bool true,.int .i64 0])∧Below w.heap.size w w':=by
 have h:=CheckPlace_any 3 A B 6 6 4 4 fW fT 3 C D 6 6 4 4 sW sT 0 1 1 2 w h1 h2 (by unfold maxLen;omega) (by unfold maxLen;omega) h3 h4 (by unfold maxLen;omega) (by unfold maxLen;omega) X 4 4 [0,11,31,36] Y 4 4 [0,20,31,40] Z 3 3 [0,90,190] U 3 3 [0,-95,-115] x1 (by unfold maxLen;omega) x2 (by unfold maxLen;omega) x3 (by unfold maxLen;omega) x4 (by unfold maxLen;omega)
 rw [show checkPlaceV ⟨3,fW,fT⟩ ⟨3,sW,sT⟩ ⟨0,1,1,2⟩ [0,11,31,36] [0,20,31,40] [0,90,190] [0,-95,-115]=(true,0) from jn_place] at h
 exact h
theorem j_rests (w:World) (A B C D:Option Addr) (h1:RdB w A 6 6 fW) (h2:RdB w B 4 4 fT) (h3:RdB w C 6 6 sW) (h4:RdB w D 4 4 sT) (X:Option Addr) (x1:RdI w X 2 2 [0,7]) :
 Calls Tryz.prog 19 #[.agg #[.int .i64 3,.slice A 6 6,.slice B 4 4],.agg #[.int .i64 3,.slice C 6 6,.slice D 4 4],.agg #[.int .i64 0,.int .i64 1,.int .i64 0,.int .i64 1],.agg #[.bool false,.slice X 2 2]] w fun e w'=>∃ E c,e=.returned (.tuple #[.slice E 2 c,.int .i64 0])∧RdI w' E 2 c [1,6]∧Below w.heap.size w w':=by
 have h:=Rests_any 3 A B 6 6 4 4 fW fT 3 C D 6 6 4 4 sW sT 0 1 0 1 w h1 h2 (by unfold maxLen;omega) (by unfold maxLen;omega) h3 h4 (by unfold maxLen;omega) (by unfold maxLen;omega) false X 2 2 [0,7] x1 (by omega)
 rw [show erestsV false ⟨3,fW,fT⟩ ⟨3,sW,sT⟩ ⟨0,1,0,1⟩ [0,7]=([1,6],0) from jn_rests] at h
 refine h.mono ?_
 rintro e w' ⟨E,n,c,rfl,hr,_,hb⟩
 obtain rfl:n=2:=hr.len.symm
 exact ⟨E,c,rfl,hr,hb⟩
end Go.Proofs.YtebkniakflhhkaaGreatDoor
