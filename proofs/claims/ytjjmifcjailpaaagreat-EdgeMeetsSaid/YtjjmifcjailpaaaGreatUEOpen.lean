import Derived.Shelf.SlSortCmp.NoneTotal
import Derived.Test.YtjjmifcjailpaaaGreatUELongest
set_option linter.unusedSimpArgs false
set_option linter.unusedVariables false
namespace Go.Proofs.YtjjmifcjailpaaaGreat
open Go.ChangeShapes Go.WideShapes Go.ChangeAt Go.RowKit
set_option maxRecDepth 100000
section
variable {H:Type} {enc:TypeId × Value→H} {W:World} {base:Nat} {sp:Nat→Bool} {held:Bool}
theorem open_outl {r:Reach} {b0:Nat} {v:Value} {d:DataW H} {p:List MemPlace} (hv:Value.okWide Tryz.prog W r b0 24 v) (h:DataW.Trod enc Tryz.prog W base sp held 24 v d p) :
 ∃ c A n k B m j ws ts,v=.agg #[.int .i64 c,.slice A n k,.slice B m j]∧(Lit.int .i64 c).wf=true∧RdB W A n k ws∧RdB W B m j ts∧n≤maxLen∧m≤maxLen:=by
 obtain ⟨v0,v1,v2,y0,y1,y2,fu,rfl,-,-,h0,h1,h2⟩:=Go.Joins.open_agg3 Tryz.underlying24 (by kernel_rfl) (by kernel_rfl) hv h
 obtain ⟨P,e0,-,wp⟩:=DataW.trod_int Tryz.underlying3 h0
 simp only [List.cons.injEq,and_true] at e0
 obtain ⟨A,n,k,ws,rfl,hr,hm⟩:=open_bounds h1
 obtain ⟨B,m,j,ts,rfl,hr2,hm2⟩:=open_bounds h2
 exact ⟨P,A,n,k,B,m,j,ws,ts,by rw [e0],wp,hr,hr2,hm,hm2⟩
theorem open_pair {r:Reach} {b0:Nat} {v:Value} {d:DataW H} {p:List MemPlace} (hv:Value.okWide Tryz.prog W r b0 28 v) (h:DataW.Trod enc Tryz.prog W base sp held 28 v d p) :
 ∃ f t m i,v=.agg #[.int .i64 f,.int .i64 t,.int .i64 m,.int .i64 i]:=by
 obtain ⟨cs,rfl,hsz⟩:=okWide_struct Tryz.underlying28 hv
 obtain ⟨c0,c1,c2,c3,rfl⟩:=Go.Joins.array4 (hsz.trans (by kernel_rfl))
 obtain ⟨fuel,hf⟩:=h
 obtain ⟨y0,y1,fu,-,-,h0,h1⟩:=trod_struct2 Tryz.underlying28 hf
 have k2:Tryz.prog.cellsOf 26=2:=by kernel_rfl
 have k1:Tryz.prog.cellsOf 3=1:=by kernel_rfl
 simp only [Value.cells,k2,List.drop_zero,List.take_succ_cons,List.take_zero,List.drop_succ_cons] at h0 h1
 obtain ⟨z0,z1,f1,-,-,g0,g1⟩:=trod_struct2 Tryz.underlying26 h0
 obtain ⟨z2,z3,f2,-,-,g2,g3⟩:=trod_struct2 Tryz.underlying26 h1
 simp only [k1,List.drop_zero,List.take_succ_cons,List.take_zero,List.drop_succ_cons] at g0 g1 g2 g3
 obtain ⟨a0,e0,-,-⟩:=DataW.trod_int Tryz.underlying3 g0
 obtain ⟨a1,e1,-,-⟩:=DataW.trod_int Tryz.underlying3 g1
 obtain ⟨a2,e2,-,-⟩:=DataW.trod_int Tryz.underlying3 g2
 obtain ⟨a3,e3,-,-⟩:=DataW.trod_int Tryz.underlying3 g3
 simp only [List.cons.injEq,and_true] at e0 e1 e2 e3
 subst e0 e1 e2 e3
 exact ⟨a0,a1,a2,a3,rfl⟩
end
end Go.Proofs.YtjjmifcjailpaaaGreat
