import Derived.Test.YtebkniakflhhkaaGreatDoorAEIter
set_option linter.unusedSimpArgs false
set_option linter.unusedVariables false
namespace Go.Proofs.YtebkniakflhhkaaGreatDoor
open Go.RowKit Go.Shelf
attribute [local go_sem] Oper.semAt_some
def pB (p:Prg):Bnd:=⟨p.af,p.at2,p.bf,p.bt⟩
def pcells {a b:Otl} (l:List (Yp a b)):List Value:=bcells ((prs l).map pB)
theorem pcells_snoc {a b:Otl} (l:List (Yp a b)) (x:Yp a b):pcells (l++[x])=pcells l++[.int .i64 x.1.af,.int .i64 x.1.at2,.int .i64 x.1.bf,.int .i64 x.1.bt]:=by
 unfold pcells
 rw [prs_snoc,List.map_append,bcells_append]
 rfl
theorem flat_length_le {α β:Type} (f:α→List β) (m:Nat):∀ (l:List α),(∀ x∈l,(f x).length≤m)→(l.flatMap f).length≤l.length * m
 | [],_=>by simp
 | x::l,h=>by
  rw [List.flatMap_cons,List.length_append,List.length_cons]
  have h1:=h x (List.mem_cons_self)
  have h2:=flat_length_le f m l (fun y hy=>h y (List.mem_cons_of_mem _ hy))
  rw [Nat.add_mul]
  omega
theorem pairsL_length {a b:Otl} (hq:both a b=0) (s:Int):(pairsL a.c b.c s).length≤1000:=by
 obtain ⟨oa,ob,-,-⟩:=both_ok hq
 have a2:=(chkO_ok oa).2.1
 have b2:=(chkO_ok ob).2.1
 unfold pairsL
 split
 · simp
 · rename_i hs
   have h1:=flat_length_le (fun i=>(List.range (b.c-s+1).toNat).map fun j=>prAt s i j) 16 (List.range (a.c-s+1).toNat) (fun i _=>by rw [List.length_map,List.length_range];omega)
   rw [List.length_range] at h1
   have h2:(a.c-s+1).toNat * 16≤16 * 16:=Nat.mul_le_mul_right _ (by omega)
   omega
theorem TryzinfoPR:(Tryz.prog.info? 25).map (fun i=>(i.zero,i.size,i.bytes))=some (some (.agg #[.int .i64 0,.int .i64 0,.int .i64 0,.int .i64 0]),4,32):=by kernel_rfl
theorem ownsRow_block {w:World} {base:Nat} {e:TypeId} {size:Nat} {v:Value} {n:Nat} {xs:List Value} (h:w.ownsRow base e size v n xs):∀ j,v.ownBlock=some j→base≤j:=by
 intro j hj
 rcases h.2 with ⟨rfl,_⟩|⟨g,cap,cur,rfl,e2,_⟩
 · simp [Value.ownBlock] at hj
 · obtain rfl:g=j:=by simpa [Value.ownBlock] using hj
   exact e2
theorem cells_new4 (W:World) (t:TypeId) (v1 v2 v3 v4:Value):∀ j u,([v1,v2,v3,v4]:List Value)[j]?=some u→(W.alloc (.cells #[v1,v2,v3,v4] t)).cell? ((⟨W.heap.size,0,none⟩:Addr).add j)=some u :=
 cells_add (cs:=[v1,v2,v3,v4]) (Blk.new W t #[v1,v2,v3,v4])
end Go.Proofs.YtebkniakflhhkaaGreatDoor
