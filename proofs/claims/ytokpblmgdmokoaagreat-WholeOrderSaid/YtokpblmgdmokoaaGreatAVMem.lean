import Derived.Test.YtokpblmgdmokoaaGreatAItemN
set_option linter.unusedSimpArgs false
set_option linter.unusedVariables false
namespace Go.Proofs.YtokpblmgdmokoaaGreat
structure Prt where
 sh:List Int
 lo:Int
 hi:Int
 lb:Int
 hb:Int
 ft:Bool
 fb:Int
 rs:List Int
deriving DecidableEq,Inhabited
structure Cse where
 ware:ByteArray
 lim:Int
 by_:Int
 ps:List Prt
def byB (n:Int) (so:Bool):Bool:=decide (n=0) || (so&&inR n 1 1000000)
def ascN:List Int→Int→Int→Bool
 | [],_,_=>true
 | n::l,lo,hi=>inR n lo hi&&ascN l (n+1) hi
def prtB (p:Prt):Bool :=
 inR p.sh.length 1 40&&ascN p.sh 1 1000000&&decide (p.rs.length≤200)&&ascN p.rs 1 1000000&&decide (0≤p.lo)&&decide (p.lo≤p.hi)&&decide (p.hi≤1000) &&
  byB p.lb (p.lo != 0)&&byB p.hb (p.hi != 1000)&&byB p.fb p.ft
def idsP (l:List Prt):List Int:=l.flatMap (·.sh)
def goodP (l:List Prt):Bool:=l.all prtB&&decide (idsP l).Nodup
def chkC (c:Cse):Int :=
 if 40<c.ps.length then 2 else if nameB c.ware&&inR c.lim 0 40&&byB c.by_ (c.lim != 0) then (if goodP c.ps then 0 else 1) else 1
theorem chkC_ok {c:Cse} (h:chkC c=0):c.ps.length≤40∧nameB c.ware=true∧0≤c.lim∧c.lim≤40∧byB c.by_ (c.lim != 0)=true∧(∀ p∈c.ps,prtB p=true)∧(idsP c.ps).Nodup:=by
 unfold chkC at h
 split at h
 · cases h
 · split at h
   · rename_i h1 h2
     split at h
     · rename_i h3
       simp only [goodP,Bool.and_eq_true,decide_eq_true_eq,List.all_eq_true] at h3
       simp only [Bool.and_eq_true,inR,decide_eq_true_eq] at h2
       exact ⟨by omega,h2.1.1,h2.1.2.1,h2.1.2.2,h2.2,h3.1,h3.2⟩
     · cases h
   · cases h
theorem prtB_ok {p:Prt} (h:prtB p=true):1≤p.sh.length∧p.sh.length≤40∧p.rs.length≤200∧0≤p.lo∧p.lo≤p.hi∧p.hi≤1000∧ascN p.sh 1 1000000=true∧ascN p.rs 1 1000000=true:=by
 simp only [prtB,Bool.and_eq_true,inR,decide_eq_true_eq] at h
 obtain ⟨⟨⟨⟨⟨⟨⟨⟨⟨⟨h1,h1'⟩,h2⟩,h3⟩,h4⟩,h5⟩,h6⟩,h7⟩,-⟩,-⟩,-⟩:=h
 exact ⟨by omega,by omega,h3,h5,h6,h7,h2,h4⟩
def apB (p q:Prt):Bool:=(p.ft&&q.ft) || decide (p.hi<q.lo) || decide (q.hi<p.lo)
def ptA (l:List Prt) (i:Int):Prt:=l.getD i.toNat default
def clB (l:List Prt) (a b:Int):Bool:=decide (a≠b)&&apB (ptA l a) (ptA l b)
def askP (c:Cse) (l:List Int):Int:=if chkC c≠0 then chkC c else if l.all (fun p=>inR p 0 (c.ps.length-1)) then 0 else 1
def askP2 (c:Cse) (a b:Int):Int:=if askP c [a,b]≠0 then askP c [a,b] else if a=b then 1 else 0
open Go.RowKit
structure PAd where
 A:Option Addr
 n:Nat
 c:Nat
 B:Option Addr
 m:Nat
 d:Nat
def pv (x:Prt × PAd):List Value:=[.slice x.2.A x.2.n x.2.c,.int .i64 x.1.lo,.int .i64 x.1.hi,.int .i64 x.1.lb,.int .i64 x.1.hb,.bool x.1.ft,.int .i64 x.1.fb,.slice x.2.B x.2.m x.2.d]
def PAd.ok (w:World) (p:Prt) (x:PAd):Prop:=RdI w x.A x.n x.c p.sh∧RdI w x.B x.m x.d p.rs∧x.n≤maxLen∧x.m≤maxLen
theorem PAd.ok.below {w w':World} {p:Prt} {x:PAd} (h:x.ok w p) (hb:Below w.heap.size w w'):x.ok w' p:=⟨h.1.below hb,h.2.1.below hb,h.2.2⟩
theorem flat_len {α:Type} {f:α→List Value} {s:Nat} (hf:∀ x,(f x).length=s) (l:List α):(l.flatMap f).length=l.length * s:=by
 induction l with
 | nil=>simp
 | cons x l ih=>simp only [List.flatMap_cons,List.length_append,List.length_cons,ih,hf];rw [Nat.add_mul];omega
theorem flat_get {α:Type} {f:α→List Value} {s:Nat} (hf:∀ x,(f x).length=s) (l:List α) (k j:Nat) (x:α) (h:l[k]?=some x) (hj:j<s):(l.flatMap f)[k * s+j]?=(f x)[j]?:=by
 induction l generalizing k with
 | nil=>simp at h
 | cons y l ih =>
  cases k with
  | zero =>
   simp at h
   subst h
   rw [List.flatMap_cons,Nat.zero_mul,Nat.zero_add,List.getElem?_append_left (by rw [hf];exact hj)]
  | succ k =>
   rw [List.flatMap_cons,List.getElem?_append_right (by rw [hf,Nat.add_mul];omega)]
   have e:(k+1) * s+j-(f y).length=k * s+j:=by rw [hf,Nat.add_mul];omega
   rw [e]
   exact ih k (by simpa using h)
theorem pv_len (x:Prt × PAd):(pv x).length=8:=rfl
structure RdP (w:World) (A:Option Addr) (n c:Nat) (l:List Prt):Prop where
 len:l.length=n
 cap:n≤c
 nil:A=none→n=0∧c=0
 cells:∃ xs:List (Prt × PAd),xs.map (·.1)=l∧(∀ x∈xs,x.2.ok w x.1)∧Cells w A (xs.flatMap pv)
section
variable {w w':World} {A:Option Addr} {n c:Nat} {l:List Prt}
theorem RdP.below (h:RdP w A n c l) (hb:Below w.heap.size w w'):RdP w' A n c l:=by
 obtain ⟨xs,h1,h2,h3⟩:=h.cells
 exact ⟨h.len,h.cap,h.nil,xs,h1,fun x hx=>(h2 x hx).below hb,h3.below hb⟩
theorem RdP.alloc (h:RdP w A n c l) (o:Obj):RdP (w.alloc o) A n c l:=h.below ((Below.refl _ w).alloc (Nat.le_refl _) o)
theorem RdP.drew (h:RdP w A n c l):RdP w.drew A n c l:=h.below ((Below.refl _ w).drew)
theorem RdP.get (h:RdP w A n c l) {k:Nat} (hk:k<n):∃ b o p x,A=some ⟨b,o,none⟩∧b<w.heap.size∧l[k]?=some p∧PAd.ok w p x ∧
 w.cell? ⟨b,o+k * 8,none⟩=some (.slice x.A x.n x.c)∧w.cell? ⟨b,o+k * 8+1,none⟩=some (.int .i64 p.lo)∧w.cell? ⟨b,o+k * 8+2,none⟩=some (.int .i64 p.hi) ∧
 w.cell? ⟨b,o+k * 8+3,none⟩=some (.int .i64 p.lb)∧w.cell? ⟨b,o+k * 8+4,none⟩=some (.int .i64 p.hb)∧w.cell? ⟨b,o+k * 8+5,none⟩=some (.bool p.ft) ∧
 w.cell? ⟨b,o+k * 8+6,none⟩=some (.int .i64 p.fb)∧w.cell? ⟨b,o+k * 8+7,none⟩=some (.slice x.B x.m x.d):=by
 obtain ⟨xs,h1,h2,h3⟩:=h.cells
 have hl:k<xs.length:=by have:=congrArg List.length h1;rw [List.length_map,h.len] at this;omega
 rcases h3 with h0|⟨b,o,e,hlt,hc⟩
 · have:=congrArg List.length h0
   rw [flat_len pv_len] at this
   simp only [List.length_nil] at this
   omega
 · have hx:=List.getElem?_eq_getElem hl
   have g:=fun j hj=>flat_get pv_len xs k j xs[k] hx hj
   refine ⟨b,o,xs[k].1,xs[k].2,e,hlt,?_,h2 _ (List.getElem_mem hl),?_,?_,?_,?_,?_,?_,?_,?_⟩
   · rw [← h1,List.getElem?_map,hx];rfl
   · have:=hc (k * 8+0) _ (g 0 (by omega));rwa [Nat.add_zero] at this
   · have:=hc (k * 8+1) _ (g 1 (by omega));rwa [← Nat.add_assoc] at this
   · have:=hc (k * 8+2) _ (g 2 (by omega));rwa [← Nat.add_assoc] at this
   · have:=hc (k * 8+3) _ (g 3 (by omega));rwa [← Nat.add_assoc] at this
   · have:=hc (k * 8+4) _ (g 4 (by omega));rwa [← Nat.add_assoc] at this
   · have:=hc (k * 8+5) _ (g 5 (by omega));rwa [← Nat.add_assoc] at this
   · have:=hc (k * 8+6) _ (g 6 (by omega));rwa [← Nat.add_assoc] at this
   · have:=hc (k * 8+7) _ (g 7 (by omega));rwa [← Nat.add_assoc] at this
theorem RdP.at {b o:Nat} (h:RdP w (some ⟨b,o,none⟩) n c l) {k:Nat} (hk:k<n):∃ p x,b<w.heap.size∧l[k]?=some p∧PAd.ok w p x ∧
 w.cell? ⟨b,o+k * 8,none⟩=some (.slice x.A x.n x.c)∧w.cell? ⟨b,o+k * 8+1,none⟩=some (.int .i64 p.lo)∧w.cell? ⟨b,o+k * 8+2,none⟩=some (.int .i64 p.hi) ∧
 w.cell? ⟨b,o+k * 8+3,none⟩=some (.int .i64 p.lb)∧w.cell? ⟨b,o+k * 8+4,none⟩=some (.int .i64 p.hb)∧w.cell? ⟨b,o+k * 8+5,none⟩=some (.bool p.ft) ∧
 w.cell? ⟨b,o+k * 8+6,none⟩=some (.int .i64 p.fb)∧w.cell? ⟨b,o+k * 8+7,none⟩=some (.slice x.B x.m x.d):=by
 obtain ⟨b',o',p,x,hA,hrest⟩:=h.get hk
 injection hA with hA
 injection hA with e1 e2
 subst e1 e2
 exact ⟨p,x,hrest⟩
end
end Go.Proofs.YtokpblmgdmokoaaGreat
