/- WholeOrder holds: for every case and turn it returns true. No condition. -/
import Derived.Test.YtokpblmgdmokoaaGreatRows
import Derived.Test.YtokpblmgdmokoaaGreatFVLwO
import Derived.Test.YtokpblmgdmokoaaGreatFVLwP
import Derived.Test.YtokpblmgdmokoaaGreatFVOpn
set_option linter.unusedSimpArgs false
set_option linter.unusedVariables false
namespace Go.Proofs.YtokpblmgdmokoaaGreat
open Go.ChangeShapes Go.WideShapes Go.ChangeAt Go.RowKit
theorem wo_walk (w:World) (ware:ByteArray) (lim by_:Int) (A:Option Addr) (n k:Nat) (ps:List Prt) (hr:RdP w A n k ps) (hn:n≤maxLen) (t:Int) (ht:(Lit.int .u8 t).wf=true):Calls Tryz.prog 15 #[.agg #[.string ware,.int .i64 lim,.int .i64 by_,.slice A n k],.int .u8 t] w fun e w'=>e=.returned (.bool true)∧Below w.heap.size w w':=by
 have htt:0≤t∧t<256:=by
  simp only [Lit.wf,Bool.and_eq_true,decide_eq_true_eq] at ht
  have h1:IntKind.u8.min=0:=by decide
  have h2:IntKind.u8.max=255:=by decide
  omega
 cases hf:smlB ⟨ware,lim,by_,ps⟩ 12
 · exact wo_w1 w ware lim by_ A n k ps t hr hn hf
 · cases h0:((n:Int) == 0)
   · have hn0:0<n:=by rw [beq_eq_false_iff_ne] at h0;omega
     have hpl:=hr.len
     have h12:n≤12:=by have:=hf;unfold smlB at this;rw [Bool.and_eq_true,decide_eq_true_eq] at this;have:=this.2;dsimp only at this;omega
     obtain ⟨b,o,p,x,rfl,-⟩:=RdP.get hr hn0
     have hmod:Int.tmod t (n:Int)=((t.toNat % n:Nat):Int):=by
      rw [Int.tmod_eq_emod_of_nonneg htt.1]
      conv=>lhs;rw [show t=(t.toNat:Int) by omega]
      exact (Int.natCast_emod t.toNat n).symm
     have hlt:t.toNat % n<n:=Nat.mod_lt _ hn0
     by_cases hq:chkC ⟨ware,lim,by_,ps⟩=0
     · exact wo_yes w ware lim by_ b o n k ps t hr hn hf h0 hn0 h12 htt.1 htt.2 _ hlt hmod hq
     · exact wo_no w ware lim by_ b o n k ps t hr hn hf h0 hn0 h12 htt.1 htt.2 _ hlt hmod _ rfl hq
   · exact wo_w2 w ware lim by_ A n k ps t hr hn hf h0
set_option maxRecDepth 100000 in
theorem wholeOrder_lifted (os:Os) (started:os.Started) (H:Type) (enc:TypeId × Value→H) :
 ReturnsInHanded {} Tryz.checked os 15 .any (Rows.wholeOrderSpec.pre6 enc Tryz.prog Tryz.f15 Rows.wholeOrderRow.domain false) (Rows.wholeOrderSpec.post enc Tryz.prog Tryz.f15 false true false false):=by
 refine returnsInHanded_of_change (C:=Tryz.checked) Law.own started (by kernel_rfl) Tryz.func15
  (ChangeSpec.witness6 (enc:=enc) (C:=Tryz.checked) false ⟨#[],#[.agg #[.string ⟨#[]⟩,.int .i64 0,.int .i64 0,.slice none 0 0],.int .u8 0],[]⟩ 8 (by kernel_rfl) (by kernel_rfl) (by kernel_rfl) (by kernel_rfl)) ?_
 intro W base args ds gs before hval0 hW hcnd _
 have hval:∀ (j:Nat) t v,Tryz.f15.params[j]?=some t→args[j]?=some v→Value.okWide Tryz.prog W .any base t v:=hval0
 have hW':=hW
 obtain ⟨p,q,hA0,hV,rfl,hfz,hnd⟩:=hW
 have hA:DataW.TrodAll enc Tryz.prog W 0 (fun _=>true) true Tryz.f15.params.toList args.toList ds p:=hA0
 rw [Tryz.params15] at hA hval
 obtain ⟨v0,vs0,d0,ds0,p0,q0,hargs,rfl,rfl,h0,r0⟩:=trodAll_cons hA
 obtain ⟨v1,vs1,d1,ds1,p1,q1,rfl,rfl,rfl,h1,r1⟩:=trodAll_cons r0
 obtain ⟨rfl,rfl,rfl⟩:=trodAll_nil r1
 obtain rfl:args=#[v0,v1]:=by cases args;simp_all
 obtain ⟨rfl,rfl⟩:=trodVars_none hV
 have k0:=h0
 have lt0:∀ x∈p0,x.block<W.heap.size:=by obtain ⟨m,hm⟩:=k0;exact DataW.trod_lt m _ _ _ hm
 obtain ⟨s0,x0,y0,A0,n0,c0,l0,rfl,rd0,mx0⟩:=open_case (hval 0 24 v0 rfl rfl) h0
 obtain ⟨a1,rfl,rfl,rfl,w1⟩:=open_int Tryz.underlying5 (hval 1 5 v1 rfl rfl) h1
 clear hA0 hval0
 refine (wo_walk W s0 x0 y0 A0 n0 c0 l0 rd0 mx0 a1 w1).mono fun e W' ⟨he,bel⟩=>?_
 subst he
 exact ⟨_,rfl,_,_,_,[],_,[],hW',trodAll_mk1 (shut_bool Tryz.underlying4 _),(trodAll_cons_mk (Below.trod Law.laidOut (by kernel_rfl) (of_decide_eq_true (by kernel_rfl)) k0 bel lt0) (trodAll_cons_mk (shut_int Tryz.underlying5 w1) trodAll_mk0)),rfl,bel.frame _,fun h=>by cases h⟩
theorem wholeOrder_over:Rows.wholeOrderRow.holds Tryz.pinned (OpenSpec.ofChange Rows.wholeOrderSpec) :=
 OpenClaim.holds_of_wide 15 Tryz.f15 rfl rfl rfl rfl rfl rfl rfl ⟨rfl,rfl,rfl,rfl,rfl⟩ rfl rfl rfl rfl rfl (by kernel_rfl) Tryz.func15 (by kernel_rfl)
  (of_decide_eq_true (by kernel_rfl)) (by unfold Func.isWrapper;first | (rw [if_pos (by decide +kernel)];kernel_rfl) | (rw [if_neg (by decide +kernel)];exact ⟨rfl,rfl⟩))
  (fun os started H enc _=>wholeOrder_lifted os started H enc)
theorem wholeOrder_proved:Rows.WholeOrderSaid:=wholeOrder_over
end Go.Proofs.YtokpblmgdmokoaaGreat
