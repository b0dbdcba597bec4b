import Derived.Test.YtjjmifcjailpaaaGreatUESols
set_option maxHeartbeats 8000000
set_option linter.unusedSimpArgs false
set_option linter.unusedVariables false
namespace Go.Proofs.YtjjmifcjailpaaaGreat
open Go.Lib (hid)
open Go.RowKit
theorem blk_ne {w:World} {g h:Nat} {t u:TypeId} {cs ds:Array Value} (h1:Blk w g t cs) (h2:Blk w h u ds) (hn:t≠u):g≠h:=by
 intro e
 subst e
 have h3:=h1.symm.trans h2
 simp at h3
 exact hn h3.2
theorem Cl.farF {w:World} {g h:Nat} {n x lo hi:Int} {cs:Array Value} (hc:Cl w g n x lo hi) (hb:Blk w h 119 cs) (i:Nat) (v:Value):Cl (w.setCell ⟨h,i,none⟩ v) g n x lo hi :=
 ⟨hc.n0.far (p:=⟨h,i,none⟩) (blk_ne hc.n0 hb (by decide)) v,hc.x0.far (p:=⟨h,i,none⟩) (blk_ne hc.x0 hb (by decide)) v,hc.l0.far (p:=⟨h,i,none⟩) (blk_ne hc.l0 hb (by decide)) v,hc.h0.far (p:=⟨h,i,none⟩) (blk_ne hc.h0 hb (by decide)) v⟩
def r1ops:Array Oper:=#[{ dst:=some 7,op:=Go.Op.load 74 (Go.Operand.tmp 2),type:=74,pos := "pair.go:113",after:=#[],guard:=none },{ dst:=some 8,op:=Go.Op.call { callee:=Go.Callee.value (Go.Operand.func 76),args:=#[Go.Operand.tmp 7],argTypes:=#[74] },type:=119,pos := "pair.go:113",after:=#[{ on:=0,ground:=Go.Ground.data }],guard:=none },{ dst:=some 9,op:=Go.Op.load 74 (Go.Operand.tmp 2),type:=74,pos := "pair.go:113",after:=#[],guard:=none },{ dst:=some 10,op:=Go.Op.call { callee:=Go.Callee.value (Go.Operand.func 77),args:=#[Go.Operand.tmp 9],argTypes:=#[74] },type:=119,pos := "pair.go:113",after:=#[{ on:=2,ground:=Go.Ground.data },{ on:=1,ground:=Go.Ground.chain }],guard:=none },{ dst:=some 5,op:=Go.Op.alloc 119,type:=0,pos := "pair.go:113",after:=#[],guard:=none },{ dst:=some 6,op:=Go.Op.alloc 119,type:=0,pos := "pair.go:113",after:=#[],guard:=none },{ dst:=none,op:=Go.Op.store 119 (Go.Operand.tmp 5) (Go.Operand.tmp 8),type:=0,pos := "pair.go:113",after:=#[{ on:=4,ground:=Go.Ground.data },{ on:=1,ground:=Go.Ground.data },{ on:=3,ground:=Go.Ground.chain },{ on:=0,ground:=Go.Ground.phase },{ on:=1,ground:=Go.Ground.phase },{ on:=2,ground:=Go.Ground.textOnly Go.Departure.lateStores },{ on:=3,ground:=Go.Ground.textOnly Go.Departure.lateStoresUnsure },{ on:=4,ground:=Go.Ground.phase },{ on:=5,ground:=Go.Ground.phase }],guard:=none },{ dst:=none,op:=Go.Op.store 119 (Go.Operand.tmp 6) (Go.Operand.tmp 10),type:=0,pos := "pair.go:113",after:=#[{ on:=5,ground:=Go.Ground.data },{ on:=3,ground:=Go.Ground.data },{ on:=6,ground:=Go.Ground.chain },{ on:=0,ground:=Go.Ground.phase },{ on:=1,ground:=Go.Ground.phase },{ on:=2,ground:=Go.Ground.phase },{ on:=3,ground:=Go.Ground.phase },{ on:=4,ground:=Go.Ground.phase },{ on:=5,ground:=Go.Ground.phase },{ on:=6,ground:=Go.Ground.phase }],guard:=none }]
def r2ops:Array Oper:=#[{ dst:=some 11,op:=Go.Op.fieldAddr 74 (Go.Operand.tmp 2) 0,type:=0,pos := "pair.go:114",after:=#[],guard:=none },{ dst:=some 12,op:=Go.Op.fieldAddr 72 (Go.Operand.tmp 11) 0,type:=0,pos := "pair.go:114",after:=#[{ on:=0,ground:=Go.Ground.data }],guard:=none },{ dst:=some 13,op:=Go.Op.fieldAddr 24 (Go.Operand.tmp 12) 0,type:=0,pos := "pair.go:114",after:=#[{ on:=1,ground:=Go.Ground.data }],guard:=none },{ dst:=some 14,op:=Go.Op.load 3 (Go.Operand.tmp 13),type:=3,pos := "pair.go:114",after:=#[{ on:=2,ground:=Go.Ground.data }],guard:=none },{ dst:=some 15,op:=Go.Op.binOp Go.BinOp.add 3 (Go.Operand.tmp 14) (Go.Operand.const (Go.Value.int Go.IntKind.i64 1)) 3,type:=3,pos := "pair.go:114",after:=#[{ on:=3,ground:=Go.Ground.data }],guard:=none },{ dst:=some 16,op:=Go.Op.makeFunc (Go.Fn.func 79) #[] #[Go.Operand.tmp 3],type:=119,pos := "pair.go:114",after:=#[],guard:=none },{ dst:=some 17,op:=Go.Op.call { callee:=Go.Callee.value (Go.Operand.func 78),args:=#[Go.Operand.tmp 15,Go.Operand.tmp 16],argTypes:=#[3,119] },type:=34,pos := "pair.go:115",after:=#[{ on:=4,ground:=Go.Ground.data },{ on:=5,ground:=Go.Ground.data }],guard:=none },{ dst:=some 18,op:=Go.Op.fieldAddr 74 (Go.Operand.tmp 2) 0,type:=0,pos := "pair.go:114",after:=#[],guard:=none },{ dst:=some 19,op:=Go.Op.fieldAddr 72 (Go.Operand.tmp 18) 1,type:=0,pos := "pair.go:114",after:=#[{ on:=7,ground:=Go.Ground.data }],guard:=none },{ dst:=some 20,op:=Go.Op.fieldAddr 24 (Go.Operand.tmp 19) 0,type:=0,pos := "pair.go:114",after:=#[{ on:=8,ground:=Go.Ground.data }],guard:=none },{ dst:=some 21,op:=Go.Op.load 3 (Go.Operand.tmp 20),type:=3,pos := "pair.go:114",after:=#[{ on:=9,ground:=Go.Ground.data }],guard:=none },{ dst:=some 22,op:=Go.Op.binOp Go.BinOp.add 3 (Go.Operand.tmp 21) (Go.Operand.const (Go.Value.int Go.IntKind.i64 1)) 3,type:=3,pos := "pair.go:114",after:=#[{ on:=10,ground:=Go.Ground.data }],guard:=none },{ dst:=some 23,op:=Go.Op.makeFunc (Go.Fn.func 80) #[] #[Go.Operand.tmp 3,Go.Operand.tmp 5],type:=119,pos := "pair.go:114",after:=#[],guard:=none },{ dst:=some 24,op:=Go.Op.call { callee:=Go.Callee.value (Go.Operand.func 78),args:=#[Go.Operand.tmp 22,Go.Operand.tmp 23],argTypes:=#[3,119] },type:=34,pos := "pair.go:116",after:=#[{ on:=11,ground:=Go.Ground.data },{ on:=12,ground:=Go.Ground.data },{ on:=6,ground:=Go.Ground.chain }],guard:=none },{ dst:=some 25,op:=Go.Op.fieldAddr 74 (Go.Operand.tmp 2) 0,type:=0,pos := "pair.go:114",after:=#[],guard:=none },{ dst:=some 26,op:=Go.Op.fieldAddr 72 (Go.Operand.tmp 25) 0,type:=0,pos := "pair.go:114",after:=#[{ on:=14,ground:=Go.Ground.data }],guard:=none },{ dst:=some 27,op:=Go.Op.fieldAddr 24 (Go.Operand.tmp 26) 0,type:=0,pos := "pair.go:114",after:=#[{ on:=15,ground:=Go.Ground.data }],guard:=none },{ dst:=some 28,op:=Go.Op.load 3 (Go.Operand.tmp 27),type:=3,pos := "pair.go:114",after:=#[{ on:=16,ground:=Go.Ground.data }],guard:=none },{ dst:=some 29,op:=Go.Op.makeFunc (Go.Fn.func 81) #[] #[Go.Operand.tmp 3],type:=119,pos := "pair.go:114",after:=#[],guard:=none },{ dst:=some 30,op:=Go.Op.call { callee:=Go.Callee.value (Go.Operand.func 78),args:=#[Go.Operand.tmp 28,Go.Operand.tmp 29],argTypes:=#[3,119] },type:=34,pos := "pair.go:117",after:=#[{ on:=17,ground:=Go.Ground.data },{ on:=18,ground:=Go.Ground.data },{ on:=13,ground:=Go.Ground.chain }],guard:=none },{ dst:=some 31,op:=Go.Op.fieldAddr 74 (Go.Operand.tmp 2) 0,type:=0,pos := "pair.go:114",after:=#[],guard:=none },{ dst:=some 32,op:=Go.Op.fieldAddr 72 (Go.Operand.tmp 31) 1,type:=0,pos := "pair.go:114",after:=#[{ on:=20,ground:=Go.Ground.data }],guard:=none },{ dst:=some 33,op:=Go.Op.fieldAddr 24 (Go.Operand.tmp 32) 0,type:=0,pos := "pair.go:114",after:=#[{ on:=21,ground:=Go.Ground.data }],guard:=none },{ dst:=some 34,op:=Go.Op.load 3 (Go.Operand.tmp 33),type:=3,pos := "pair.go:114",after:=#[{ on:=22,ground:=Go.Ground.data }],guard:=none },{ dst:=some 35,op:=Go.Op.makeFunc (Go.Fn.func 82) #[] #[Go.Operand.tmp 3,Go.Operand.tmp 6],type:=119,pos := "pair.go:114",after:=#[],guard:=none },{ dst:=some 36,op:=Go.Op.call { callee:=Go.Callee.value (Go.Operand.func 78),args:=#[Go.Operand.tmp 34,Go.Operand.tmp 35],argTypes:=#[3,119] },type:=34,pos := "pair.go:118",after:=#[{ on:=23,ground:=Go.Ground.data },{ on:=24,ground:=Go.Ground.data },{ on:=19,ground:=Go.Ground.chain }],guard:=none },{ dst:=some 37,op:=Go.Op.build 36 #[(0,Go.Operand.tmp 17),(1,Go.Operand.tmp 24),(2,Go.Operand.tmp 30),(3,Go.Operand.tmp 36)],type:=36,pos := "pair.go:114",after:=#[{ on:=6,ground:=Go.Ground.data },{ on:=13,ground:=Go.Ground.data },{ on:=19,ground:=Go.Ground.data },{ on:=25,ground:=Go.Ground.data }],guard:=none },{ dst:=none,op:=Go.Op.store 36 (Go.Operand.tmp 4) (Go.Operand.tmp 37),type:=0,pos := "pair.go:114",after:=#[{ on:=26,ground:=Go.Ground.data },{ on:=25,ground:=Go.Ground.chain },{ on:=0,ground:=Go.Ground.phase },{ on:=1,ground:=Go.Ground.phase },{ on:=2,ground:=Go.Ground.phase },{ on:=3,ground:=Go.Ground.phase },{ on:=4,ground:=Go.Ground.phase },{ on:=5,ground:=Go.Ground.phase },{ on:=6,ground:=Go.Ground.phase },{ on:=7,ground:=Go.Ground.phase },{ on:=8,ground:=Go.Ground.phase },{ on:=9,ground:=Go.Ground.phase },{ on:=10,ground:=Go.Ground.phase },{ on:=11,ground:=Go.Ground.phase },{ on:=12,ground:=Go.Ground.phase },{ on:=13,ground:=Go.Ground.phase },{ on:=14,ground:=Go.Ground.phase },{ on:=15,ground:=Go.Ground.phase },{ on:=16,ground:=Go.Ground.phase },{ on:=17,ground:=Go.Ground.phase },{ on:=18,ground:=Go.Ground.phase },{ on:=19,ground:=Go.Ground.phase },{ on:=20,ground:=Go.Ground.phase },{ on:=21,ground:=Go.Ground.phase },{ on:=22,ground:=Go.Ground.phase },{ on:=23,ground:=Go.Ground.phase },{ on:=24,ground:=Go.Ground.phase },{ on:=25,ground:=Go.Ground.phase },{ on:=26,ground:=Go.Ground.phase }],guard:=none }]
set_option maxRecDepth 100000 in
theorem place_r1 (c:Int) (A B:Option Addr) (n k m j:Nat) (d:Int) (C D:Option Addr) (n2 k2 m2 j2:Nat) (p1 p2 p3 p4:Int) (g0:3≤c∧c≤16) (g3:0≤p4∧p4≤16) {Q:Exit→Act→World→Prop} {s0 s1 s2 s3 s4 s5 s6 s8 s10 s11 s12 s13 s14 s15 s16 s17 s18 s19 s20 s21 s22 s23 s24 s25 s26 s27 s28 s29 s30 s31 s32 s33 s34 s35 s36 s37:Value} {ds:List Deferred} (J:World→Prop) (Bs:Nat) (hJB:∀ W,J W→Bs≤W.heap.size) (hJa:∀ (W:World) (o:Obj),J W→J (W.alloc o)) (hJb:∀ W W':World,J W→Below W.heap.size W W'→J W') (hJs:∀ (W:World) (a:Addr) (v:Value),J W→Bs≤a.block→J (W.setCell a v))
 (fin:∀ (g1 g2 h1 h2:Nat) (u7 u8 u9 u10:Value) (W:World),J W→Cl W g1 (c+1) p1 p3 p4→Cl W g2 c p1 p3 (p4-1)→Blk W h1 119 #[.func (.func 149) #[] #[.pointer (some ⟨g1+1+1,0,none⟩),.pointer (some ⟨g1,0,none⟩),.pointer (some ⟨g1+1+1+1,0,none⟩),.pointer (some ⟨g1+1,0,none⟩)]]→Bs≤h1→Blk W h2 119 #[.func (.func 149) #[] #[.pointer (some ⟨g2+1+1,0,none⟩),.pointer (some ⟨g2,0,none⟩),.pointer (some ⟨g2+1+1+1,0,none⟩),.pointer (some ⟨g2+1,0,none⟩)]]→Bs≤h2→Q .normal ({ tmps:=#[s0,s1,s2,s3,s4,.pointer (some ⟨h1,0,none⟩),.pointer (some ⟨h2,0,none⟩),u7,u8,u9,u10,s11,s12,s13,s14,s15,s16,s17,s18,s19,s20,s21,s22,s23,s24,s25,s26,s27,s28,s29,s30,s31,s32,s33,s34,s35,s36,s37],defers:=ds }) W) (W0:World) (hj0:J W0) :
 wpAnyH Tryz.prog .any r1ops Q J 6 #[true,false,true,false,false,false,false,false] ({ tmps:=#[s0,s1,s2,s3,s4,s5,s6,.agg #[.int .i64 c,.slice A n k,.slice B m j,.int .i64 d,.slice C n2 k2,.slice D m2 j2,.int .i64 p1,.int .i64 p2,.int .i64 p3,.int .i64 p4],s8,.agg #[.int .i64 c,.slice A n k,.slice B m j,.int .i64 d,.slice C n2 k2,.slice D m2 j2,.int .i64 p1,.int .i64 p2,.int .i64 p3,.int .i64 p4],s10,s11,s12,s13,s14,s15,s16,s17,s18,s19,s20,s21,s22,s23,s24,s25,s26,s27,s28,s29,s30,s31,s32,s33,s34,s35,s36,s37],defers:=ds }) W0:=by
 obtain ⟨FR,hFR⟩:∃ FR:Value→Value→Value→Value→Act,FR=fun v8 v10 v5 v6=>{ tmps:=#[s0,s1,s2,s3,s4,v5,v6,.agg #[.int .i64 c,.slice A n k,.slice B m j,.int .i64 d,.slice C n2 k2,.slice D m2 j2,.int .i64 p1,.int .i64 p2,.int .i64 p3,.int .i64 p4],v8,.agg #[.int .i64 c,.slice A n k,.slice B m j,.int .i64 d,.slice C n2 k2,.slice D m2 j2,.int .i64 p1,.int .i64 p2,.int .i64 p3,.int .i64 p4],v10,s11,s12,s13,s14,s15,s16,s17,s18,s19,s20,s21,s22,s23,s24,s25,s26,s27,s28,s29,s30,s31,s32,s33,s34,s35,s36,s37],defers:=ds }:=⟨_,rfl⟩
 have x_:∀ (g1:Nat) (g2:Nat) (h1:Nat) (h2:Nat) (W:World),J W→Cl W g1 (c+1) p1 p3 p4→Cl W g2 c p1 p3 (p4-1)→Blk W h1 119 #[.func (.func 149) #[] #[.pointer (some ⟨g1+1+1,0,none⟩),.pointer (some ⟨g1,0,none⟩),.pointer (some ⟨g1+1+1+1,0,none⟩),.pointer (some ⟨g1+1,0,none⟩)]]→Bs≤h1→Blk W h2 119 #[.func (.func 149) #[] #[.pointer (some ⟨g2+1+1,0,none⟩),.pointer (some ⟨g2,0,none⟩),.pointer (some ⟨g2+1+1+1,0,none⟩),.pointer (some ⟨g2+1,0,none⟩)]]→Bs≤h2→h1≠h2→wpAnyH Tryz.prog .any r1ops Q J 0 #[true,true,true,true,true,true,true,true] (FR (.func (.func 149) #[] #[.pointer (some ⟨g1+1+1,0,none⟩),.pointer (some ⟨g1,0,none⟩),.pointer (some ⟨g1+1+1+1,0,none⟩),.pointer (some ⟨g1+1,0,none⟩)]) (.func (.func 149) #[] #[.pointer (some ⟨g2+1+1,0,none⟩),.pointer (some ⟨g2,0,none⟩),.pointer (some ⟨g2+1+1+1,0,none⟩),.pointer (some ⟨g2+1,0,none⟩)]) (.pointer (some ⟨h1,0,none⟩)) (.pointer (some ⟨h2,0,none⟩))) W:=by
  intro g1 g2 h1 h2 W hj f_c1 f_c3 f_k4 f_b4 f_k5 f_b5 f_ne
  rw [hFR]
  dsimp only
  refine wpAnyH_done (by kernel_rfl) ?_ _
  exact fin _ _ _ _ _ _ _ _ W hj f_c1 f_c3 f_k4 f_b4 f_k5 f_b5
 have a7:=hid x_;clear x_
 have x_:∀ (g1:Nat) (g2:Nat) (h1:Nat) (h2:Nat) (W:World),J W→Cl W g1 (c+1) p1 p3 p4→Cl W g2 c p1 p3 (p4-1)→Blk W h1 119 #[.func (.func 149) #[] #[.pointer (some ⟨g1+1+1,0,none⟩),.pointer (some ⟨g1,0,none⟩),.pointer (some ⟨g1+1+1+1,0,none⟩),.pointer (some ⟨g1+1,0,none⟩)]]→Bs≤h1→Blk W h2 119 #[.nilFunc]→Bs≤h2→h1≠h2→wpAnyH Tryz.prog .any r1ops Q J 1 #[true,true,true,true,true,true,true,false] (FR (.func (.func 149) #[] #[.pointer (some ⟨g1+1+1,0,none⟩),.pointer (some ⟨g1,0,none⟩),.pointer (some ⟨g1+1+1+1,0,none⟩),.pointer (some ⟨g1+1,0,none⟩)]) (.func (.func 149) #[] #[.pointer (some ⟨g2+1+1,0,none⟩),.pointer (some ⟨g2,0,none⟩),.pointer (some ⟨g2+1+1+1,0,none⟩),.pointer (some ⟨g2+1,0,none⟩)]) (.pointer (some ⟨h1,0,none⟩)) (.pointer (some ⟨h2,0,none⟩))) W:=by
  intro g1 g2 h1 h2 W hj f_c1 f_c3 f_k4 f_b4 f_k5 f_b5 f_ne
  rw [hFR]
  dsimp only
  refine oneH 7 rfl fun K hK=>?_
  · have z_:W.cell? ⟨h2,0,none⟩=some .nilFunc:=Blk.cell f_k5 0
    have fz_:W.frozen? ⟨h2,0,none⟩=false:=Blk.frozen f_k5 0
    have lt_:=Blk.lt f_k5
    go_simp
    rw [run_store _ _ _ _ _ rfl]
    go_simp
    have h:=a7.out g1 g2 h1 h2 (W.setCell ⟨h2,0,none⟩ (.func (.func 149) #[] #[.pointer (some ⟨g2+1+1,0,none⟩),.pointer (some ⟨g2,0,none⟩),.pointer (some ⟨g2+1+1+1,0,none⟩),.pointer (some ⟨g2+1,0,none⟩)])) (hJs _ ⟨h2,0,none⟩ (.func (.func 149) #[] #[.pointer (some ⟨g2+1+1,0,none⟩),.pointer (some ⟨g2,0,none⟩),.pointer (some ⟨g2+1+1+1,0,none⟩),.pointer (some ⟨g2+1,0,none⟩)]) hj f_b5) (Cl.farF f_c1 f_k5 0 _) (Cl.farF f_c3 f_k5 0 _) (Blk.far f_k4 (p:=⟨h2,0,none⟩) (f_ne) _) (f_b4) (Blk.set_ f_k5 0 (.func (.func 149) #[] #[.pointer (some ⟨g2+1+1,0,none⟩),.pointer (some ⟨g2,0,none⟩),.pointer (some ⟨g2+1+1+1,0,none⟩),.pointer (some ⟨g2+1,0,none⟩)])) (f_b5) (f_ne)
    rw [hFR] at h
    refine hK.out _ _ (hJs _ ⟨h2,0,none⟩ (.func (.func 149) #[] #[.pointer (some ⟨g2+1+1,0,none⟩),.pointer (some ⟨g2,0,none⟩),.pointer (some ⟨g2+1+1+1,0,none⟩),.pointer (some ⟨g2+1,0,none⟩)]) hj f_b5) (fun _=>?_)
    try simp only [pq]
    exact h
 have a8:=hid x_;clear x_
 have x_:∀ (g1:Nat) (g2:Nat) (h1:Nat) (h2:Nat) (W:World),J W→Cl W g1 (c+1) p1 p3 p4→Cl W g2 c p1 p3 (p4-1)→Blk W h1 119 #[.nilFunc]→Bs≤h1→Blk W h2 119 #[.nilFunc]→Bs≤h2→h1≠h2→wpAnyH Tryz.prog .any r1ops Q J 2 #[true,true,true,true,true,true,false,false] (FR (.func (.func 149) #[] #[.pointer (some ⟨g1+1+1,0,none⟩),.pointer (some ⟨g1,0,none⟩),.pointer (some ⟨g1+1+1+1,0,none⟩),.pointer (some ⟨g1+1,0,none⟩)]) (.func (.func 149) #[] #[.pointer (some ⟨g2+1+1,0,none⟩),.pointer (some ⟨g2,0,none⟩),.pointer (some ⟨g2+1+1+1,0,none⟩),.pointer (some ⟨g2+1,0,none⟩)]) (.pointer (some ⟨h1,0,none⟩)) (.pointer (some ⟨h2,0,none⟩))) W:=by
  intro g1 g2 h1 h2 W hj f_c1 f_c3 f_k4 f_b4 f_k5 f_b5 f_ne
  rw [hFR]
  dsimp only
  refine oneH 6 rfl fun K hK=>?_
  · have z_:W.cell? ⟨h1,0,none⟩=some .nilFunc:=Blk.cell f_k4 0
    have fz_:W.frozen? ⟨h1,0,none⟩=false:=Blk.frozen f_k4 0
    have lt_:=Blk.lt f_k4
    go_simp
    rw [run_store _ _ _ _ _ rfl]
    go_simp
    have h:=a8.out g1 g2 h1 h2 (W.setCell ⟨h1,0,none⟩ (.func (.func 149) #[] #[.pointer (some ⟨g1+1+1,0,none⟩),.pointer (some ⟨g1,0,none⟩),.pointer (some ⟨g1+1+1+1,0,none⟩),.pointer (some ⟨g1+1,0,none⟩)])) (hJs _ ⟨h1,0,none⟩ (.func (.func 149) #[] #[.pointer (some ⟨g1+1+1,0,none⟩),.pointer (some ⟨g1,0,none⟩),.pointer (some ⟨g1+1+1+1,0,none⟩),.pointer (some ⟨g1+1,0,none⟩)]) hj f_b4) (Cl.farF f_c1 f_k4 0 _) (Cl.farF f_c3 f_k4 0 _) (Blk.set_ f_k4 0 (.func (.func 149) #[] #[.pointer (some ⟨g1+1+1,0,none⟩),.pointer (some ⟨g1,0,none⟩),.pointer (some ⟨g1+1+1+1,0,none⟩),.pointer (some ⟨g1+1,0,none⟩)])) (f_b4) (Blk.far f_k5 (p:=⟨h1,0,none⟩) (Ne.symm f_ne) _) (f_b5) (f_ne)
    rw [hFR] at h
    refine hK.out _ _ (hJs _ ⟨h1,0,none⟩ (.func (.func 149) #[] #[.pointer (some ⟨g1+1+1,0,none⟩),.pointer (some ⟨g1,0,none⟩),.pointer (some ⟨g1+1+1+1,0,none⟩),.pointer (some ⟨g1+1,0,none⟩)]) hj f_b4) (fun _=>?_)
    try simp only [pq]
    exact h
 have a0:=hid x_;clear x_
 have x_:∀ (g1:Nat) (g2:Nat) (h1:Nat) (W:World),J W→Cl W g1 (c+1) p1 p3 p4→Cl W g2 c p1 p3 (p4-1)→Blk W h1 119 #[.nilFunc]→Bs≤h1→wpAnyH Tryz.prog .any r1ops Q J 3 #[true,true,true,true,true,false,false,false] (FR (.func (.func 149) #[] #[.pointer (some ⟨g1+1+1,0,none⟩),.pointer (some ⟨g1,0,none⟩),.pointer (some ⟨g1+1+1+1,0,none⟩),.pointer (some ⟨g1+1,0,none⟩)]) (.func (.func 149) #[] #[.pointer (some ⟨g2+1+1,0,none⟩),.pointer (some ⟨g2,0,none⟩),.pointer (some ⟨g2+1+1+1,0,none⟩),.pointer (some ⟨g2+1,0,none⟩)]) (.pointer (some ⟨h1,0,none⟩)) s6) W:=by
  intro g1 g2 h1 W hj f_c1 f_c3 f_k4 f_b4
  rw [hFR]
  dsimp only
  refine oneH 5 rfl fun K hK=>?_
  · go_simp
    have h:=a0.out g1 g2 h1 (W.heap.size) (W.alloc (.cells #[.nilFunc] 119)) (hJa _ _ hj) (f_c1.alloc _) (f_c3.alloc _) (f_k4.alloc _) (f_b4) (Blk.new W 119 #[.nilFunc]) (hJB _ hj) (Nat.ne_of_lt (Blk.lt f_k4))
    rw [hFR] at h
    refine hK.out _ _ (hJa _ _ hj) (fun _=>?_)
    try simp only [pq]
    exact h
 have a2:=hid x_;clear x_
 have x_:∀ (g1:Nat) (g2:Nat) (h2:Nat) (W:World),J W→Cl W g1 (c+1) p1 p3 p4→Cl W g2 c p1 p3 (p4-1)→Blk W h2 119 #[.nilFunc]→Bs≤h2→wpAnyH Tryz.prog .any r1ops Q J 3 #[true,true,true,true,false,true,false,false] (FR (.func (.func 149) #[] #[.pointer (some ⟨g1+1+1,0,none⟩),.pointer (some ⟨g1,0,none⟩),.pointer (some ⟨g1+1+1+1,0,none⟩),.pointer (some ⟨g1+1,0,none⟩)]) (.func (.func 149) #[] #[.pointer (some ⟨g2+1+1,0,none⟩),.pointer (some ⟨g2,0,none⟩),.pointer (some ⟨g2+1+1+1,0,none⟩),.pointer (some ⟨g2+1,0,none⟩)]) s5 (.pointer (some ⟨h2,0,none⟩))) W:=by
  intro g1 g2 h2 W hj f_c1 f_c3 f_k5 f_b5
  rw [hFR]
  dsimp only
  refine oneH 4 rfl fun K hK=>?_
  · go_simp
    have h:=a0.out g1 g2 (W.heap.size) h2 (W.alloc (.cells #[.nilFunc] 119)) (hJa _ _ hj) (f_c1.alloc _) (f_c3.alloc _) (Blk.new W 119 #[.nilFunc]) (hJB _ hj) (f_k5.alloc _) (f_b5) (Nat.ne_of_gt (Blk.lt f_k5))
    rw [hFR] at h
    refine hK.out _ _ (hJa _ _ hj) (fun _=>?_)
    try simp only [pq]
    exact h
 have a3:=hid x_;clear x_
 have x_:∀ (g1:Nat) (h1:Nat) (h2:Nat) (W:World),J W→Cl W g1 (c+1) p1 p3 p4→Blk W h1 119 #[.nilFunc]→Bs≤h1→Blk W h2 119 #[.nilFunc]→Bs≤h2→h1≠h2→wpAnyH Tryz.prog .any r1ops Q J 3 #[true,true,true,false,true,true,false,false] (FR (.func (.func 149) #[] #[.pointer (some ⟨g1+1+1,0,none⟩),.pointer (some ⟨g1,0,none⟩),.pointer (some ⟨g1+1+1+1,0,none⟩),.pointer (some ⟨g1+1,0,none⟩)]) s10 (.pointer (some ⟨h1,0,none⟩)) (.pointer (some ⟨h2,0,none⟩))) W:=by
  intro g1 h1 h2 W hj f_c1 f_k4 f_b4 f_k5 f_b5 f_ne
  rw [hFR]
  dsimp only
  refine oneH 3 rfl fun K hK=>?_
  · go_simp
    go_at_call 77
    refine (side_any c A B n k m j d C D n2 k2 m2 j2 p1 p2 p3 p4 _ g3).mono ?_
    rintro e W1 ⟨g2,rfl,hcl,-,hb⟩
    dsimp only
    have h:=a0.out g1 g2 h1 h2 W1 (hJb _ _ hj hb) (f_c1.keep hb) (hcl) (f_k4.keep hb) (f_b4) (f_k5.keep hb) (f_b5) (f_ne)
    rw [hFR] at h
    refine hK.out _ _ (hJb _ _ hj hb) (fun _=>?_)
    try simp only [pq]
    exact h
 have a1:=hid x_;clear x_
 have x_:∀ (g1:Nat) (g2:Nat) (W:World),J W→Cl W g1 (c+1) p1 p3 p4→Cl W g2 c p1 p3 (p4-1)→wpAnyH Tryz.prog .any r1ops Q J 4 #[true,true,true,true,false,false,false,false] (FR (.func (.func 149) #[] #[.pointer (some ⟨g1+1+1,0,none⟩),.pointer (some ⟨g1,0,none⟩),.pointer (some ⟨g1+1+1+1,0,none⟩),.pointer (some ⟨g1+1,0,none⟩)]) (.func (.func 149) #[] #[.pointer (some ⟨g2+1+1,0,none⟩),.pointer (some ⟨g2,0,none⟩),.pointer (some ⟨g2+1+1+1,0,none⟩),.pointer (some ⟨g2+1,0,none⟩)]) s5 s6) W:=by
  intro g1 g2 W hj f_c1 f_c3
  rw [hFR]
  dsimp only
  refine wpAnyH_ready (rs:=[4,5]) (by kernel_rfl) (by simp) ?_
  refine rdH rfl (fun K hK=>?_) ?_
  · go_simp
    have h:=a2.out g1 g2 (W.heap.size) (W.alloc (.cells #[.nilFunc] 119)) (hJa _ _ hj) (f_c1.alloc _) (f_c3.alloc _) (Blk.new W 119 #[.nilFunc]) (hJB _ hj)
    rw [hFR] at h
    refine hK.out _ _ (hJa _ _ hj) (fun _=>?_)
    try simp only [pq]
    exact h
  refine rdH rfl (fun K hK=>?_) ?_
  · go_simp
    have h:=a3.out g1 g2 (W.heap.size) (W.alloc (.cells #[.nilFunc] 119)) (hJa _ _ hj) (f_c1.alloc _) (f_c3.alloc _) (Blk.new W 119 #[.nilFunc]) (hJB _ hj)
    rw [hFR] at h
    refine hK.out _ _ (hJa _ _ hj) (fun _=>?_)
    try simp only [pq]
    exact h
  exact AllReadyH.nil
 have a9:=hid x_;clear x_
 have x_:∀ (g1:Nat) (h1:Nat) (W:World),J W→Cl W g1 (c+1) p1 p3 p4→Blk W h1 119 #[.nilFunc]→Bs≤h1→wpAnyH Tryz.prog .any r1ops Q J 4 #[true,true,true,false,true,false,false,false] (FR (.func (.func 149) #[] #[.pointer (some ⟨g1+1+1,0,none⟩),.pointer (some ⟨g1,0,none⟩),.pointer (some ⟨g1+1+1+1,0,none⟩),.pointer (some ⟨g1+1,0,none⟩)]) s10 (.pointer (some ⟨h1,0,none⟩)) s6) W:=by
  intro g1 h1 W hj f_c1 f_k4 f_b4
  rw [hFR]
  dsimp only
  refine wpAnyH_ready (rs:=[3,5]) (by kernel_rfl) (by simp) ?_
  refine rdH rfl (fun K hK=>?_) ?_
  · go_simp
    go_at_call 77
    refine (side_any c A B n k m j d C D n2 k2 m2 j2 p1 p2 p3 p4 _ g3).mono ?_
    rintro e W1 ⟨g2,rfl,hcl,-,hb⟩
    dsimp only
    have h:=a2.out g1 g2 h1 W1 (hJb _ _ hj hb) (f_c1.keep hb) (hcl) (f_k4.keep hb) (f_b4)
    rw [hFR] at h
    refine hK.out _ _ (hJb _ _ hj hb) (fun _=>?_)
    try simp only [pq]
    exact h
  refine rdH rfl (fun K hK=>?_) ?_
  · go_simp
    have h:=a1.out g1 h1 (W.heap.size) (W.alloc (.cells #[.nilFunc] 119)) (hJa _ _ hj) (f_c1.alloc _) (f_k4.alloc _) (f_b4) (Blk.new W 119 #[.nilFunc]) (hJB _ hj) (Nat.ne_of_lt (Blk.lt f_k4))
    rw [hFR] at h
    refine hK.out _ _ (hJa _ _ hj) (fun _=>?_)
    try simp only [pq]
    exact h
  exact AllReadyH.nil
 have a4:=hid x_;clear x_
 have x_:∀ (g1:Nat) (h2:Nat) (W:World),J W→Cl W g1 (c+1) p1 p3 p4→Blk W h2 119 #[.nilFunc]→Bs≤h2→wpAnyH Tryz.prog .any r1ops Q J 4 #[true,true,true,false,false,true,false,false] (FR (.func (.func 149) #[] #[.pointer (some ⟨g1+1+1,0,none⟩),.pointer (some ⟨g1,0,none⟩),.pointer (some ⟨g1+1+1+1,0,none⟩),.pointer (some ⟨g1+1,0,none⟩)]) s10 s5 (.pointer (some ⟨h2,0,none⟩))) W:=by
  intro g1 h2 W hj f_c1 f_k5 f_b5
  rw [hFR]
  dsimp only
  refine wpAnyH_ready (rs:=[3,4]) (by kernel_rfl) (by simp) ?_
  refine rdH rfl (fun K hK=>?_) ?_
  · go_simp
    go_at_call 77
    refine (side_any c A B n k m j d C D n2 k2 m2 j2 p1 p2 p3 p4 _ g3).mono ?_
    rintro e W1 ⟨g2,rfl,hcl,-,hb⟩
    dsimp only
    have h:=a3.out g1 g2 h2 W1 (hJb _ _ hj hb) (f_c1.keep hb) (hcl) (f_k5.keep hb) (f_b5)
    rw [hFR] at h
    refine hK.out _ _ (hJb _ _ hj hb) (fun _=>?_)
    try simp only [pq]
    exact h
  refine rdH rfl (fun K hK=>?_) ?_
  · go_simp
    have h:=a1.out g1 (W.heap.size) h2 (W.alloc (.cells #[.nilFunc] 119)) (hJa _ _ hj) (f_c1.alloc _) (Blk.new W 119 #[.nilFunc]) (hJB _ hj) (f_k5.alloc _) (f_b5) (Nat.ne_of_gt (Blk.lt f_k5))
    rw [hFR] at h
    refine hK.out _ _ (hJa _ _ hj) (fun _=>?_)
    try simp only [pq]
    exact h
  exact AllReadyH.nil
 have a5:=hid x_;clear x_
 have x_:∀ (h1:Nat) (h2:Nat) (W:World),J W→Blk W h1 119 #[.nilFunc]→Bs≤h1→Blk W h2 119 #[.nilFunc]→Bs≤h2→h1≠h2→wpAnyH Tryz.prog .any r1ops Q J 4 #[true,false,true,false,true,true,false,false] (FR s8 s10 (.pointer (some ⟨h1,0,none⟩)) (.pointer (some ⟨h2,0,none⟩))) W:=by
  intro h1 h2 W hj f_k4 f_b4 f_k5 f_b5 f_ne
  rw [hFR]
  dsimp only
  refine oneH 1 rfl fun K hK=>?_
  · go_simp
    go_at_call 76
    refine (corner_any c A B n k m j d C D n2 k2 m2 j2 p1 p2 p3 p4 _ g0).mono ?_
    rintro e W1 ⟨g1,rfl,hcl,-,hb⟩
    dsimp only
    have h:=a1.out g1 h1 h2 W1 (hJb _ _ hj hb) (hcl) (f_k4.keep hb) (f_b4) (f_k5.keep hb) (f_b5) (f_ne)
    rw [hFR] at h
    refine hK.out _ _ (hJb _ _ hj hb) (fun _=>?_)
    try simp only [pq]
    exact h
 have a6:=hid x_;clear x_
 have x_:∀ (g1:Nat) (W:World),J W→Cl W g1 (c+1) p1 p3 p4→wpAnyH Tryz.prog .any r1ops Q J 5 #[true,true,true,false,false,false,false,false] (FR (.func (.func 149) #[] #[.pointer (some ⟨g1+1+1,0,none⟩),.pointer (some ⟨g1,0,none⟩),.pointer (some ⟨g1+1+1+1,0,none⟩),.pointer (some ⟨g1+1,0,none⟩)]) s10 s5 s6) W:=by
  intro g1 W hj f_c1
  rw [hFR]
  dsimp only
  refine wpAnyH_ready (rs:=[3,4,5]) (by kernel_rfl) (by simp) ?_
  refine rdH rfl (fun K hK=>?_) ?_
  · go_simp
    go_at_call 77
    refine (side_any c A B n k m j d C D n2 k2 m2 j2 p1 p2 p3 p4 _ g3).mono ?_
    rintro e W1 ⟨g2,rfl,hcl,-,hb⟩
    dsimp only
    have h:=a9.out g1 g2 W1 (hJb _ _ hj hb) (f_c1.keep hb) (hcl)
    rw [hFR] at h
    refine hK.out _ _ (hJb _ _ hj hb) (fun _=>?_)
    try simp only [pq]
    exact h
  refine rdH rfl (fun K hK=>?_) ?_
  · go_simp
    have h:=a4.out g1 (W.heap.size) (W.alloc (.cells #[.nilFunc] 119)) (hJa _ _ hj) (f_c1.alloc _) (Blk.new W 119 #[.nilFunc]) (hJB _ hj)
    rw [hFR] at h
    refine hK.out _ _ (hJa _ _ hj) (fun _=>?_)
    try simp only [pq]
    exact h
  refine rdH rfl (fun K hK=>?_) ?_
  · go_simp
    have h:=a5.out g1 (W.heap.size) (W.alloc (.cells #[.nilFunc] 119)) (hJa _ _ hj) (f_c1.alloc _) (Blk.new W 119 #[.nilFunc]) (hJB _ hj)
    rw [hFR] at h
    refine hK.out _ _ (hJa _ _ hj) (fun _=>?_)
    try simp only [pq]
    exact h
  exact AllReadyH.nil
 have b0:=hid x_;clear x_
 have x_:∀ (h1:Nat) (W:World),J W→Blk W h1 119 #[.nilFunc]→Bs≤h1→wpAnyH Tryz.prog .any r1ops Q J 5 #[true,false,true,false,true,false,false,false] (FR s8 s10 (.pointer (some ⟨h1,0,none⟩)) s6) W:=by
  intro h1 W hj f_k4 f_b4
  rw [hFR]
  dsimp only
  refine wpAnyH_ready (rs:=[1,5]) (by kernel_rfl) (by simp) ?_
  refine rdH rfl (fun K hK=>?_) ?_
  · go_simp
    go_at_call 76
    refine (corner_any c A B n k m j d C D n2 k2 m2 j2 p1 p2 p3 p4 _ g0).mono ?_
    rintro e W1 ⟨g1,rfl,hcl,-,hb⟩
    dsimp only
    have h:=a4.out g1 h1 W1 (hJb _ _ hj hb) (hcl) (f_k4.keep hb) (f_b4)
    rw [hFR] at h
    refine hK.out _ _ (hJb _ _ hj hb) (fun _=>?_)
    try simp only [pq]
    exact h
  refine rdH rfl (fun K hK=>?_) ?_
  · go_simp
    have h:=a6.out h1 (W.heap.size) (W.alloc (.cells #[.nilFunc] 119)) (hJa _ _ hj) (f_k4.alloc _) (f_b4) (Blk.new W 119 #[.nilFunc]) (hJB _ hj) (Nat.ne_of_lt (Blk.lt f_k4))
    rw [hFR] at h
    refine hK.out _ _ (hJa _ _ hj) (fun _=>?_)
    try simp only [pq]
    exact h
  exact AllReadyH.nil
 have b1:=hid x_;clear x_
 have x_:∀ (h2:Nat) (W:World),J W→Blk W h2 119 #[.nilFunc]→Bs≤h2→wpAnyH Tryz.prog .any r1ops Q J 5 #[true,false,true,false,false,true,false,false] (FR s8 s10 s5 (.pointer (some ⟨h2,0,none⟩))) W:=by
  intro h2 W hj f_k5 f_b5
  rw [hFR]
  dsimp only
  refine wpAnyH_ready (rs:=[1,4]) (by kernel_rfl) (by simp) ?_
  refine rdH rfl (fun K hK=>?_) ?_
  · go_simp
    go_at_call 76
    refine (corner_any c A B n k m j d C D n2 k2 m2 j2 p1 p2 p3 p4 _ g0).mono ?_
    rintro e W1 ⟨g1,rfl,hcl,-,hb⟩
    dsimp only
    have h:=a5.out g1 h2 W1 (hJb _ _ hj hb) (hcl) (f_k5.keep hb) (f_b5)
    rw [hFR] at h
    refine hK.out _ _ (hJb _ _ hj hb) (fun _=>?_)
    try simp only [pq]
    exact h
  refine rdH rfl (fun K hK=>?_) ?_
  · go_simp
    have h:=a6.out (W.heap.size) h2 (W.alloc (.cells #[.nilFunc] 119)) (hJa _ _ hj) (Blk.new W 119 #[.nilFunc]) (hJB _ hj) (f_k5.alloc _) (f_b5) (Nat.ne_of_gt (Blk.lt f_k5))
    rw [hFR] at h
    refine hK.out _ _ (hJa _ _ hj) (fun _=>?_)
    try simp only [pq]
    exact h
  exact AllReadyH.nil
 have b2:=hid x_;clear x_
 have x_:∀  (W:World),J W→wpAnyH Tryz.prog .any r1ops Q J 6 #[true,false,true,false,false,false,false,false] (FR s8 s10 s5 s6) W:=by
  intro W hj
  rw [hFR]
  dsimp only
  refine wpAnyH_ready (rs:=[1,4,5]) (by kernel_rfl) (by simp) ?_
  refine rdH rfl (fun K hK=>?_) ?_
  · go_simp
    go_at_call 76
    refine (corner_any c A B n k m j d C D n2 k2 m2 j2 p1 p2 p3 p4 _ g0).mono ?_
    rintro e W1 ⟨g1,rfl,hcl,-,hb⟩
    dsimp only
    have h:=b0.out g1 W1 (hJb _ _ hj hb) (hcl)
    rw [hFR] at h
    refine hK.out _ _ (hJb _ _ hj hb) (fun _=>?_)
    try simp only [pq]
    exact h
  refine rdH rfl (fun K hK=>?_) ?_
  · go_simp
    have h:=b1.out (W.heap.size) (W.alloc (.cells #[.nilFunc] 119)) (hJa _ _ hj) (Blk.new W 119 #[.nilFunc]) (hJB _ hj)
    rw [hFR] at h
    refine hK.out _ _ (hJa _ _ hj) (fun _=>?_)
    try simp only [pq]
    exact h
  refine rdH rfl (fun K hK=>?_) ?_
  · go_simp
    have h:=b2.out (W.heap.size) (W.alloc (.cells #[.nilFunc] 119)) (hJa _ _ hj) (Blk.new W 119 #[.nilFunc]) (hJB _ hj)
    rw [hFR] at h
    refine hK.out _ _ (hJa _ _ hj) (fun _=>?_)
    try simp only [pq]
    exact h
  exact AllReadyH.nil
 have h:=x_ W0 hj0
 rw [hFR] at h
 exact h
set_option maxRecDepth 100000 in
theorem place_r2 {Q:Exit→Act→World→Prop} {s0 s1 s2 s3 s5 s6 s7 s8 s9 s10 s11 s12 s13 s14 s17 s18 s19 s20 s21 s24 s25 s26 s27 s30 s31 s32 s33 s36 s37:Value} {ds:List Deferred} (go:Nat) (J:World→Prop) (N1 N2 N3 N4:Nat) (L1 L2 L3 L4:List Int) (V15:Int) (U16:Value) (V22:Int) (U23:Value) (V28:Int) (U29:Value) (V34:Int) (U35:Value) (hJb:∀ W W':World,J W→Below W.heap.size W W'→J W')
 (hJo:∀ W,J W→∃ a0 k0 d0 a1 k1 d1 a2 k2 d2 a3 k3 d3,Blk W go 36 #[.slice a0 k0 d0,.slice a1 k1 d1,.slice a2 k2 d2,.slice a3 k3 d3]) (hJs:∀ (W:World) (i:Nat) (A:Option Addr) (n c:Nat),i<4→J W→J (W.setCell ⟨go,i,none⟩ (.slice A n c))) (hC6:∀ W,J W→Calls Tryz.prog 78 #[.int .i64 V15,U16] W fun e W'=>∃ B e',e=.returned (.slice B N1 e')∧RdI W' B N1 e' L1∧Below W.heap.size W W') (hC13:∀ W,J W→Calls Tryz.prog 78 #[.int .i64 V22,U23] W fun e W'=>∃ B e',e=.returned (.slice B N2 e')∧RdI W' B N2 e' L2∧Below W.heap.size W W') (hC19:∀ W,J W→Calls Tryz.prog 78 #[.int .i64 V28,U29] W fun e W'=>∃ B e',e=.returned (.slice B N3 e')∧RdI W' B N3 e' L3∧Below W.heap.size W W') (hC25:∀ W,J W→Calls Tryz.prog 78 #[.int .i64 V34,U35] W fun e W'=>∃ B e',e=.returned (.slice B N4 e')∧RdI W' B N4 e' L4∧Below W.heap.size W W')
 (hQp:∀ (c:List PanicEntry) (a:Act) (d:Nat) (v:Value) (w:World),Q (.panic c) (a.put (some d) v) w→Q (.panic c) a w)
 (fin:∀ (B1:Option Addr) (e1:Nat) (B2:Option Addr) (e2:Nat) (B3:Option Addr) (e3:Nat) (B4:Option Addr) (e4:Nat) (u37:Value) (W:World),J W→Blk W go 36 #[.slice B1 N1 e1,.slice B2 N2 e2,.slice B3 N3 e3,.slice B4 N4 e4]→RdI W B1 N1 e1 L1→RdI W B2 N2 e2 L2→RdI W B3 N3 e3 L3→RdI W B4 N4 e4 L4→Q .normal ({ tmps:=#[s0,s1,s2,s3,.pointer (some ⟨go,0,none⟩),s5,s6,s7,s8,s9,s10,s11,s12,s13,s14,.int .i64 V15,U16,.slice B1 N1 e1,s18,s19,s20,s21,.int .i64 V22,U23,.slice B2 N2 e2,s25,s26,s27,.int .i64 V28,U29,.slice B3 N3 e3,s31,s32,s33,.int .i64 V34,U35,.slice B4 N4 e4,u37],defers:=ds }) W) (W0:World) (hj0:J W0) :
 wpAnyH Tryz.prog .any r2ops Q J 6 #[true,true,true,true,true,true,false,true,true,true,true,true,true,false,true,true,true,true,true,false,true,true,true,true,true,false,false,false] ({ tmps:=#[s0,s1,s2,s3,.pointer (some ⟨go,0,none⟩),s5,s6,s7,s8,s9,s10,s11,s12,s13,s14,.int .i64 V15,U16,s17,s18,s19,s20,s21,.int .i64 V22,U23,s24,s25,s26,s27,.int .i64 V28,U29,s30,s31,s32,s33,.int .i64 V34,U35,s36,s37],defers:=ds }) W0:=by
 obtain ⟨FR,hFR⟩:∃ FR:Value→Value→Value→Value→Act,FR=fun v17 v24 v30 v36=>{ tmps:=#[s0,s1,s2,s3,.pointer (some ⟨go,0,none⟩),s5,s6,s7,s8,s9,s10,s11,s12,s13,s14,.int .i64 V15,U16,v17,s18,s19,s20,s21,.int .i64 V22,U23,v24,s25,s26,s27,.int .i64 V28,U29,v30,s31,s32,s33,.int .i64 V34,U35,v36,s37],defers:=ds }:=⟨_,rfl⟩
 have x_:∀ (B1:Option Addr) (e1:Nat) (B2:Option Addr) (e2:Nat) (B3:Option Addr) (e3:Nat) (B4:Option Addr) (e4:Nat) (W:World),J W→RdI W B1 N1 e1 L1→RdI W B2 N2 e2 L2→RdI W B3 N3 e3 L3→RdI W B4 N4 e4 L4→wpAnyH Tryz.prog .any r2ops Q J 2 #[true,true,true,true,true,true,true,true,true,true,true,true,true,true,true,true,true,true,true,true,true,true,true,true,true,true,false,false] (FR (.slice B1 N1 e1) (.slice B2 N2 e2) (.slice B3 N3 e3) (.slice B4 N4 e4)) W:=by
  intro B1 e1 B2 e2 B3 e3 B4 e4 W hj f_r6 f_r13 f_r19 f_r25
  rw [hFR]
  dsimp only
  refine twH 26 hj ?_ (hQ:=fun _ _ _ h=>hQp _ _ _ _ _ h)
  try simp only [pq]
  refine oneH 27 rfl fun K hK=>?_
  obtain ⟨a0,k0,d0,a1,k1,d1,a2,k2_,d2,a3,k3,d3,hbo⟩:=hJo _ hj
  have z0_:W.cell? ⟨go,0,none⟩=some (.slice a0 k0 d0):=Blk.cell hbo 0
  have y0_:W.frozen? ⟨go,0,none⟩=false:=Blk.frozen hbo 0
  have z1_:W.cell? ⟨go,1,none⟩=some (.slice a1 k1 d1):=Blk.cell hbo 1
  have y1_:W.frozen? ⟨go,1,none⟩=false:=Blk.frozen hbo 1
  have z2_:W.cell? ⟨go,2,none⟩=some (.slice a2 k2_ d2):=Blk.cell hbo 2
  have y2_:W.frozen? ⟨go,2,none⟩=false:=Blk.frozen hbo 2
  have z3_:W.cell? ⟨go,3,none⟩=some (.slice a3 k3 d3):=Blk.cell hbo 3
  have y3_:W.frozen? ⟨go,3,none⟩=false:=Blk.frozen hbo 3
  have lt_:=Blk.lt hbo
  go_simp
  have j0_:=hJs (W) 0 B1 N1 e1 (by omega) hj
  have c0:=rdI_setc (f_r6) ⟨go,0,none⟩ (.slice B1 N1 e1) (hbo) (by intro y hy;simp at hy;rcases hy with rfl|rfl|rfl|rfl<;>simp)
  have a4:=rdI_setc (f_r13) ⟨go,0,none⟩ (.slice B1 N1 e1) (hbo) (by intro y hy;simp at hy;rcases hy with rfl|rfl|rfl|rfl<;>simp)
  have a5:=rdI_setc (f_r19) ⟨go,0,none⟩ (.slice B1 N1 e1) (hbo) (by intro y hy;simp at hy;rcases hy with rfl|rfl|rfl|rfl<;>simp)
  have a6:=rdI_setc (f_r25) ⟨go,0,none⟩ (.slice B1 N1 e1) (hbo) (by intro y hy;simp at hy;rcases hy with rfl|rfl|rfl|rfl<;>simp)
  have hb0_:Blk (W.setCell ⟨go,0,none⟩ (.slice B1 N1 e1)) go 36 #[.slice B1 N1 e1,.slice a1 k1 d1,.slice a2 k2_ d2,.slice a3 k3 d3]:=Blk.set_ hbo 0 (.slice B1 N1 e1)
  have j1_:=hJs ((W.setCell ⟨go,0,none⟩ (.slice B1 N1 e1))) 1 B2 N2 e2 (by omega) j0_
  have c1:=rdI_setc (c0) ⟨go,1,none⟩ (.slice B2 N2 e2) (hb0_) (by intro y hy;simp at hy;rcases hy with rfl|rfl|rfl|rfl<;>simp)
  have a7:=rdI_setc (a4) ⟨go,1,none⟩ (.slice B2 N2 e2) (hb0_) (by intro y hy;simp at hy;rcases hy with rfl|rfl|rfl|rfl<;>simp)
  have a8:=rdI_setc (a5) ⟨go,1,none⟩ (.slice B2 N2 e2) (hb0_) (by intro y hy;simp at hy;rcases hy with rfl|rfl|rfl|rfl<;>simp)
  have a9:=rdI_setc (a6) ⟨go,1,none⟩ (.slice B2 N2 e2) (hb0_) (by intro y hy;simp at hy;rcases hy with rfl|rfl|rfl|rfl<;>simp)
  have hb1_:Blk ((W.setCell ⟨go,0,none⟩ (.slice B1 N1 e1)).setCell ⟨go,1,none⟩ (.slice B2 N2 e2)) go 36 #[.slice B1 N1 e1,.slice B2 N2 e2,.slice a2 k2_ d2,.slice a3 k3 d3]:=Blk.set_ hb0_ 1 (.slice B2 N2 e2)
  have j2_:=hJs (((W.setCell ⟨go,0,none⟩ (.slice B1 N1 e1)).setCell ⟨go,1,none⟩ (.slice B2 N2 e2))) 2 B3 N3 e3 (by omega) j1_
  have c2:=rdI_setc (c1) ⟨go,2,none⟩ (.slice B3 N3 e3) (hb1_) (by intro y hy;simp at hy;rcases hy with rfl|rfl|rfl|rfl<;>simp)
  have b0:=rdI_setc (a7) ⟨go,2,none⟩ (.slice B3 N3 e3) (hb1_) (by intro y hy;simp at hy;rcases hy with rfl|rfl|rfl|rfl<;>simp)
  have b1:=rdI_setc (a8) ⟨go,2,none⟩ (.slice B3 N3 e3) (hb1_) (by intro y hy;simp at hy;rcases hy with rfl|rfl|rfl|rfl<;>simp)
  have b2:=rdI_setc (a9) ⟨go,2,none⟩ (.slice B3 N3 e3) (hb1_) (by intro y hy;simp at hy;rcases hy with rfl|rfl|rfl|rfl<;>simp)
  have hb2_:Blk (((W.setCell ⟨go,0,none⟩ (.slice B1 N1 e1)).setCell ⟨go,1,none⟩ (.slice B2 N2 e2)).setCell ⟨go,2,none⟩ (.slice B3 N3 e3)) go 36 #[.slice B1 N1 e1,.slice B2 N2 e2,.slice B3 N3 e3,.slice a3 k3 d3]:=Blk.set_ hb1_ 2 (.slice B3 N3 e3)
  have j3_:=hJs ((((W.setCell ⟨go,0,none⟩ (.slice B1 N1 e1)).setCell ⟨go,1,none⟩ (.slice B2 N2 e2)).setCell ⟨go,2,none⟩ (.slice B3 N3 e3))) 3 B4 N4 e4 (by omega) j2_
  have c3:=rdI_setc (c2) ⟨go,3,none⟩ (.slice B4 N4 e4) (hb2_) (by intro y hy;simp at hy;rcases hy with rfl|rfl|rfl|rfl<;>simp)
  have b3:=rdI_setc (b0) ⟨go,3,none⟩ (.slice B4 N4 e4) (hb2_) (by intro y hy;simp at hy;rcases hy with rfl|rfl|rfl|rfl<;>simp)
  have b4:=rdI_setc (b1) ⟨go,3,none⟩ (.slice B4 N4 e4) (hb2_) (by intro y hy;simp at hy;rcases hy with rfl|rfl|rfl|rfl<;>simp)
  have b5:=rdI_setc (b2) ⟨go,3,none⟩ (.slice B4 N4 e4) (hb2_) (by intro y hy;simp at hy;rcases hy with rfl|rfl|rfl|rfl<;>simp)
  have hb3_:Blk ((((W.setCell ⟨go,0,none⟩ (.slice B1 N1 e1)).setCell ⟨go,1,none⟩ (.slice B2 N2 e2)).setCell ⟨go,2,none⟩ (.slice B3 N3 e3)).setCell ⟨go,3,none⟩ (.slice B4 N4 e4)) go 36 #[.slice B1 N1 e1,.slice B2 N2 e2,.slice B3 N3 e3,.slice B4 N4 e4]:=Blk.set_ hb2_ 3 (.slice B4 N4 e4)
  refine hK.out _ _ j3_ (fun _=>?_)
  try simp only [pq]
  refine wpAnyH_done (by kernel_rfl) ?_ _
  exact fin _ _ _ _ _ _ _ _ _ _ j3_ hb3_ c3 b3 b4 b5
 have b6:=hid x_;clear x_
 have x_:∀ (B1:Option Addr) (e1:Nat) (B2:Option Addr) (e2:Nat) (B3:Option Addr) (e3:Nat) (W:World),J W→RdI W B1 N1 e1 L1→RdI W B2 N2 e2 L2→RdI W B3 N3 e3 L3→wpAnyH Tryz.prog .any r2ops Q J 3 #[true,true,true,true,true,true,true,true,true,true,true,true,true,true,true,true,true,true,true,true,true,true,true,true,true,false,false,false] (FR (.slice B1 N1 e1) (.slice B2 N2 e2) (.slice B3 N3 e3) s36) W:=by
  intro B1 e1 B2 e2 B3 e3 W hj f_r6 f_r13 f_r19
  rw [hFR]
  dsimp only
  refine oneH 25 rfl fun K hK=>?_
  · go_simp
    go_at_call 78
    refine (hC25 _ hj).mono ?_
    rintro e W1 ⟨B4,e4,rfl,hr,hb⟩
    dsimp only
    have h:=b6.out B1 e1 B2 e2 B3 e3 B4 e4 W1 (hJb _ _ hj hb) (f_r6.below hb) (f_r13.below hb) (f_r19.below hb) (hr)
    rw [hFR] at h
    refine hK.out _ _ (hJb _ _ hj hb) (fun _=>?_)
    try simp only [pq]
    exact h
 have b7:=hid x_;clear x_
 have x_:∀ (B1:Option Addr) (e1:Nat) (B2:Option Addr) (e2:Nat) (W:World),J W→RdI W B1 N1 e1 L1→RdI W B2 N2 e2 L2→wpAnyH Tryz.prog .any r2ops Q J 4 #[true,true,true,true,true,true,true,true,true,true,true,true,true,true,true,true,true,true,true,false,true,true,true,true,true,false,false,false] (FR (.slice B1 N1 e1) (.slice B2 N2 e2) s30 s36) W:=by
  intro B1 e1 B2 e2 W hj f_r6 f_r13
  rw [hFR]
  dsimp only
  refine oneH 19 rfl fun K hK=>?_
  · go_simp
    go_at_call 78
    refine (hC19 _ hj).mono ?_
    rintro e W1 ⟨B3,e3,rfl,hr,hb⟩
    dsimp only
    have h:=b7.out B1 e1 B2 e2 B3 e3 W1 (hJb _ _ hj hb) (f_r6.below hb) (f_r13.below hb) (hr)
    rw [hFR] at h
    refine hK.out _ _ (hJb _ _ hj hb) (fun _=>?_)
    try simp only [pq]
    exact h
 have b8:=hid x_;clear x_
 have x_:∀ (B1:Option Addr) (e1:Nat) (W:World),J W→RdI W B1 N1 e1 L1→wpAnyH Tryz.prog .any r2ops Q J 5 #[true,true,true,true,true,true,true,true,true,true,true,true,true,false,true,true,true,true,true,false,true,true,true,true,true,false,false,false] (FR (.slice B1 N1 e1) s24 s30 s36) W:=by
  intro B1 e1 W hj f_r6
  rw [hFR]
  dsimp only
  refine oneH 13 rfl fun K hK=>?_
  · go_simp
    go_at_call 78
    refine (hC13 _ hj).mono ?_
    rintro e W1 ⟨B2,e2,rfl,hr,hb⟩
    dsimp only
    have h:=b8.out B1 e1 B2 e2 W1 (hJb _ _ hj hb) (f_r6.below hb) (hr)
    rw [hFR] at h
    refine hK.out _ _ (hJb _ _ hj hb) (fun _=>?_)
    try simp only [pq]
    exact h
 have b9:=hid x_;clear x_
 have x_:∀  (W:World),J W→wpAnyH Tryz.prog .any r2ops Q J 6 #[true,true,true,true,true,true,false,true,true,true,true,true,true,false,true,true,true,true,true,false,true,true,true,true,true,false,false,false] (FR s17 s24 s30 s36) W:=by
  intro W hj
  rw [hFR]
  dsimp only
  refine oneH 6 rfl fun K hK=>?_
  · go_simp
    go_at_call 78
    refine (hC6 _ hj).mono ?_
    rintro e W1 ⟨B1,e1,rfl,hr,hb⟩
    dsimp only
    have h:=b9.out B1 e1 W1 (hJb _ _ hj hb) (hr)
    rw [hFR] at h
    refine hK.out _ _ (hJb _ _ hj hb) (fun _=>?_)
    try simp only [pq]
    exact h
 have h:=x_ W0 hj0
 rw [hFR] at h
 exact h
end Go.Proofs.YtjjmifcjailpaaaGreat
