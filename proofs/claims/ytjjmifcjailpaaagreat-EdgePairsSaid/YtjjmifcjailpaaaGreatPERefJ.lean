import Derived.Test.YtjjmifcjailpaaaGreatPEnds
import Derived.Test.YtjjmifcjailpaaaGreatPEMeet
import Derived.Test.YtjjmifcjailpaaaGreatPEWith
set_option maxHeartbeats 4000000
set_option linter.unusedSimpArgs false
set_option linter.unusedVariables false
namespace Go.Proofs.YtjjmifcjailpaaaGreat
open Go.Lib (hid)
open Go.RowKit
set_option maxRecDepth 100000 in
theorem rcorner_any (c:Int) (A B:Option Addr) (n k m j:Nat) (p1 p2 p3 p4:Int) (q v:Int) (w:World) (g0:3≤c∧c≤16) (g1:0≤p1∧p1≤16) (g2:0≤p2∧p2≤16) (g3:0≤p3∧p3≤16) (g4:0≤p4∧p4≤16) (g5:0≤q∧q≤16) (hv:ren (c+1) p1 p3 p4 q=v) :
 Calls Tryz.prog 90 #[.agg #[.int .i64 c,.slice A n k,.slice B m j],.agg #[.int .i64 p1,.int .i64 p2,.int .i64 p3,.int .i64 p4],.int .i64 q] w fun e w'=>e=.returned (.int .i64 v)∧Below w.heap.size w w':=by
 by_cases h1:p3≤q
 · by_cases h2:q≤p4
   · skip
     go_enter Tryz.func90,Tryz.ntmps90
     obtain ⟨a1,a2,a0⟩:=ent2 w #[.int .i64 c,.slice A n k,.slice B m j] 24 #[.int .i64 p1,.int .i64 p2,.int .i64 p3,.int .i64 p4] 28
     obtain ⟨a4,a5,a6⟩:=at3 a1
     obtain ⟨a7,a8,a9,a3⟩:=at4 a2
     go_wp2
     go_ret
     exact ⟨ret_int (by rw [← hv];unfold ren;split<;>(try split)<;>omega),a0.out⟩
   · have h3:¬ q<p3:=by omega
     go_enter Tryz.func90,Tryz.ntmps90
     obtain ⟨a1,a2,a0⟩:=ent2 w #[.int .i64 c,.slice A n k,.slice B m j] 24 #[.int .i64 p1,.int .i64 p2,.int .i64 p3,.int .i64 p4] 28
     obtain ⟨a4,a5,a6⟩:=at3 a1
     obtain ⟨a7,a8,a9,a3⟩:=at4 a2
     go_wp2
     go_ret
     exact ⟨ret_int (by rw [← hv];unfold ren;split<;>(try split)<;>omega),a0.out⟩
 · have h3:q<p3:=by omega
   go_enter Tryz.func90,Tryz.ntmps90
   obtain ⟨a1,a2,a0⟩:=ent2 w #[.int .i64 c,.slice A n k,.slice B m j] 24 #[.int .i64 p1,.int .i64 p2,.int .i64 p3,.int .i64 p4] 28
   obtain ⟨a4,a5,a6⟩:=at3 a1
   obtain ⟨a7,a8,a9,a3⟩:=at4 a2
   go_wp2
   go_ret
   exact ⟨ret_int (by rw [← hv];unfold ren;split<;>(try split)<;>omega),a0.out⟩
set_option maxRecDepth 100000 in
theorem rside_any (c:Int) (A B:Option Addr) (n k m j:Nat) (p1 p2 p3 p4:Int) (q v:Int) (w:World) (g0:3≤c∧c≤16) (g1:0≤p1∧p1≤16) (g2:0≤p2∧p2≤16) (g3:0≤p3∧p3≤16) (g4:0≤p4∧p4≤16) (g5:0≤q∧q≤16) (hv:ren c p1 p3 (p4-1) q=v) :
 Calls Tryz.prog 89 #[.agg #[.int .i64 c,.slice A n k,.slice B m j],.agg #[.int .i64 p1,.int .i64 p2,.int .i64 p3,.int .i64 p4],.int .i64 q] w fun e w'=>e=.returned (.int .i64 v)∧Below w.heap.size w w':=by
 by_cases h1:p3≤q
 · by_cases h2:q<p4
   · skip
     go_enter Tryz.func89,Tryz.ntmps89
     obtain ⟨a1,a2,a0⟩:=ent2 w #[.int .i64 c,.slice A n k,.slice B m j] 24 #[.int .i64 p1,.int .i64 p2,.int .i64 p3,.int .i64 p4] 28
     obtain ⟨a4,a5,a6⟩:=at3 a1
     obtain ⟨a7,a8,a9,a3⟩:=at4 a2
     go_wp2
     go_ret
     exact ⟨ret_int (by rw [← hv];unfold ren;split<;>(try split)<;>omega),a0.out⟩
   · have h3:¬ q<p3:=by omega
     go_enter Tryz.func89,Tryz.ntmps89
     obtain ⟨a1,a2,a0⟩:=ent2 w #[.int .i64 c,.slice A n k,.slice B m j] 24 #[.int .i64 p1,.int .i64 p2,.int .i64 p3,.int .i64 p4] 28
     obtain ⟨a4,a5,a6⟩:=at3 a1
     obtain ⟨a7,a8,a9,a3⟩:=at4 a2
     go_wp2
     go_ret
     exact ⟨ret_int (by rw [← hv];unfold ren;split<;>(try split)<;>omega),a0.out⟩
 · have h3:q<p3:=by omega
   go_enter Tryz.func89,Tryz.ntmps89
   obtain ⟨a1,a2,a0⟩:=ent2 w #[.int .i64 c,.slice A n k,.slice B m j] 24 #[.int .i64 p1,.int .i64 p2,.int .i64 p3,.int .i64 p4] 28
   obtain ⟨a4,a5,a6⟩:=at3 a1
   obtain ⟨a7,a8,a9,a3⟩:=at4 a2
   go_wp2
   go_ret
   exact ⟨ret_int (by rw [← hv];unfold ren;split<;>(try split)<;>omega),a0.out⟩
theorem own_ne {w:World} {base size n g:Nat} {e t:TypeId} {v:Value} {xs:List Value} {cs:Array Value} (h:w.ownsRow base e size v n xs) (hb:Blk w g t cs) (ht:e≠t):v.ownBlock=some g→False:=by
 intro hv
 rcases h.2 with ⟨rfl,-⟩|⟨g',cap,cur,rfl,-,hg,-⟩
 · simp [Value.ownBlock] at hv
 · simp [Value.ownBlock] at hv
   subst hv
   rw [show w.heap[g']?=_ from hb] at hg
   simp only [Option.some.injEq] at hg
   injection hg with h1 h2
   exact ht h2.symm
theorem wp_append_lit {w:World} {o:Oper} {a:Act} {K:Act→World→Prop} {Q:Exit→Act→World→Prop} (s x:Operand)
 (ho:o.op=.call { callee:=.builtin .append,args:=#[s,x],argTypes:=#[22,22] }) (base:Nat) (V:Value) (hown:w.ownsRow base 70 4 V 0 []) (hs:a.eval s=V)
 (A:Option Addr) (n c:Nat) (l:List Bnd) (hr:RdB w A n c l) (hn:n≤400) (hx:a.eval x=.slice A n c) (hbase:base≤w.heap.size)
 (h:∀ A' c' w',w'.ownsRow base 70 4 (.slice A' n c') n (bcells l)→w.grownBy w' V.ownBlock→K (a.put o.dst (.slice A' n c')) w'):o.wp Tryz.prog a w K Q:=by
 obtain ⟨i0,hi0,hz0,hz1,hz2⟩:=info_parts infoB
 cases A with
 | none =>
  obtain ⟨rfl,rfl⟩:=hr.nil rfl
  have hl0:l=[]:=List.length_eq_zero_iff.1 hr.len
  subst hl0
  obtain ⟨A5,c5,rfl,-⟩:=own_form hown
  have hrun:=run_append_owned_none (P:=Tryz.prog) (w:=w) base 22 o.type 70 i0 4 Tryz.underlying22 hi0 _ 0 [] hown
  unfold Oper.wp execOp
  simp only [ho,resolve,invoke,builtin,Sem.run_bind,Sem.run_pure,Result.andThen_ok,List.map_toArray,List.map_cons,List.map_nil,hs,hx,hrun]
  exact h A5 c5 w hown (World.grownBy.refl _ _)
 | some ad =>
  obtain ⟨v',w',hr2,h2,h3,-⟩:=run_append_own (P:=Tryz.prog) (w:=w) base 22 o.type 70 i0 _ 4 32 Tryz.underlying22 hi0 hz0 hz1 hz2 rfl (by omega) V 0 [] hown ad n c (bcells l) (by rw [bcells_length,hr.len]) (hr.cells.hc ad rfl) (bcells_one l) (by unfold maxLen;omega) (by omega) hbase
  rw [Nat.zero_add,List.nil_append] at h2
  obtain ⟨A5,c5,rfl,-⟩:=own_form h2
  unfold Oper.wp execOp
  simp only [ho,resolve,invoke,builtin,Sem.run_bind,Sem.run_pure,Result.andThen_ok,List.map_toArray,List.map_cons,List.map_nil,hs,hx,hr2]
  exact h A5 c5 w' h2 h3
def jtops:Array Oper:=#[{ dst:=some 48,op:=Go.Op.fieldAddr 84 (Go.Operand.tmp 10) 1,type:=0,pos := "ref.go:123",after:=#[],guard:=none },{ dst:=some 49,op:=Go.Op.load 22 (Go.Operand.tmp 48),type:=22,pos := "ref.go:123",after:=#[{ on:=0,ground:=Go.Ground.data }],guard:=none },{ dst:=some 50,op:=Go.Op.load 24 (Go.Operand.tmp 4),type:=24,pos := "ref.go:123",after:=#[],guard:=none },{ dst:=some 51,op:=Go.Op.load 28 (Go.Operand.tmp 6),type:=28,pos := "ref.go:123",after:=#[],guard:=none },{ dst:=some 52,op:=Go.Op.fieldAddr 70 (Go.Operand.tmp 12) 0,type:=0,pos := "ref.go:123",after:=#[],guard:=none },{ dst:=some 53,op:=Go.Op.load 3 (Go.Operand.tmp 52),type:=3,pos := "ref.go:123",after:=#[{ on:=4,ground:=Go.Ground.data }],guard:=none },{ dst:=some 54,op:=Go.Op.call { callee:=Go.Callee.value (Go.Operand.func 89),args:=#[Go.Operand.tmp 50,Go.Operand.tmp 51,Go.Operand.tmp 53],argTypes:=#[24,28,3] },type:=3,pos := "ref.go:123",after:=#[{ on:=2,ground:=Go.Ground.data },{ on:=3,ground:=Go.Ground.data },{ on:=5,ground:=Go.Ground.data }],guard:=none },{ dst:=some 55,op:=Go.Op.load 24 (Go.Operand.tmp 4),type:=24,pos := "ref.go:123",after:=#[],guard:=none },{ dst:=some 56,op:=Go.Op.load 28 (Go.Operand.tmp 6),type:=28,pos := "ref.go:123",after:=#[],guard:=none },{ dst:=some 57,op:=Go.Op.fieldAddr 70 (Go.Operand.tmp 12) 1,type:=0,pos := "ref.go:123",after:=#[],guard:=none },{ dst:=some 58,op:=Go.Op.load 3 (Go.Operand.tmp 57),type:=3,pos := "ref.go:123",after:=#[{ on:=9,ground:=Go.Ground.data }],guard:=none },{ dst:=some 59,op:=Go.Op.call { callee:=Go.Callee.value (Go.Operand.func 89),args:=#[Go.Operand.tmp 55,Go.Operand.tmp 56,Go.Operand.tmp 58],argTypes:=#[24,28,3] },type:=3,pos := "ref.go:123",after:=#[{ on:=7,ground:=Go.Ground.data },{ on:=8,ground:=Go.Ground.data },{ on:=10,ground:=Go.Ground.data },{ on:=6,ground:=Go.Ground.chain }],guard:=none },{ dst:=some 60,op:=Go.Op.fieldAddr 70 (Go.Operand.tmp 12) 2,type:=0,pos := "ref.go:123",after:=#[],guard:=none },{ dst:=some 61,op:=Go.Op.load 3 (Go.Operand.tmp 60),type:=3,pos := "ref.go:123",after:=#[{ on:=12,ground:=Go.Ground.data }],guard:=none },{ dst:=some 62,op:=Go.Op.fieldAddr 70 (Go.Operand.tmp 12) 3,type:=0,pos := "ref.go:123",after:=#[],guard:=none },{ dst:=some 63,op:=Go.Op.load 3 (Go.Operand.tmp 62),type:=3,pos := "ref.go:123",after:=#[{ on:=14,ground:=Go.Ground.data }],guard:=none },{ dst:=some 64,op:=Go.Op.build 70 #[(0,Go.Operand.tmp 54),(1,Go.Operand.tmp 59),(2,Go.Operand.tmp 61),(3,Go.Operand.tmp 63)],type:=70,pos := "ref.go:123",after:=#[{ on:=6,ground:=Go.Ground.data },{ on:=11,ground:=Go.Ground.data },{ on:=13,ground:=Go.Ground.data },{ on:=15,ground:=Go.Ground.data }],guard:=none },{ dst:=some 65,op:=Go.Op.buildSlice 22 1 #[(0,Go.Operand.tmp 64)],type:=22,pos := "ref.go:123",after:=#[{ on:=16,ground:=Go.Ground.data }],guard:=none },{ dst:=some 66,op:=Go.Op.call { callee:=Go.Callee.builtin Go.Builtin.append,args:=#[Go.Operand.tmp 49,Go.Operand.tmp 65],argTypes:=#[22,22] },type:=22,pos := "ref.go:123",after:=#[{ on:=1,ground:=Go.Ground.data },{ on:=17,ground:=Go.Ground.data },{ on:=11,ground:=Go.Ground.chain }],guard:=none },{ dst:=some 67,op:=Go.Op.fieldAddr 84 (Go.Operand.tmp 10) 1,type:=0,pos := "ref.go:123",after:=#[{ on:=0,ground:=Go.Ground.phase },{ on:=1,ground:=Go.Ground.phase },{ on:=2,ground:=Go.Ground.phase },{ on:=3,ground:=Go.Ground.phase },{ on:=4,ground:=Go.Ground.phase },{ on:=5,ground:=Go.Ground.phase },{ on:=6,ground:=Go.Ground.phase },{ on:=7,ground:=Go.Ground.phase },{ on:=8,ground:=Go.Ground.phase },{ on:=9,ground:=Go.Ground.phase },{ on:=10,ground:=Go.Ground.phase },{ on:=11,ground:=Go.Ground.phase },{ on:=12,ground:=Go.Ground.phase },{ on:=13,ground:=Go.Ground.phase },{ on:=14,ground:=Go.Ground.phase },{ on:=15,ground:=Go.Ground.phase },{ on:=16,ground:=Go.Ground.phase },{ on:=17,ground:=Go.Ground.phase },{ on:=18,ground:=Go.Ground.phase }],guard:=none },{ dst:=none,op:=Go.Op.store 22 (Go.Operand.tmp 67) (Go.Operand.tmp 66),type:=0,pos := "ref.go:123",after:=#[{ on:=19,ground:=Go.Ground.data },{ on:=18,ground:=Go.Ground.data },{ on:=18,ground:=Go.Ground.chain },{ on:=0,ground:=Go.Ground.phase },{ on:=1,ground:=Go.Ground.phase },{ on:=2,ground:=Go.Ground.phase },{ on:=3,ground:=Go.Ground.phase },{ on:=4,ground:=Go.Ground.phase },{ on:=5,ground:=Go.Ground.phase },{ on:=6,ground:=Go.Ground.phase },{ on:=7,ground:=Go.Ground.phase },{ on:=8,ground:=Go.Ground.phase },{ on:=9,ground:=Go.Ground.phase },{ on:=10,ground:=Go.Ground.phase },{ on:=11,ground:=Go.Ground.phase },{ on:=12,ground:=Go.Ground.phase },{ on:=13,ground:=Go.Ground.phase },{ on:=14,ground:=Go.Ground.phase },{ on:=15,ground:=Go.Ground.phase },{ on:=16,ground:=Go.Ground.phase },{ on:=17,ground:=Go.Ground.phase },{ on:=18,ground:=Go.Ground.phase }],guard:=none }]
set_option maxRecDepth 100000 in
theorem jt_region (c:Int) (A B:Option Addr) (n k m j:Nat) (p1 p2 p3 p4 V1 V2 v1 v2 mm ib:Int) (gs:Nat) (Ax:Option Addr) (NA cx:Nat) {Q:Exit→Act→World→Prop} {s0 s1 s2 s3 s4 s5 s6 s7 s8 s9 s10 s11 s12 s13 s14 s15 s16 s17 s18 s19 s20 s21 s22 s23 s24 s25 s26 s27 s28 s29 s30 s31 s32 s33 s34 s35 s36 s37 s38 s39 s40 s41 s42 s43 s44 s45 s46 s47 s49 s52 s54 s57 s59 s60 s62 s64 s65 s66 s67 s68 s69 s70 s71 s72 s73 s74 s75 s76 s77 s78 s79 s80 s81 s82 s83 s84 s85 s86 s87 s88 s89 s90 s91 s92 s93 s94 s95 s96 s97 s98 s99 s100 s101 s102 s103 s104 s105 s106 s107 s108 s109 s110 s111 s112 s113 s114 s115:Value} {ds:List Deferred} (J O:World→Prop) (hJa:∀ (W:World) (o:Obj),J W→J (W.alloc o)) (hJb:∀ W W':World,J W→Below W.heap.size W W'→J W') (hOa:∀ (W:World) (o:Obj),O W→O (W.alloc o)) (hOb:∀ W W':World,O W→Below W.heap.size W W'→O W') (hO1:∀ W,O W→W.cell? ⟨gs,1,none⟩=some (.slice Ax NA cx)) (hC6:∀ W,Calls Tryz.prog 89 #[.agg #[.int .i64 c,.slice A n k,.slice B m j],.agg #[.int .i64 p1,.int .i64 p2,.int .i64 p3,.int .i64 p4],.int .i64 V1] W fun e W'=>e=.returned (.int .i64 v1)∧Below W.heap.size W W') (hC11:∀ W,Calls Tryz.prog 89 #[.agg #[.int .i64 c,.slice A n k,.slice B m j],.agg #[.int .i64 p1,.int .i64 p2,.int .i64 p3,.int .i64 p4],.int .i64 V2] W fun e W'=>e=.returned (.int .i64 v2)∧Below W.heap.size W W') (hQp:∀ (c:List PanicEntry) (a:Act) (d:Nat) (v:Value) (w:World),Q (.panic c) (a.put (some d) v) w→Q (.panic c) a w)
 (fin:∀ (nb:Nat) (W:World),J W→O W→Blk W nb 70 #[.int .i64 v1,.int .i64 v2,.int .i64 mm,.int .i64 ib]→wpAnyH Tryz.prog .any jtops Q J 3 #[true,true,true,true,true,true,true,true,true,true,true,true,true,true,true,true,true,true,false,false,false] ({ tmps:=#[s0,s1,s2,s3,s4,s5,s6,s7,s8,s9,s10,s11,s12,s13,s14,s15,s16,s17,s18,s19,s20,s21,s22,s23,s24,s25,s26,s27,s28,s29,s30,s31,s32,s33,s34,s35,s36,s37,s38,s39,s40,s41,s42,s43,s44,s45,s46,s47,.pointer (some ⟨gs,1,none⟩),.slice Ax NA cx,.agg #[.int .i64 c,.slice A n k,.slice B m j],.agg #[.int .i64 p1,.int .i64 p2,.int .i64 p3,.int .i64 p4],s52,.int .i64 V1,.int .i64 v1,.agg #[.int .i64 c,.slice A n k,.slice B m j],.agg #[.int .i64 p1,.int .i64 p2,.int .i64 p3,.int .i64 p4],s57,.int .i64 V2,.int .i64 v2,s60,.int .i64 mm,s62,.int .i64 ib,.agg #[.int .i64 v1,.int .i64 v2,.int .i64 mm,.int .i64 ib],.slice (some ⟨nb,0,none⟩) 1 1,s66,s67,s68,s69,s70,s71,s72,s73,s74,s75,s76,s77,s78,s79,s80,s81,s82,s83,s84,s85,s86,s87,s88,s89,s90,s91,s92,s93,s94,s95,s96,s97,s98,s99,s100,s101,s102,s103,s104,s105,s106,s107,s108,s109,s110,s111,s112,s113,s114,s115],defers:=ds }) W) (W0:World) (hj0:J W0) (f_o:O W0) :
 wpAnyH Tryz.prog .any jtops Q J 8 #[true,false,true,true,true,true,false,true,true,true,true,false,true,true,true,true,false,false,false,false,false] ({ tmps:=#[s0,s1,s2,s3,s4,s5,s6,s7,s8,s9,s10,s11,s12,s13,s14,s15,s16,s17,s18,s19,s20,s21,s22,s23,s24,s25,s26,s27,s28,s29,s30,s31,s32,s33,s34,s35,s36,s37,s38,s39,s40,s41,s42,s43,s44,s45,s46,s47,.pointer (some ⟨gs,1,none⟩),s49,.agg #[.int .i64 c,.slice A n k,.slice B m j],.agg #[.int .i64 p1,.int .i64 p2,.int .i64 p3,.int .i64 p4],s52,.int .i64 V1,s54,.agg #[.int .i64 c,.slice A n k,.slice B m j],.agg #[.int .i64 p1,.int .i64 p2,.int .i64 p3,.int .i64 p4],s57,.int .i64 V2,s59,s60,.int .i64 mm,s62,.int .i64 ib,s64,s65,s66,s67,s68,s69,s70,s71,s72,s73,s74,s75,s76,s77,s78,s79,s80,s81,s82,s83,s84,s85,s86,s87,s88,s89,s90,s91,s92,s93,s94,s95,s96,s97,s98,s99,s100,s101,s102,s103,s104,s105,s106,s107,s108,s109,s110,s111,s112,s113,s114,s115],defers:=ds }) W0:=by
 obtain ⟨FR,hFR⟩:∃ FR:Value→Value→Value→Value→Value→Act,FR=fun v49 v54 v59 v64 v65=>{ tmps:=#[s0,s1,s2,s3,s4,s5,s6,s7,s8,s9,s10,s11,s12,s13,s14,s15,s16,s17,s18,s19,s20,s21,s22,s23,s24,s25,s26,s27,s28,s29,s30,s31,s32,s33,s34,s35,s36,s37,s38,s39,s40,s41,s42,s43,s44,s45,s46,s47,.pointer (some ⟨gs,1,none⟩),v49,.agg #[.int .i64 c,.slice A n k,.slice B m j],.agg #[.int .i64 p1,.int .i64 p2,.int .i64 p3,.int .i64 p4],s52,.int .i64 V1,v54,.agg #[.int .i64 c,.slice A n k,.slice B m j],.agg #[.int .i64 p1,.int .i64 p2,.int .i64 p3,.int .i64 p4],s57,.int .i64 V2,v59,s60,.int .i64 mm,s62,.int .i64 ib,v64,v65,s66,s67,s68,s69,s70,s71,s72,s73,s74,s75,s76,s77,s78,s79,s80,s81,s82,s83,s84,s85,s86,s87,s88,s89,s90,s91,s92,s93,s94,s95,s96,s97,s98,s99,s100,s101,s102,s103,s104,s105,s106,s107,s108,s109,s110,s111,s112,s113,s114,s115],defers:=ds }:=⟨_,rfl⟩
 have x_:∀ (nb:Nat) (W:World),J W→O W→Blk W nb 70 #[.int .i64 v1,.int .i64 v2,.int .i64 mm,.int .i64 ib]→wpAnyH Tryz.prog .any jtops Q J 3 #[true,true,true,true,true,true,true,true,true,true,true,true,true,true,true,true,true,true,false,false,false] (FR (.slice Ax NA cx) (.int .i64 v1) (.int .i64 v2) (.agg #[.int .i64 v1,.int .i64 v2,.int .i64 mm,.int .i64 ib]) (.slice (some ⟨nb,0,none⟩) 1 1)) W:=by
  intro nb W hj f_o f_nb
  rw [hFR]
  dsimp only
  exact fin _ W hj f_o f_nb
 have a0:=hid x_;clear x_
 have x_:∀  (W:World),J W→O W→wpAnyH Tryz.prog .any jtops Q J 4 #[true,true,true,true,true,true,true,true,true,true,true,true,true,true,true,true,true,false,false,false,false] (FR (.slice Ax NA cx) (.int .i64 v1) (.int .i64 v2) (.agg #[.int .i64 v1,.int .i64 v2,.int .i64 mm,.int .i64 ib]) s65) W:=by
  intro W hj f_o
  rw [hFR]
  dsimp only
  refine oneH 17 rfl fun K hK=>?_
  · go_simp
    have h:=a0.out (W.heap.size) (W.alloc (.cells #[.int .i64 v1,.int .i64 v2,.int .i64 mm,.int .i64 ib] 70)) (hJa _ _ hj) (hOa _ _ f_o) (Blk.new W 70 #[.int .i64 v1,.int .i64 v2,.int .i64 mm,.int .i64 ib])
    rw [hFR] at h
    refine hK.out _ _ (hJa _ _ hj) (fun _=>?_)
    try simp only [pq]
    exact h
 have a1:=hid x_;clear x_
 have x_:∀ (nb:Nat) (W:World),J W→O W→Blk W nb 70 #[.int .i64 v1,.int .i64 v2,.int .i64 mm,.int .i64 ib]→wpAnyH Tryz.prog .any jtops Q J 4 #[true,false,true,true,true,true,true,true,true,true,true,true,true,true,true,true,true,true,false,false,false] (FR s49 (.int .i64 v1) (.int .i64 v2) (.agg #[.int .i64 v1,.int .i64 v2,.int .i64 mm,.int .i64 ib]) (.slice (some ⟨nb,0,none⟩) 1 1)) W:=by
  intro nb W hj f_o f_nb
  rw [hFR]
  dsimp only
  refine oneH 1 rfl fun K hK=>?_
  · have z_:=hO1 _ f_o
    go_simp
    have h:=a0.out nb W hj (f_o) (f_nb)
    rw [hFR] at h
    refine hK.out _ _ hj (fun _=>?_)
    try simp only [pq]
    exact h
 have a3:=hid x_;clear x_
 have x_:∀  (W:World),J W→O W→wpAnyH Tryz.prog .any jtops Q J 5 #[true,true,true,true,true,true,true,true,true,true,true,true,true,true,true,true,false,false,false,false,false] (FR (.slice Ax NA cx) (.int .i64 v1) (.int .i64 v2) s64 s65) W:=by
  intro W hj f_o
  rw [hFR]
  dsimp only
  have h:=a1.out  W hj f_o
  rw [hFR] at h
  refine twH 16 hj ?_ (hQ:=fun _ _ _ h=>hQp _ _ _ _ _ h)
  try simp only [pq]
  exact h
 have a4:=hid x_;clear x_
 have x_:∀  (W:World),J W→O W→wpAnyH Tryz.prog .any jtops Q J 5 #[true,false,true,true,true,true,true,true,true,true,true,true,true,true,true,true,true,false,false,false,false] (FR s49 (.int .i64 v1) (.int .i64 v2) (.agg #[.int .i64 v1,.int .i64 v2,.int .i64 mm,.int .i64 ib]) s65) W:=by
  intro W hj f_o
  rw [hFR]
  dsimp only
  refine wpAnyH_ready (rs:=[1,17]) (by kernel_rfl) (by simp) ?_
  refine rdH rfl (fun K hK=>?_) ?_
  · have z_:=hO1 _ f_o
    go_simp
    have h:=a1.out  W hj (f_o)
    rw [hFR] at h
    refine hK.out _ _ hj (fun _=>?_)
    try simp only [pq]
    exact h
  refine rdH rfl (fun K hK=>?_) ?_
  · go_simp
    have h:=a3.out (W.heap.size) (W.alloc (.cells #[.int .i64 v1,.int .i64 v2,.int .i64 mm,.int .i64 ib] 70)) (hJa _ _ hj) (hOa _ _ f_o) (Blk.new W 70 #[.int .i64 v1,.int .i64 v2,.int .i64 mm,.int .i64 ib])
    rw [hFR] at h
    refine hK.out _ _ (hJa _ _ hj) (fun _=>?_)
    try simp only [pq]
    exact h
  exact AllReadyH.nil
 have a5:=hid x_;clear x_
 have x_:∀  (W:World),J W→O W→wpAnyH Tryz.prog .any jtops Q J 6 #[true,true,true,true,true,true,true,true,true,true,true,false,true,true,true,true,false,false,false,false,false] (FR (.slice Ax NA cx) (.int .i64 v1) s59 s64 s65) W:=by
  intro W hj f_o
  rw [hFR]
  dsimp only
  refine oneH 11 rfl fun K hK=>?_
  · go_simp
    go_at_call 89
    refine (hC11 _).mono ?_
    rintro e W1 ⟨rfl,hb⟩
    dsimp only
    have h:=a4.out  W1 (hJb _ _ hj hb) (hOb _ _ f_o hb)
    rw [hFR] at h
    refine hK.out _ _ (hJb _ _ hj hb) (fun _=>?_)
    try simp only [pq]
    exact h
 have a2:=hid x_;clear x_
 have x_:∀  (W:World),J W→O W→wpAnyH Tryz.prog .any jtops Q J 6 #[true,false,true,true,true,true,true,true,true,true,true,true,true,true,true,true,false,false,false,false,false] (FR s49 (.int .i64 v1) (.int .i64 v2) s64 s65) W:=by
  intro W hj f_o
  rw [hFR]
  dsimp only
  have h:=a5.out  W hj f_o
  rw [hFR] at h
  refine twH 16 hj ?_ (hQ:=fun _ _ _ h=>hQp _ _ _ _ _ h)
  try simp only [pq]
  exact h
 have a6:=hid x_;clear x_
 have x_:∀  (W:World),J W→O W→wpAnyH Tryz.prog .any jtops Q J 7 #[true,true,true,true,true,true,false,true,true,true,true,false,true,true,true,true,false,false,false,false,false] (FR (.slice Ax NA cx) s54 s59 s64 s65) W:=by
  intro W hj f_o
  rw [hFR]
  dsimp only
  refine oneH 6 rfl fun K hK=>?_
  · go_simp
    go_at_call 89
    refine (hC6 _).mono ?_
    rintro e W1 ⟨rfl,hb⟩
    dsimp only
    have h:=a2.out  W1 (hJb _ _ hj hb) (hOb _ _ f_o hb)
    rw [hFR] at h
    refine hK.out _ _ (hJb _ _ hj hb) (fun _=>?_)
    try simp only [pq]
    exact h
 have a7:=hid x_;clear x_
 have x_:∀  (W:World),J W→O W→wpAnyH Tryz.prog .any jtops Q J 7 #[true,false,true,true,true,true,true,true,true,true,true,false,true,true,true,true,false,false,false,false,false] (FR s49 (.int .i64 v1) s59 s64 s65) W:=by
  intro W hj f_o
  rw [hFR]
  dsimp only
  refine wpAnyH_ready (rs:=[1,11]) (by kernel_rfl) (by simp) ?_
  refine rdH rfl (fun K hK=>?_) ?_
  · have z_:=hO1 _ f_o
    go_simp
    have h:=a2.out  W hj (f_o)
    rw [hFR] at h
    refine hK.out _ _ hj (fun _=>?_)
    try simp only [pq]
    exact h
  refine rdH rfl (fun K hK=>?_) ?_
  · go_simp
    go_at_call 89
    refine (hC11 _).mono ?_
    rintro e W1 ⟨rfl,hb⟩
    dsimp only
    have h:=a6.out  W1 (hJb _ _ hj hb) (hOb _ _ f_o hb)
    rw [hFR] at h
    refine hK.out _ _ (hJb _ _ hj hb) (fun _=>?_)
    try simp only [pq]
    exact h
  exact AllReadyH.nil
 have a8:=hid x_;clear x_
 have x_:∀  (W:World),J W→O W→wpAnyH Tryz.prog .any jtops Q J 8 #[true,false,true,true,true,true,false,true,true,true,true,false,true,true,true,true,false,false,false,false,false] (FR s49 s54 s59 s64 s65) W:=by
  intro W hj f_o
  rw [hFR]
  dsimp only
  refine wpAnyH_ready (rs:=[1,6]) (by kernel_rfl) (by simp) ?_
  refine rdH rfl (fun K hK=>?_) ?_
  · have z_:=hO1 _ f_o
    go_simp
    have h:=a7.out  W hj (f_o)
    rw [hFR] at h
    refine hK.out _ _ hj (fun _=>?_)
    try simp only [pq]
    exact h
  refine rdH rfl (fun K hK=>?_) ?_
  · go_simp
    go_at_call 89
    refine (hC6 _).mono ?_
    rintro e W1 ⟨rfl,hb⟩
    dsimp only
    have h:=a8.out  W1 (hJb _ _ hj hb) (hOb _ _ f_o hb)
    rw [hFR] at h
    refine hK.out _ _ (hJb _ _ hj hb) (fun _=>?_)
    try simp only [pq]
    exact h
  exact AllReadyH.nil
 have h:=x_ W0 hj0 f_o
 rw [hFR] at h
 exact h
def jwops:Array Oper:=#[{ dst:=some 95,op:=Go.Op.fieldAddr 84 (Go.Operand.tmp 13) 1,type:=0,pos := "ref.go:130",after:=#[],guard:=none },{ dst:=some 96,op:=Go.Op.load 22 (Go.Operand.tmp 95),type:=22,pos := "ref.go:130",after:=#[{ on:=0,ground:=Go.Ground.data }],guard:=none },{ dst:=some 97,op:=Go.Op.load 24 (Go.Operand.tmp 4),type:=24,pos := "ref.go:130",after:=#[],guard:=none },{ dst:=some 98,op:=Go.Op.load 28 (Go.Operand.tmp 6),type:=28,pos := "ref.go:130",after:=#[],guard:=none },{ dst:=some 99,op:=Go.Op.fieldAddr 70 (Go.Operand.tmp 15) 1,type:=0,pos := "ref.go:130",after:=#[],guard:=none },{ dst:=some 100,op:=Go.Op.load 3 (Go.Operand.tmp 99),type:=3,pos := "ref.go:130",after:=#[{ on:=4,ground:=Go.Ground.data }],guard:=none },{ dst:=some 101,op:=Go.Op.call { callee:=Go.Callee.value (Go.Operand.func 90),args:=#[Go.Operand.tmp 97,Go.Operand.tmp 98,Go.Operand.tmp 100],argTypes:=#[24,28,3] },type:=3,pos := "ref.go:130",after:=#[{ on:=2,ground:=Go.Ground.data },{ on:=3,ground:=Go.Ground.data },{ on:=5,ground:=Go.Ground.data }],guard:=none },{ dst:=some 102,op:=Go.Op.load 24 (Go.Operand.tmp 4),type:=24,pos := "ref.go:130",after:=#[],guard:=none },{ dst:=some 103,op:=Go.Op.load 28 (Go.Operand.tmp 6),type:=28,pos := "ref.go:130",after:=#[],guard:=none },{ dst:=some 104,op:=Go.Op.fieldAddr 70 (Go.Operand.tmp 15) 0,type:=0,pos := "ref.go:130",after:=#[],guard:=none },{ dst:=some 105,op:=Go.Op.load 3 (Go.Operand.tmp 104),type:=3,pos := "ref.go:130",after:=#[{ on:=9,ground:=Go.Ground.data }],guard:=none },{ dst:=some 106,op:=Go.Op.call { callee:=Go.Callee.value (Go.Operand.func 90),args:=#[Go.Operand.tmp 102,Go.Operand.tmp 103,Go.Operand.tmp 105],argTypes:=#[24,28,3] },type:=3,pos := "ref.go:130",after:=#[{ on:=7,ground:=Go.Ground.data },{ on:=8,ground:=Go.Ground.data },{ on:=10,ground:=Go.Ground.data },{ on:=6,ground:=Go.Ground.chain }],guard:=none },{ dst:=some 107,op:=Go.Op.fieldAddr 70 (Go.Operand.tmp 15) 2,type:=0,pos := "ref.go:130",after:=#[],guard:=none },{ dst:=some 108,op:=Go.Op.load 3 (Go.Operand.tmp 107),type:=3,pos := "ref.go:130",after:=#[{ on:=12,ground:=Go.Ground.data }],guard:=none },{ dst:=some 109,op:=Go.Op.fieldAddr 70 (Go.Operand.tmp 15) 3,type:=0,pos := "ref.go:130",after:=#[],guard:=none },{ dst:=some 110,op:=Go.Op.load 3 (Go.Operand.tmp 109),type:=3,pos := "ref.go:130",after:=#[{ on:=14,ground:=Go.Ground.data }],guard:=none },{ dst:=some 111,op:=Go.Op.build 70 #[(0,Go.Operand.tmp 101),(1,Go.Operand.tmp 106),(2,Go.Operand.tmp 108),(3,Go.Operand.tmp 110)],type:=70,pos := "ref.go:130",after:=#[{ on:=6,ground:=Go.Ground.data },{ on:=11,ground:=Go.Ground.data },{ on:=13,ground:=Go.Ground.data },{ on:=15,ground:=Go.Ground.data }],guard:=none },{ dst:=some 112,op:=Go.Op.buildSlice 22 1 #[(0,Go.Operand.tmp 111)],type:=22,pos := "ref.go:130",after:=#[{ on:=16,ground:=Go.Ground.data }],guard:=none },{ dst:=some 113,op:=Go.Op.call { callee:=Go.Callee.builtin Go.Builtin.append,args:=#[Go.Operand.tmp 96,Go.Operand.tmp 112],argTypes:=#[22,22] },type:=22,pos := "ref.go:130",after:=#[{ on:=1,ground:=Go.Ground.data },{ on:=17,ground:=Go.Ground.data },{ on:=11,ground:=Go.Ground.chain }],guard:=none },{ dst:=some 114,op:=Go.Op.fieldAddr 84 (Go.Operand.tmp 13) 1,type:=0,pos := "ref.go:130",after:=#[{ on:=0,ground:=Go.Ground.phase },{ on:=1,ground:=Go.Ground.phase },{ on:=2,ground:=Go.Ground.phase },{ on:=3,ground:=Go.Ground.phase },{ on:=4,ground:=Go.Ground.phase },{ on:=5,ground:=Go.Ground.phase },{ on:=6,ground:=Go.Ground.phase },{ on:=7,ground:=Go.Ground.phase },{ on:=8,ground:=Go.Ground.phase },{ on:=9,ground:=Go.Ground.phase },{ on:=10,ground:=Go.Ground.phase },{ on:=11,ground:=Go.Ground.phase },{ on:=12,ground:=Go.Ground.phase },{ on:=13,ground:=Go.Ground.phase },{ on:=14,ground:=Go.Ground.phase },{ on:=15,ground:=Go.Ground.phase },{ on:=16,ground:=Go.Ground.phase },{ on:=17,ground:=Go.Ground.phase },{ on:=18,ground:=Go.Ground.phase }],guard:=none },{ dst:=none,op:=Go.Op.store 22 (Go.Operand.tmp 114) (Go.Operand.tmp 113),type:=0,pos := "ref.go:130",after:=#[{ on:=19,ground:=Go.Ground.data },{ on:=18,ground:=Go.Ground.data },{ on:=18,ground:=Go.Ground.chain },{ on:=0,ground:=Go.Ground.phase },{ on:=1,ground:=Go.Ground.phase },{ on:=2,ground:=Go.Ground.phase },{ on:=3,ground:=Go.Ground.phase },{ on:=4,ground:=Go.Ground.phase },{ on:=5,ground:=Go.Ground.phase },{ on:=6,ground:=Go.Ground.phase },{ on:=7,ground:=Go.Ground.phase },{ on:=8,ground:=Go.Ground.phase },{ on:=9,ground:=Go.Ground.phase },{ on:=10,ground:=Go.Ground.phase },{ on:=11,ground:=Go.Ground.phase },{ on:=12,ground:=Go.Ground.phase },{ on:=13,ground:=Go.Ground.phase },{ on:=14,ground:=Go.Ground.phase },{ on:=15,ground:=Go.Ground.phase },{ on:=16,ground:=Go.Ground.phase },{ on:=17,ground:=Go.Ground.phase },{ on:=18,ground:=Go.Ground.phase }],guard:=none }]
set_option maxRecDepth 100000 in
theorem jw_region (c:Int) (A B:Option Addr) (n k m j:Nat) (p1 p2 p3 p4 V1 V2 v1 v2 mm ib:Int) (gs:Nat) (Ax:Option Addr) (NA cx:Nat) {Q:Exit→Act→World→Prop} {s0 s1 s2 s3 s4 s5 s6 s7 s8 s9 s10 s11 s12 s13 s14 s15 s16 s17 s18 s19 s20 s21 s22 s23 s24 s25 s26 s27 s28 s29 s30 s31 s32 s33 s34 s35 s36 s37 s38 s39 s40 s41 s42 s43 s44 s45 s46 s47 s48 s49 s50 s51 s52 s53 s54 s55 s56 s57 s58 s59 s60 s61 s62 s63 s64 s65 s66 s67 s68 s69 s70 s71 s72 s73 s74 s75 s76 s77 s78 s79 s80 s81 s82 s83 s84 s85 s86 s87 s88 s89 s90 s91 s92 s93 s94 s96 s99 s101 s104 s106 s107 s109 s111 s112 s113 s114 s115:Value} {ds:List Deferred} (J O:World→Prop) (hJa:∀ (W:World) (o:Obj),J W→J (W.alloc o)) (hJb:∀ W W':World,J W→Below W.heap.size W W'→J W') (hOa:∀ (W:World) (o:Obj),O W→O (W.alloc o)) (hOb:∀ W W':World,O W→Below W.heap.size W W'→O W') (hO1:∀ W,O W→W.cell? ⟨gs,1,none⟩=some (.slice Ax NA cx)) (hC6:∀ W,Calls Tryz.prog 90 #[.agg #[.int .i64 c,.slice A n k,.slice B m j],.agg #[.int .i64 p1,.int .i64 p2,.int .i64 p3,.int .i64 p4],.int .i64 V1] W fun e W'=>e=.returned (.int .i64 v1)∧Below W.heap.size W W') (hC11:∀ W,Calls Tryz.prog 90 #[.agg #[.int .i64 c,.slice A n k,.slice B m j],.agg #[.int .i64 p1,.int .i64 p2,.int .i64 p3,.int .i64 p4],.int .i64 V2] W fun e W'=>e=.returned (.int .i64 v2)∧Below W.heap.size W W') (hQp:∀ (c:List PanicEntry) (a:Act) (d:Nat) (v:Value) (w:World),Q (.panic c) (a.put (some d) v) w→Q (.panic c) a w)
 (fin:∀ (nb:Nat) (W:World),J W→O W→Blk W nb 70 #[.int .i64 v1,.int .i64 v2,.int .i64 mm,.int .i64 ib]→wpAnyH Tryz.prog .any jwops Q J 3 #[true,true,true,true,true,true,true,true,true,true,true,true,true,true,true,true,true,true,false,false,false] ({ tmps:=#[s0,s1,s2,s3,s4,s5,s6,s7,s8,s9,s10,s11,s12,s13,s14,s15,s16,s17,s18,s19,s20,s21,s22,s23,s24,s25,s26,s27,s28,s29,s30,s31,s32,s33,s34,s35,s36,s37,s38,s39,s40,s41,s42,s43,s44,s45,s46,s47,s48,s49,s50,s51,s52,s53,s54,s55,s56,s57,s58,s59,s60,s61,s62,s63,s64,s65,s66,s67,s68,s69,s70,s71,s72,s73,s74,s75,s76,s77,s78,s79,s80,s81,s82,s83,s84,s85,s86,s87,s88,s89,s90,s91,s92,s93,s94,.pointer (some ⟨gs,1,none⟩),.slice Ax NA cx,.agg #[.int .i64 c,.slice A n k,.slice B m j],.agg #[.int .i64 p1,.int .i64 p2,.int .i64 p3,.int .i64 p4],s99,.int .i64 V1,.int .i64 v1,.agg #[.int .i64 c,.slice A n k,.slice B m j],.agg #[.int .i64 p1,.int .i64 p2,.int .i64 p3,.int .i64 p4],s104,.int .i64 V2,.int .i64 v2,s107,.int .i64 mm,s109,.int .i64 ib,.agg #[.int .i64 v1,.int .i64 v2,.int .i64 mm,.int .i64 ib],.slice (some ⟨nb,0,none⟩) 1 1,s113,s114,s115],defers:=ds }) W) (W0:World) (hj0:J W0) (f_o:O W0) :
 wpAnyH Tryz.prog .any jwops Q J 8 #[true,false,true,true,true,true,false,true,true,true,true,false,true,true,true,true,false,false,false,false,false] ({ tmps:=#[s0,s1,s2,s3,s4,s5,s6,s7,s8,s9,s10,s11,s12,s13,s14,s15,s16,s17,s18,s19,s20,s21,s22,s23,s24,s25,s26,s27,s28,s29,s30,s31,s32,s33,s34,s35,s36,s37,s38,s39,s40,s41,s42,s43,s44,s45,s46,s47,s48,s49,s50,s51,s52,s53,s54,s55,s56,s57,s58,s59,s60,s61,s62,s63,s64,s65,s66,s67,s68,s69,s70,s71,s72,s73,s74,s75,s76,s77,s78,s79,s80,s81,s82,s83,s84,s85,s86,s87,s88,s89,s90,s91,s92,s93,s94,.pointer (some ⟨gs,1,none⟩),s96,.agg #[.int .i64 c,.slice A n k,.slice B m j],.agg #[.int .i64 p1,.int .i64 p2,.int .i64 p3,.int .i64 p4],s99,.int .i64 V1,s101,.agg #[.int .i64 c,.slice A n k,.slice B m j],.agg #[.int .i64 p1,.int .i64 p2,.int .i64 p3,.int .i64 p4],s104,.int .i64 V2,s106,s107,.int .i64 mm,s109,.int .i64 ib,s111,s112,s113,s114,s115],defers:=ds }) W0:=by
 obtain ⟨FR,hFR⟩:∃ FR:Value→Value→Value→Value→Value→Act,FR=fun v96 a9 b0 b1 b2=>{ tmps:=#[s0,s1,s2,s3,s4,s5,s6,s7,s8,s9,s10,s11,s12,s13,s14,s15,s16,s17,s18,s19,s20,s21,s22,s23,s24,s25,s26,s27,s28,s29,s30,s31,s32,s33,s34,s35,s36,s37,s38,s39,s40,s41,s42,s43,s44,s45,s46,s47,s48,s49,s50,s51,s52,s53,s54,s55,s56,s57,s58,s59,s60,s61,s62,s63,s64,s65,s66,s67,s68,s69,s70,s71,s72,s73,s74,s75,s76,s77,s78,s79,s80,s81,s82,s83,s84,s85,s86,s87,s88,s89,s90,s91,s92,s93,s94,.pointer (some ⟨gs,1,none⟩),v96,.agg #[.int .i64 c,.slice A n k,.slice B m j],.agg #[.int .i64 p1,.int .i64 p2,.int .i64 p3,.int .i64 p4],s99,.int .i64 V1,a9,.agg #[.int .i64 c,.slice A n k,.slice B m j],.agg #[.int .i64 p1,.int .i64 p2,.int .i64 p3,.int .i64 p4],s104,.int .i64 V2,b0,s107,.int .i64 mm,s109,.int .i64 ib,b1,b2,s113,s114,s115],defers:=ds }:=⟨_,rfl⟩
 have x_:∀ (nb:Nat) (W:World),J W→O W→Blk W nb 70 #[.int .i64 v1,.int .i64 v2,.int .i64 mm,.int .i64 ib]→wpAnyH Tryz.prog .any jwops Q J 3 #[true,true,true,true,true,true,true,true,true,true,true,true,true,true,true,true,true,true,false,false,false] (FR (.slice Ax NA cx) (.int .i64 v1) (.int .i64 v2) (.agg #[.int .i64 v1,.int .i64 v2,.int .i64 mm,.int .i64 ib]) (.slice (some ⟨nb,0,none⟩) 1 1)) W:=by
  intro nb W hj f_o f_nb
  rw [hFR]
  dsimp only
  exact fin _ W hj f_o f_nb
 have a0:=hid x_;clear x_
 have x_:∀  (W:World),J W→O W→wpAnyH Tryz.prog .any jwops Q J 4 #[true,true,true,true,true,true,true,true,true,true,true,true,true,true,true,true,true,false,false,false,false] (FR (.slice Ax NA cx) (.int .i64 v1) (.int .i64 v2) (.agg #[.int .i64 v1,.int .i64 v2,.int .i64 mm,.int .i64 ib]) s112) W:=by
  intro W hj f_o
  rw [hFR]
  dsimp only
  refine oneH 17 rfl fun K hK=>?_
  · go_simp
    have h:=a0.out (W.heap.size) (W.alloc (.cells #[.int .i64 v1,.int .i64 v2,.int .i64 mm,.int .i64 ib] 70)) (hJa _ _ hj) (hOa _ _ f_o) (Blk.new W 70 #[.int .i64 v1,.int .i64 v2,.int .i64 mm,.int .i64 ib])
    rw [hFR] at h
    refine hK.out _ _ (hJa _ _ hj) (fun _=>?_)
    try simp only [pq]
    exact h
 have a1:=hid x_;clear x_
 have x_:∀ (nb:Nat) (W:World),J W→O W→Blk W nb 70 #[.int .i64 v1,.int .i64 v2,.int .i64 mm,.int .i64 ib]→wpAnyH Tryz.prog .any jwops Q J 4 #[true,false,true,true,true,true,true,true,true,true,true,true,true,true,true,true,true,true,false,false,false] (FR s96 (.int .i64 v1) (.int .i64 v2) (.agg #[.int .i64 v1,.int .i64 v2,.int .i64 mm,.int .i64 ib]) (.slice (some ⟨nb,0,none⟩) 1 1)) W:=by
  intro nb W hj f_o f_nb
  rw [hFR]
  dsimp only
  refine oneH 1 rfl fun K hK=>?_
  · have z_:=hO1 _ f_o
    go_simp
    have h:=a0.out nb W hj (f_o) (f_nb)
    rw [hFR] at h
    refine hK.out _ _ hj (fun _=>?_)
    try simp only [pq]
    exact h
 have a3:=hid x_;clear x_
 have x_:∀  (W:World),J W→O W→wpAnyH Tryz.prog .any jwops Q J 5 #[true,true,true,true,true,true,true,true,true,true,true,true,true,true,true,true,false,false,false,false,false] (FR (.slice Ax NA cx) (.int .i64 v1) (.int .i64 v2) s111 s112) W:=by
  intro W hj f_o
  rw [hFR]
  dsimp only
  have h:=a1.out  W hj f_o
  rw [hFR] at h
  refine twH 16 hj ?_ (hQ:=fun _ _ _ h=>hQp _ _ _ _ _ h)
  try simp only [pq]
  exact h
 have a4:=hid x_;clear x_
 have x_:∀  (W:World),J W→O W→wpAnyH Tryz.prog .any jwops Q J 5 #[true,false,true,true,true,true,true,true,true,true,true,true,true,true,true,true,true,false,false,false,false] (FR s96 (.int .i64 v1) (.int .i64 v2) (.agg #[.int .i64 v1,.int .i64 v2,.int .i64 mm,.int .i64 ib]) s112) W:=by
  intro W hj f_o
  rw [hFR]
  dsimp only
  refine wpAnyH_ready (rs:=[1,17]) (by kernel_rfl) (by simp) ?_
  refine rdH rfl (fun K hK=>?_) ?_
  · have z_:=hO1 _ f_o
    go_simp
    have h:=a1.out  W hj (f_o)
    rw [hFR] at h
    refine hK.out _ _ hj (fun _=>?_)
    try simp only [pq]
    exact h
  refine rdH rfl (fun K hK=>?_) ?_
  · go_simp
    have h:=a3.out (W.heap.size) (W.alloc (.cells #[.int .i64 v1,.int .i64 v2,.int .i64 mm,.int .i64 ib] 70)) (hJa _ _ hj) (hOa _ _ f_o) (Blk.new W 70 #[.int .i64 v1,.int .i64 v2,.int .i64 mm,.int .i64 ib])
    rw [hFR] at h
    refine hK.out _ _ (hJa _ _ hj) (fun _=>?_)
    try simp only [pq]
    exact h
  exact AllReadyH.nil
 have a5:=hid x_;clear x_
 have x_:∀  (W:World),J W→O W→wpAnyH Tryz.prog .any jwops Q J 6 #[true,true,true,true,true,true,true,true,true,true,true,false,true,true,true,true,false,false,false,false,false] (FR (.slice Ax NA cx) (.int .i64 v1) s106 s111 s112) W:=by
  intro W hj f_o
  rw [hFR]
  dsimp only
  refine oneH 11 rfl fun K hK=>?_
  · go_simp
    go_at_call 90
    refine (hC11 _).mono ?_
    rintro e W1 ⟨rfl,hb⟩
    dsimp only
    have h:=a4.out  W1 (hJb _ _ hj hb) (hOb _ _ f_o hb)
    rw [hFR] at h
    refine hK.out _ _ (hJb _ _ hj hb) (fun _=>?_)
    try simp only [pq]
    exact h
 have a2:=hid x_;clear x_
 have x_:∀  (W:World),J W→O W→wpAnyH Tryz.prog .any jwops Q J 6 #[true,false,true,true,true,true,true,true,true,true,true,true,true,true,true,true,false,false,false,false,false] (FR s96 (.int .i64 v1) (.int .i64 v2) s111 s112) W:=by
  intro W hj f_o
  rw [hFR]
  dsimp only
  have h:=a5.out  W hj f_o
  rw [hFR] at h
  refine twH 16 hj ?_ (hQ:=fun _ _ _ h=>hQp _ _ _ _ _ h)
  try simp only [pq]
  exact h
 have a6:=hid x_;clear x_
 have x_:∀  (W:World),J W→O W→wpAnyH Tryz.prog .any jwops Q J 7 #[true,true,true,true,true,true,false,true,true,true,true,false,true,true,true,true,false,false,false,false,false] (FR (.slice Ax NA cx) s101 s106 s111 s112) W:=by
  intro W hj f_o
  rw [hFR]
  dsimp only
  refine oneH 6 rfl fun K hK=>?_
  · go_simp
    go_at_call 90
    refine (hC6 _).mono ?_
    rintro e W1 ⟨rfl,hb⟩
    dsimp only
    have h:=a2.out  W1 (hJb _ _ hj hb) (hOb _ _ f_o hb)
    rw [hFR] at h
    refine hK.out _ _ (hJb _ _ hj hb) (fun _=>?_)
    try simp only [pq]
    exact h
 have a7:=hid x_;clear x_
 have x_:∀  (W:World),J W→O W→wpAnyH Tryz.prog .any jwops Q J 7 #[true,false,true,true,true,true,true,true,true,true,true,false,true,true,true,true,false,false,false,false,false] (FR s96 (.int .i64 v1) s106 s111 s112) W:=by
  intro W hj f_o
  rw [hFR]
  dsimp only
  refine wpAnyH_ready (rs:=[1,11]) (by kernel_rfl) (by simp) ?_
  refine rdH rfl (fun K hK=>?_) ?_
  · have z_:=hO1 _ f_o
    go_simp
    have h:=a2.out  W hj (f_o)
    rw [hFR] at h
    refine hK.out _ _ hj (fun _=>?_)
    try simp only [pq]
    exact h
  refine rdH rfl (fun K hK=>?_) ?_
  · go_simp
    go_at_call 90
    refine (hC11 _).mono ?_
    rintro e W1 ⟨rfl,hb⟩
    dsimp only
    have h:=a6.out  W1 (hJb _ _ hj hb) (hOb _ _ f_o hb)
    rw [hFR] at h
    refine hK.out _ _ (hJb _ _ hj hb) (fun _=>?_)
    try simp only [pq]
    exact h
  exact AllReadyH.nil
 have a8:=hid x_;clear x_
 have x_:∀  (W:World),J W→O W→wpAnyH Tryz.prog .any jwops Q J 8 #[true,false,true,true,true,true,false,true,true,true,true,false,true,true,true,true,false,false,false,false,false] (FR s96 s101 s106 s111 s112) W:=by
  intro W hj f_o
  rw [hFR]
  dsimp only
  refine wpAnyH_ready (rs:=[1,6]) (by kernel_rfl) (by simp) ?_
  refine rdH rfl (fun K hK=>?_) ?_
  · have z_:=hO1 _ f_o
    go_simp
    have h:=a7.out  W hj (f_o)
    rw [hFR] at h
    refine hK.out _ _ hj (fun _=>?_)
    try simp only [pq]
    exact h
  refine rdH rfl (fun K hK=>?_) ?_
  · go_simp
    go_at_call 90
    refine (hC6 _).mono ?_
    rintro e W1 ⟨rfl,hb⟩
    dsimp only
    have h:=a8.out  W1 (hJb _ _ hj hb) (hOb _ _ f_o hb)
    rw [hFR] at h
    refine hK.out _ _ (hJb _ _ hj hb) (fun _=>?_)
    try simp only [pq]
    exact h
  exact AllReadyH.nil
 have h:=x_ W0 hj0 f_o
 rw [hFR] at h
 exact h
set_option maxRecDepth 100000 in
theorem rjoint_t (c:Int) (A B:Option Addr) (n k m j:Nat) (ws ts:List Bnd) (d:Int) (C D:Option Addr) (n2 k2 m2 j2:Nat) (ws2 ts2:List Bnd) (p1 p2 p3 p4:Int) (w:World) (h1:RdB w A n k ws) (h2:RdB w B m j ts) (hn:n≤maxLen) (hm:m≤maxLen) (h3:RdB w C n2 k2 ws2) (h4:RdB w D m2 j2 ts2) (hn2:n2≤maxLen) (hm2:m2≤maxLen) (g0:3≤c∧c≤16) (g1:3≤d∧d≤16) (g2:0≤p1∧p1<p2∧p2≤c) (g3:0≤p3∧p3<p4∧p4≤d) (hl1:m≤400) (hl2:m2≤400) (hok:∀ x∈ts2,0≤x.f∧x.f≤16∧0≤x.t∧x.t≤16) :
 Calls Tryz.prog 48 #[.agg #[.int .i64 c,.slice A n k,.slice B m j],.agg #[.int .i64 d,.slice C n2 k2,.slice D m2 j2],.agg #[.int .i64 p1,.int .i64 p2,.int .i64 p3,.int .i64 p4],.bool true] w fun e w'=>∃ Ar nr kr,e=.returned (.agg #[.int .i64 (c+d-(p2-p1)),.slice Ar nr kr])∧RdB w' Ar nr kr (turnL ⟨c,ws,ts⟩ ⟨d,ws2,ts2⟩ ⟨p1,p2,p3,p4⟩)∧Below w.heap.size w w':=by
 obtain ⟨i0,hi0,hz0,hz1,hz2⟩:=info_parts infoB
 have HI:=hid hi0;have HZ0:=hid hz0;have HZ1:=hid hz1;have HZ2:=hid hz2;clear hi0 hz0 hz1 hz2
 have HWS:Hid (IntKind.i64.wrap (c+d)=c+d∧IntKind.i64.wrap (p2-p1)=p2-p1∧IntKind.i64.wrap (c+d-(p2-p1))=c+d-(p2-p1)∧True):=hid ⟨IntWalk.i64_in _ (by omega),IntWalk.i64_in _ (by omega),IntWalk.i64_in _ (by omega),trivial⟩
 have RB0:=hid (h4);have RA0:=hid (h2);clear h1 h2 h3 h4
 go_enter Tryz.func48,Tryz.ntmps48
 obtain ⟨a0,a1,a7,a3,a2⟩:=ent4 w #[.int .i64 c,.slice A n k,.slice B m j] 24 #[.int .i64 d,.slice C n2 k2,.slice D m2 j2] 24 #[.int .i64 p1,.int .i64 p2,.int .i64 p3,.int .i64 p4] 28 #[.int .i64 0,.slice none 0 0] 84
 obtain ⟨x7,x8,x9⟩:=at3 a0
 obtain ⟨y0,w9,x0⟩:=at3 a1
 obtain ⟨x1,x2,x3,x4⟩:=at4 a7
 obtain ⟨x5,x6⟩:=at2 a3
 go_upto_region 3 with fail
 clear x7 x8 x9 y0 w9 x0 x1 x2 x3 x4 x5 x6
 obtain ⟨w1,hW⟩:∃ w',w'=((((w.alloc (.cells #[.int .i64 c,.slice A n k,.slice B m j] 24)).alloc (.cells #[.int .i64 d,.slice C n2 k2,.slice D m2 j2] 24)).alloc (.cells #[.int .i64 p1,.int .i64 p2,.int .i64 p3,.int .i64 p4] 28)).alloc (.cells #[.int .i64 0,.slice none 0 0] 84)):=⟨_,rfl⟩
 rw [← hW] at a2 a0 a1 a7 a3
 rw [← hW]
 clear hW
 go_cut [10] from 24 to 35 (fun sb wx=>∃ (gs:Nat) (Ai:Option Addr) (ci:Nat),sb=.pointer (some ⟨gs,0,none⟩)∧wx.ownsRow (w.heap.size+1+1+1+1) 70 4 (.slice Ai (m) ci) (m) (bcells (ts))∧Blk wx gs 84 #[.int .i64 (c+d-(p2-p1)),.slice Ai (m) ci]∧(w.heap.size+1+1+1+1)≤gs∧Blk wx (w.heap.size) 24 #[.int .i64 c,.slice A n k,.slice B m j]∧Blk wx (w.heap.size+1) 24 #[.int .i64 d,.slice C n2 k2,.slice D m2 j2]∧Blk wx (w.heap.size+1+1) 28 #[.int .i64 p1,.int .i64 p2,.int .i64 p3,.int .i64 p4]∧Blk wx (w.heap.size+1+1+1) 84 #[.int .i64 0,.slice none 0 0]∧Below w.heap.size w wx)
 case first =>
  have hgz_:=Nat.succ_le_of_lt (Blk.lt a3.out)
  replace a2:=bD a2
  replace a0:=kD a0
  replace a1:=kD a1
  replace a7:=kD a7
  replace a3:=kD a3
  refine wp_region_held_drew (S:=(fun W'=>Blk W' (w.heap.size) 24 #[.int .i64 c,.slice A n k,.slice B m j]∧Blk W' (w.heap.size+1) 24 #[.int .i64 d,.slice C n2 k2,.slice D m2 j2])) (by kernel_rfl) ⟨a0.out,a1.out⟩ (fun _=>?_)
  obtain ⟨c1,d9⟩:∃ w',w'=(w1.drew):=⟨_,rfl⟩
  rw [← d9] at a2 a0 a1 a7 a3
  rw [← d9]
  clear d9
  refine' twH 0 ⟨a0.out,a1.out⟩ ?_
  refine' tkH 1 ⟨a0.out,a1.out⟩ ?n9 ?_
  case n9=>(rintro W' ⟨hS0,hS1⟩;have hc0:=Blk.nth hS0 0;clear hS0 hS1;go_simp;try with_reducible rfl)
  refine' twH 2 ⟨a0.out,a1.out⟩ ?_
  refine' tkH 3 ⟨a0.out,a1.out⟩ ?o0 ?_
  case o0=>(rintro W' ⟨hS0,hS1⟩;have hc0:=Blk.nth hS1 0;clear hS0 hS1;go_simp;try with_reducible rfl)
  try simp only [pq]
  refine' twH 4 ⟨a0.out,a1.out⟩ ?_
  refine' twH 5 ⟨a0.out,a1.out⟩ ?_
  refine' twH 6 ⟨a0.out,a1.out⟩ ?_
  refine' twH 8 ⟨a0.out,a1.out⟩ ?_
  try simp only [pq]
  refine' tkH 9 ⟨a0.out,a1.out⟩ ?o5 ?_
  case o5=>(rintro W' ⟨hS0,hS1⟩;have hc0:=Blk.nth hS0 2;clear hS0 hS1;go_simp;try with_reducible rfl)
  try simp only [pq]
  refine wpAnyH_ready (rs:=[7,12]) (by kernel_rfl) (by simp) ?_
  refine rdH rfl (fun K hK=>?_) ?_
  · -- 7: buildSlice
   go_simp
   have how_:=World.ownsRow_lit (c1) (e:=70) (size:=4) #[] 0 (Nat.le_refl _) (by unfold maxLen;omega) rfl
   have how_:=owns_base how_ (show (w.heap.size+1+1+1+1)≤_ from Nat.succ_le_of_lt (Blk.lt (a3.out)))
   have q0:=hid (a2.out.size)
   have q1:=hid (Nat.ne_of_lt (Blk.lt a0.out))
   have q2:=hid (Nat.ne_of_lt (Blk.lt a1.out))
   have q3:=hid (Nat.ne_of_lt (Blk.lt a7.out))
   have q4:=hid (Nat.ne_of_lt (Blk.lt a3.out))
   obtain ⟨o_,ho_⟩:∃ o,o=(.cells #[] 70:Obj):=⟨_,rfl⟩
   replace a2:=bA a2 o_
   replace a0:=kA a0 o_
   replace a1:=kA a1 o_
   replace a7:=kA a7 o_
   replace a3:=kA a3 o_
   subst ho_
   have f9:=hid (Blk.new (c1) 70 #[])
   obtain ⟨y1,e4⟩:∃ g,g=(c1).heap.size:=⟨_,rfl⟩
   obtain ⟨g6,e5⟩:∃ w',w'=(c1).alloc (.cells #[] 70):=⟨_,rfl⟩
   rw [← e5] at a2 a0 a1 a7 a3 f9 how_
   rw [← e4] at q0 q1 q2 q3 q4 f9 how_
   rw [← e4,← e5]
   clear e4 e5
   have OWL:=hid how_;clear how_
   refine hK.out _ _ ⟨a0.out,a1.out⟩ (fun _=>?_);clear hK K
   try simp only [pq]
   refine wpAnyH_ready (rs:=[10,12]) (by kernel_rfl) (by simp) ?_
   refine rdH rfl (fun K hK=>?_) ?_
   · -- 10: call
    refine wp_append_lit (.tmp 31) (.tmp 33) rfl (w.heap.size+1+1+1+1) _ (OWL.out) rfl B m j ts (RdB.below RA0.out (a2.out)) hl1 rfl (Nat.succ_le_of_lt (Blk.lt (a3.out))) ?_
    intro Ai ci g7 hown5_ hg5_
    have b9:=hid (blk_grown (a0.out) hg5_ (fun e=>by have h_:=(World.ownsRow.lt (OWL.out) _ e).1;omega))
    have c0:=hid (blk_grown (a1.out) hg5_ (fun e=>by have h_:=(World.ownsRow.lt (OWL.out) _ e).1;omega))
    have c6:=hid (blk_grown (a7.out) hg5_ (fun e=>by have h_:=(World.ownsRow.lt (OWL.out) _ e).1;omega))
    have c2:=hid (blk_grown (a3.out) hg5_ (fun e=>by have h_:=(World.ownsRow.lt (OWL.out) _ e).1;omega))
    have c7:=hid (Below.grown (a2.out) hg5_ (Below.size (a2.out)) (fun q e=>by have h_:=(World.ownsRow.lt (OWL.out) q e).1;omega))
    have OWA:=hid hown5_
    clear hown5_ hg5_
    refine hK.out _ _ ⟨b9.out,c0.out⟩ (fun _=>?_);clear hK K
    try simp only [pq]
    refine' twH 11 ⟨b9.out,c0.out⟩ ?_
    try simp only [pq]
    refine oneH 12 rfl fun K hK=>?_
    go_simp
    have hbz_:=hid (Nat.lt_of_lt_of_le (Blk.lt (c2.out)) (Nat.le_refl _))
    have q5:=hid (c7.out.size)
    have q6:=hid (Nat.ne_of_lt (Blk.lt b9.out))
    have q7:=hid (Nat.ne_of_lt (Blk.lt c0.out))
    have q8:=hid (Nat.ne_of_lt (Blk.lt c6.out))
    have q9:=hid (Nat.ne_of_lt (Blk.lt c2.out))
    obtain ⟨o_,ho_⟩:∃ o,o=(.cells #[.int .i64 0,.slice none 0 0] 84:Obj):=⟨_,rfl⟩
    replace c7:=bA c7 o_
    replace b9:=kA b9 o_
    replace c0:=kA c0 o_
    replace c6:=kA c6 o_
    replace c2:=kA c2 o_
    replace OWA:=hid (World.ownsRow.alloc (OWA.out) (o_))
    subst ho_
    have a8:=hid (Blk.new (g7) 84 #[.int .i64 0,.slice none 0 0])
    obtain ⟨a4,e6⟩:∃ g,g=(g7).heap.size:=⟨_,rfl⟩
    obtain ⟨c8,e7⟩:∃ w',w'=(g7).alloc (.cells #[.int .i64 0,.slice none 0 0] 84):=⟨_,rfl⟩
    rw [← e7] at c7 b9 c0 c6 c2 OWA a8
    rw [← e6] at q5 q6 q7 q8 q9 a8 hbz_
    rw [← e6,← e7]
    clear e6 e7
    have r0:=hbz_;clear hbz_
    refine hK.out _ _ ⟨b9.out,c0.out⟩ (fun _=>?_);clear hK K
    try simp only [pq]
    refine oneH 13 rfl fun K hK=>?_
    have HGE:=hid (show (w.heap.size+1+1+1+1)≤a4 from by have h1_:=r0.out;omega)
    have hge_:=HGE.out
    obtain ⟨hw1,hw2,hw3,hw4⟩:=HWS.out
    have u3:(c8).cell? ⟨a4,0,none⟩=some (.int .i64 0):=Blk.cell (a8.out) 0
    have u4:(c8).frozen? ⟨a4,0,none⟩=false:=Blk.frozen (a8.out) 0
    have u5:(c8).cell? ⟨a4,1,none⟩=some (.slice none 0 0):=Blk.cell (a8.out) 1
    have u6:(c8).frozen? ⟨a4,1,none⟩=false:=Blk.frozen (a8.out) 1
    have hlt_:=Blk.lt (a8.out)
    go_simp
    try simp only [hw1,hw2,hw3,hw4]
    clear hw1 hw2 hw3 hw4
    have l2:=hid (Blk.set_ (Blk.set_ (a8.out) 0 (.int .i64 (c+d-(p2-p1)))) 1 (.slice Ai m ci))
    have g8:=hid (Blk.far (Blk.far (b9.out) (p:=⟨a4,0,none⟩) (by dsimp only;omega) (.int .i64 (c+d-(p2-p1)))) (p:=⟨a4,1,none⟩) (by dsimp only;omega) (.slice Ai m ci))
    have g9:=hid (Blk.far (Blk.far (c0.out) (p:=⟨a4,0,none⟩) (by dsimp only;omega) (.int .i64 (c+d-(p2-p1)))) (p:=⟨a4,1,none⟩) (by dsimp only;omega) (.slice Ai m ci))
    have l3:=hid (Blk.far (Blk.far (c6.out) (p:=⟨a4,0,none⟩) (by dsimp only;omega) (.int .i64 (c+d-(p2-p1)))) (p:=⟨a4,1,none⟩) (by dsimp only;omega) (.slice Ai m ci))
    have l4:=hid (Blk.far (Blk.far (c2.out) (p:=⟨a4,0,none⟩) (by dsimp only;omega) (.int .i64 (c+d-(p2-p1)))) (p:=⟨a4,1,none⟩) (by dsimp only;omega) (.slice Ai m ci))
    have l5:=hid (Below.setCell (Below.setCell (c7.out) (p:=⟨a4,0,none⟩) (by dsimp only;omega) (.int .i64 (c+d-(p2-p1)))) (p:=⟨a4,1,none⟩) (by dsimp only;omega) (.slice Ai m ci))
    have l6:=hid (own_far (own_far (OWA.out) (a:=⟨a4,0,none⟩) (own_ne (OWA.out) (a8.out) (by decide)) (.int .i64 (c+d-(p2-p1)))) (a:=⟨a4,1,none⟩) (own_ne (own_far (OWA.out) (a:=⟨a4,0,none⟩) (own_ne (OWA.out) (a8.out) (by decide)) (.int .i64 (c+d-(p2-p1)))) (Blk.set_ (a8.out) 0 (.int .i64 (c+d-(p2-p1)))) (by decide)) (.slice Ai m ci))
    obtain ⟨y2,e8⟩:∃ w',w'=(((c8).setCell ⟨a4,0,none⟩ (.int .i64 (c+d-(p2-p1)))).setCell ⟨a4,1,none⟩ (.slice Ai m ci)):=⟨_,rfl⟩
    rw [← e8] at l2 g8 g9 l3 l4 l5 l6
    rw [← e8]
    clear e8 u3 u4 u5 u6 hlt_
    clear hge_
    refine hK.out _ _ ⟨g8.out,g9.out⟩ (fun _=>?_);clear hK K
    try simp only [pq]
    refine wpAnyH_done (by kernel_rfl) ?_ _
    go_wp2
    go_meet
    exact ⟨_,Ai,ci,rfl,l6.out,l2.out,HGE.out,g8.out,g9.out,l3.out,l4.out,l5.out⟩
   refine rdH rfl (fun K hK=>?_) ?_
   · -- 12: alloc
    go_simp
    have hbz_:=hid (Nat.lt_of_lt_of_le (Blk.lt (a3.out)) (Nat.le_refl _))
    have r1:=hid (a2.out.size)
    have r2:=hid (Nat.ne_of_lt (Blk.lt a0.out))
    have r3:=hid (Nat.ne_of_lt (Blk.lt a1.out))
    have r4:=hid (Nat.ne_of_lt (Blk.lt a7.out))
    have r5:=hid (Nat.ne_of_lt (Blk.lt a3.out))
    obtain ⟨o_,ho_⟩:∃ o,o=(.cells #[.int .i64 0,.slice none 0 0] 84:Obj):=⟨_,rfl⟩
    replace a2:=bA a2 o_
    replace a0:=kA a0 o_
    replace a1:=kA a1 o_
    replace a7:=kA a7 o_
    replace a3:=kA a3 o_
    replace OWL:=hid (World.ownsRow.alloc (OWL.out) (o_))
    subst ho_
    have c3:=hid (Blk.new (g6) 84 #[.int .i64 0,.slice none 0 0])
    obtain ⟨a5,e9⟩:∃ g,g=(g6).heap.size:=⟨_,rfl⟩
    obtain ⟨y3,f0⟩:∃ w',w'=(g6).alloc (.cells #[.int .i64 0,.slice none 0 0] 84):=⟨_,rfl⟩
    rw [← f0] at a2 a0 a1 a7 a3 OWL c3
    rw [← e9] at r1 r2 r3 r4 r5 c3 hbz_
    rw [← e9,← f0]
    clear e9 f0
    have r6:=hbz_;clear hbz_
    refine hK.out _ _ ⟨a0.out,a1.out⟩ (fun _=>?_);clear hK K
    try simp only [pq]
    refine oneH 10 rfl fun K hK=>?_
    refine wp_append_lit (.tmp 31) (.tmp 33) rfl (w.heap.size+1+1+1+1) _ (OWL.out) rfl B m j ts (RdB.below RA0.out (a2.out)) hl1 rfl (Nat.succ_le_of_lt (Blk.lt (a3.out))) ?_
    intro Ai ci c9 hown5_ hg5_
    have h0:=hid (blk_grown (a0.out) hg5_ (fun e=>by have h_:=(World.ownsRow.lt (OWL.out) _ e).1;omega))
    have h5:=hid (blk_grown (a1.out) hg5_ (fun e=>by have h_:=(World.ownsRow.lt (OWL.out) _ e).1;omega))
    have u7:=hid (blk_grown (a7.out) hg5_ (fun e=>by have h_:=(World.ownsRow.lt (OWL.out) _ e).1;omega))
    have u8:=hid (blk_grown (a3.out) hg5_ (fun e=>by have h_:=(World.ownsRow.lt (OWL.out) _ e).1;omega))
    have b4:=hid (blk_grown (c3.out) hg5_ (own_ne (OWL.out) (c3.out) (by decide)))
    have u9:=hid (Below.grown (a2.out) hg5_ (Below.size (a2.out)) (fun q e=>by have h_:=(World.ownsRow.lt (OWL.out) q e).1;omega))
    have OWA:=hid hown5_
    clear hown5_ hg5_
    refine hK.out _ _ ⟨h0.out,h5.out⟩ (fun _=>?_);clear hK K
    try simp only [pq]
    refine' twH 11 ⟨h0.out,h5.out⟩ ?_
    try simp only [pq]
    refine oneH 13 rfl fun K hK=>?_
    have HGE:=hid (show (w.heap.size+1+1+1+1)≤a5 from by have h1_:=r6.out;omega)
    have hge_:=HGE.out
    obtain ⟨hw1,hw2,hw3,hw4⟩:=HWS.out
    have v0:(c9).cell? ⟨a5,0,none⟩=some (.int .i64 0):=Blk.cell (b4.out) 0
    have v3:(c9).frozen? ⟨a5,0,none⟩=false:=Blk.frozen (b4.out) 0
    have v4:(c9).cell? ⟨a5,1,none⟩=some (.slice none 0 0):=Blk.cell (b4.out) 1
    have v6:(c9).frozen? ⟨a5,1,none⟩=false:=Blk.frozen (b4.out) 1
    have hlt_:=Blk.lt (b4.out)
    go_simp
    try simp only [hw1,hw2,hw3,hw4]
    clear hw1 hw2 hw3 hw4
    have l7:=hid (Blk.set_ (Blk.set_ (b4.out) 0 (.int .i64 (c+d-(p2-p1)))) 1 (.slice Ai m ci))
    have h6:=hid (Blk.far (Blk.far (h0.out) (p:=⟨a5,0,none⟩) (by dsimp only;omega) (.int .i64 (c+d-(p2-p1)))) (p:=⟨a5,1,none⟩) (by dsimp only;omega) (.slice Ai m ci))
    have h7:=hid (Blk.far (Blk.far (h5.out) (p:=⟨a5,0,none⟩) (by dsimp only;omega) (.int .i64 (c+d-(p2-p1)))) (p:=⟨a5,1,none⟩) (by dsimp only;omega) (.slice Ai m ci))
    have l8:=hid (Blk.far (Blk.far (u7.out) (p:=⟨a5,0,none⟩) (by dsimp only;omega) (.int .i64 (c+d-(p2-p1)))) (p:=⟨a5,1,none⟩) (by dsimp only;omega) (.slice Ai m ci))
    have l9:=hid (Blk.far (Blk.far (u8.out) (p:=⟨a5,0,none⟩) (by dsimp only;omega) (.int .i64 (c+d-(p2-p1)))) (p:=⟨a5,1,none⟩) (by dsimp only;omega) (.slice Ai m ci))
    have m0:=hid (Below.setCell (Below.setCell (u9.out) (p:=⟨a5,0,none⟩) (by dsimp only;omega) (.int .i64 (c+d-(p2-p1)))) (p:=⟨a5,1,none⟩) (by dsimp only;omega) (.slice Ai m ci))
    have m1:=hid (own_far (own_far (OWA.out) (a:=⟨a5,0,none⟩) (own_ne (OWA.out) (b4.out) (by decide)) (.int .i64 (c+d-(p2-p1)))) (a:=⟨a5,1,none⟩) (own_ne (own_far (OWA.out) (a:=⟨a5,0,none⟩) (own_ne (OWA.out) (b4.out) (by decide)) (.int .i64 (c+d-(p2-p1)))) (Blk.set_ (b4.out) 0 (.int .i64 (c+d-(p2-p1)))) (by decide)) (.slice Ai m ci))
    obtain ⟨y4,f1⟩:∃ w',w'=(((c9).setCell ⟨a5,0,none⟩ (.int .i64 (c+d-(p2-p1)))).setCell ⟨a5,1,none⟩ (.slice Ai m ci)):=⟨_,rfl⟩
    rw [← f1] at l7 h6 h7 l8 l9 m0 m1
    rw [← f1]
    clear f1 v0 v3 v4 v6 hlt_
    clear hge_
    refine hK.out _ _ ⟨h6.out,h7.out⟩ (fun _=>?_);clear hK K
    try simp only [pq]
    refine wpAnyH_done (by kernel_rfl) ?_ _
    go_wp2
    go_meet
    exact ⟨_,Ai,ci,rfl,m1.out,l7.out,HGE.out,h6.out,h7.out,l8.out,l9.out,m0.out⟩
   exact AllReadyH.nil
  refine rdH rfl (fun K hK=>?_) ?_
  · -- 12: alloc
   go_simp
   have hbz_:=hid (Nat.lt_of_lt_of_le (Blk.lt (a3.out)) (Nat.le_refl _))
   have r7:=hid (a2.out.size)
   have r8:=hid (Nat.ne_of_lt (Blk.lt a0.out))
   have r9:=hid (Nat.ne_of_lt (Blk.lt a1.out))
   have s0:=hid (Nat.ne_of_lt (Blk.lt a7.out))
   have s1:=hid (Nat.ne_of_lt (Blk.lt a3.out))
   obtain ⟨o_,ho_⟩:∃ o,o=(.cells #[.int .i64 0,.slice none 0 0] 84:Obj):=⟨_,rfl⟩
   replace a2:=bA a2 o_
   replace a0:=kA a0 o_
   replace a1:=kA a1 o_
   replace a7:=kA a7 o_
   replace a3:=kA a3 o_
   subst ho_
   have b1:=hid (Blk.new (c1) 84 #[.int .i64 0,.slice none 0 0])
   obtain ⟨a6,f2⟩:∃ g,g=(c1).heap.size:=⟨_,rfl⟩
   obtain ⟨d7,f3⟩:∃ w',w'=(c1).alloc (.cells #[.int .i64 0,.slice none 0 0] 84):=⟨_,rfl⟩
   rw [← f3] at a2 a0 a1 a7 a3 b1
   rw [← f2] at r7 r8 r9 s0 s1 b1 hbz_
   rw [← f2,← f3]
   clear f2 f3
   have s2:=hbz_;clear hbz_
   refine hK.out _ _ ⟨a0.out,a1.out⟩ (fun _=>?_);clear hK K
   try simp only [pq]
   refine oneH 7 rfl fun K hK=>?_
   go_simp
   have how_:=World.ownsRow_lit (d7) (e:=70) (size:=4) #[] 0 (Nat.le_refl _) (by unfold maxLen;omega) rfl
   have how_:=owns_base how_ (show (w.heap.size+1+1+1+1)≤_ from Nat.succ_le_of_lt (Blk.lt (a3.out)))
   have s3:=hid (a2.out.size)
   have s4:=hid (Nat.ne_of_lt (Blk.lt a0.out))
   have s5:=hid (Nat.ne_of_lt (Blk.lt a1.out))
   have s6:=hid (Nat.ne_of_lt (Blk.lt a7.out))
   have s7:=hid (Nat.ne_of_lt (Blk.lt a3.out))
   have s8:=hid (Nat.ne_of_lt (Blk.lt b1.out))
   obtain ⟨o_,ho_⟩:∃ o,o=(.cells #[] 70:Obj):=⟨_,rfl⟩
   replace a2:=bA a2 o_
   replace a0:=kA a0 o_
   replace a1:=kA a1 o_
   replace a7:=kA a7 o_
   replace a3:=kA a3 o_
   replace b1:=kA b1 o_
   subst ho_
   have g4:=hid (Blk.new (d7) 70 #[])
   obtain ⟨y5,f4⟩:∃ g,g=(d7).heap.size:=⟨_,rfl⟩
   obtain ⟨y6,f5⟩:∃ w',w'=(d7).alloc (.cells #[] 70):=⟨_,rfl⟩
   rw [← f5] at a2 a0 a1 a7 a3 b1 g4 how_
   rw [← f4] at s3 s4 s5 s6 s7 s8 g4 how_
   rw [← f4,← f5]
   clear f4 f5
   have OWL:=hid how_;clear how_
   refine hK.out _ _ ⟨a0.out,a1.out⟩ (fun _=>?_);clear hK K
   try simp only [pq]
   refine oneH 10 rfl fun K hK=>?_
   refine wp_append_lit (.tmp 31) (.tmp 33) rfl (w.heap.size+1+1+1+1) _ (OWL.out) rfl B m j ts (RdB.below RA0.out (a2.out)) hl1 rfl (Nat.succ_le_of_lt (Blk.lt (a3.out))) ?_
   intro Ai ci d0 hown5_ hg5_
   have h8:=hid (blk_grown (a0.out) hg5_ (fun e=>by have h_:=(World.ownsRow.lt (OWL.out) _ e).1;omega))
   have h9:=hid (blk_grown (a1.out) hg5_ (fun e=>by have h_:=(World.ownsRow.lt (OWL.out) _ e).1;omega))
   have v7:=hid (blk_grown (a7.out) hg5_ (fun e=>by have h_:=(World.ownsRow.lt (OWL.out) _ e).1;omega))
   have v8:=hid (blk_grown (a3.out) hg5_ (fun e=>by have h_:=(World.ownsRow.lt (OWL.out) _ e).1;omega))
   have b5:=hid (blk_grown (b1.out) hg5_ (own_ne (OWL.out) (b1.out) (by decide)))
   have v9:=hid (Below.grown (a2.out) hg5_ (Below.size (a2.out)) (fun q e=>by have h_:=(World.ownsRow.lt (OWL.out) q e).1;omega))
   have OWA:=hid hown5_
   clear hown5_ hg5_
   refine hK.out _ _ ⟨h8.out,h9.out⟩ (fun _=>?_);clear hK K
   try simp only [pq]
   refine' twH 11 ⟨h8.out,h9.out⟩ ?_
   try simp only [pq]
   refine oneH 13 rfl fun K hK=>?_
   have HGE:=hid (show (w.heap.size+1+1+1+1)≤a6 from by have h1_:=s2.out;omega)
   have hge_:=HGE.out
   obtain ⟨hw1,hw2,hw3,hw4⟩:=HWS.out
   have w0:(d0).cell? ⟨a6,0,none⟩=some (.int .i64 0):=Blk.cell (b5.out) 0
   have w3:(d0).frozen? ⟨a6,0,none⟩=false:=Blk.frozen (b5.out) 0
   have w4:(d0).cell? ⟨a6,1,none⟩=some (.slice none 0 0):=Blk.cell (b5.out) 1
   have w5:(d0).frozen? ⟨a6,1,none⟩=false:=Blk.frozen (b5.out) 1
   have hlt_:=Blk.lt (b5.out)
   go_simp
   try simp only [hw1,hw2,hw3,hw4]
   clear hw1 hw2 hw3 hw4
   have m3:=hid (Blk.set_ (Blk.set_ (b5.out) 0 (.int .i64 (c+d-(p2-p1)))) 1 (.slice Ai m ci))
   have i1:=hid (Blk.far (Blk.far (h8.out) (p:=⟨a6,0,none⟩) (by dsimp only;omega) (.int .i64 (c+d-(p2-p1)))) (p:=⟨a6,1,none⟩) (by dsimp only;omega) (.slice Ai m ci))
   have i2:=hid (Blk.far (Blk.far (h9.out) (p:=⟨a6,0,none⟩) (by dsimp only;omega) (.int .i64 (c+d-(p2-p1)))) (p:=⟨a6,1,none⟩) (by dsimp only;omega) (.slice Ai m ci))
   have m4:=hid (Blk.far (Blk.far (v7.out) (p:=⟨a6,0,none⟩) (by dsimp only;omega) (.int .i64 (c+d-(p2-p1)))) (p:=⟨a6,1,none⟩) (by dsimp only;omega) (.slice Ai m ci))
   have m5:=hid (Blk.far (Blk.far (v8.out) (p:=⟨a6,0,none⟩) (by dsimp only;omega) (.int .i64 (c+d-(p2-p1)))) (p:=⟨a6,1,none⟩) (by dsimp only;omega) (.slice Ai m ci))
   have m6:=hid (Below.setCell (Below.setCell (v9.out) (p:=⟨a6,0,none⟩) (by dsimp only;omega) (.int .i64 (c+d-(p2-p1)))) (p:=⟨a6,1,none⟩) (by dsimp only;omega) (.slice Ai m ci))
   have m7:=hid (own_far (own_far (OWA.out) (a:=⟨a6,0,none⟩) (own_ne (OWA.out) (b5.out) (by decide)) (.int .i64 (c+d-(p2-p1)))) (a:=⟨a6,1,none⟩) (own_ne (own_far (OWA.out) (a:=⟨a6,0,none⟩) (own_ne (OWA.out) (b5.out) (by decide)) (.int .i64 (c+d-(p2-p1)))) (Blk.set_ (b5.out) 0 (.int .i64 (c+d-(p2-p1)))) (by decide)) (.slice Ai m ci))
   obtain ⟨y7,f6⟩:∃ w',w'=(((d0).setCell ⟨a6,0,none⟩ (.int .i64 (c+d-(p2-p1)))).setCell ⟨a6,1,none⟩ (.slice Ai m ci)):=⟨_,rfl⟩
   rw [← f6] at m3 i1 i2 m4 m5 m6 m7
   rw [← f6]
   clear f6 w0 w3 w4 w5 hlt_
   clear hge_
   refine hK.out _ _ ⟨i1.out,i2.out⟩ (fun _=>?_);clear hK K
   try simp only [pq]
   refine wpAnyH_done (by kernel_rfl) ?_ _
   go_wp2
   go_meet
   exact ⟨_,Ai,ci,rfl,m7.out,m3.out,HGE.out,i1.out,i2.out,m4.out,m5.out,m6.out⟩
  exact AllReadyH.nil
 case rest =>
  obtain ⟨gs,Ai,ci,rfl,kow,kbs,hgs,kba,kbb,kbp,kbz,kbel⟩:=hcut
  clear a2 a0 a1 a7 a3
  have g5:=hid (kow)
  have d2:=hid (kbs)
  have d3:=hid (kba)
  have d4:=hid (kbb)
  have d5:=hid (kbp)
  have d6:=hid (kbz)
  have f7:=hid (kbel)
  clear kow kbs kba kbb kbp kbz kbel
  obtain ⟨s9,t0,t1⟩:=at3 d3
  obtain ⟨t2,t3,t4⟩:=at3 d4
  obtain ⟨t5,t6,t7,t8⟩:=at4 d5
  obtain ⟨t9,u0⟩:=at2 d6
  obtain ⟨u1,u2⟩:=at2 d2
  go_wp2
  clear s9 t0 t1 t2 t3 t4 t5 t6 t7 t8 t9 u0 u1 u2
  go_loopw [11] (fun i wr=>∃ (q:Nat) (Ax:Option Addr) (cx:Nat),q≤m2∧i=.int .i64 q∧wr.ownsRow (w.heap.size+1+1+1+1) 70 4 (.slice Ax (m+q) cx) (m+q) (bcells (ts++(ts2.take q).map (turnB ⟨c,ws,ts⟩ ⟨p1,p2,p3,p4⟩)))∧Blk wr gs 84 #[.int .i64 (c+d-(p2-p1)),.slice Ax (m+q) cx]∧(w.heap.size+1+1+1+1)≤gs∧Blk wr (w.heap.size) 24 #[.int .i64 c,.slice A n k,.slice B m j]∧Blk wr (w.heap.size+1) 24 #[.int .i64 d,.slice C n2 k2,.slice D m2 j2]∧Blk wr (w.heap.size+1+1) 28 #[.int .i64 p1,.int .i64 p2,.int .i64 p3,.int .i64 p4]∧Blk wr (w.heap.size+1+1+1) 84 #[.int .i64 0,.slice none 0 0]∧Below w.heap.size w wr) (fun i _=>m2-(intOf i).toNat)
  case atStart=>exact ⟨0,Ai,ci,Nat.zero_le _,rfl,by simpa using g5.out,d2.out,hgs,d3.out,d4.out,d5.out,d6.out,f7.out⟩
  case round =>
   clear g5 d2 d3 d4 d5 d6 f7
   obtain ⟨q,Ax,cx,hq,rfl,kow,kbs,-,kba,kbb,kbp,kbz,kbel⟩:=hrel
   obtain ⟨wo,rfl⟩:∃ wo,wo=wr:=⟨wr,rfl⟩
   have b2:=hid (kow)
   have b3:=hid (kbs)
   have b6:=hid (kba)
   have b7:=hid (kbb)
   have b8:=hid (kbp)
   have a9:=hid (kbz)
   have b0:=hid (kbel)
   clear kow kbs kba kbb kbp kbz kbel
   obtain ⟨i8,i9,j0⟩:=at3 b6
   obtain ⟨j1,j3,j4⟩:=at3 b7
   obtain ⟨j5,j6,j7,j8⟩:=at4 b8
   obtain ⟨j9,k0⟩:=at2 a9
   obtain ⟨l0,l1⟩:=at2 b3
   by_cases hlt:q<m2
   · have hlt':(q:Int)<m2:=by omega
     have hlen:=RB0.out.len
     obtain ⟨⟨f,t,mm,ib⟩,hx⟩:∃ b,ts2[q]?=some b:=⟨ts2[q]'(by omega),List.getElem?_eq_getElem _⟩
     obtain ⟨o1,o2,o3,o4⟩:=hok _ (List.mem_of_getElem? hx)
     dsimp only at o1 o2 o3 o4
     obtain ⟨bb_,ob,hBB⟩:=rdB_some RB0.out hx
     subst hBB
     obtain ⟨e0,e1,e2,e3,el⟩:=rdB_at (RdB.below RB0.out b0.out) hx
     obtain ⟨v1,hv1⟩:∃ v,ren c p1 p3 (p4-1) f=v:=⟨_,rfl⟩
     obtain ⟨v2,hv2⟩:∃ v,ren c p1 p3 (p4-1) t=v:=⟨_,rfl⟩
     have htk:(ts2.take (q+1)).map (turnB ⟨c,ws,ts⟩ ⟨p1,p2,p3,p4⟩)=(ts2.take q).map (turnB ⟨c,ws,ts⟩ ⟨p1,p2,p3,p4⟩)++[⟨v1,v2,mm,ib⟩]:=by rw [List.take_add_one,hx,List.map_append,← hv1,← hv2];rfl
     have HTK:=hid htk;clear htk hx hlen
     have HV1:=hid (fun w=>rside_any c A B n k m j p1 p2 p3 p4 f v1 w g0 (by omega) (by omega) (by omega) (by omega) (by omega) hv1)
     have HV2:=hid (fun w=>rside_any c A B n k m j p1 p2 p3 p4 t v2 w g0 (by omega) (by omega) (by omega) (by omega) (by omega) hv2)
     clear hv1 hv2 o1 o2 o3 o4
     have hnx_:=fun y h=>(World.ownsRow.lt b2.out y h).2
     have HNX:=hid hnx_;clear hnx_
     have hgo_:=Blk.lt b3.out
     go_upto_region 8 with fail
     clear e0 e1 e2 e3 el
     clear i8 i9 j0 j1 j3 j4 j5 j6 j7 j8 j9 k0 l0 l1
     obtain ⟨o_,ho_⟩:∃ o,o=((.cells #[.int .i64 f,.int .i64 t,.int .i64 mm,.int .i64 ib] 70):Obj):=⟨_,rfl⟩
     replace b2:=hid (World.ownsRow.alloc (b2.out) (o_))
     replace b3:=kA b3 o_
     replace b6:=kA b6 o_
     replace b7:=kA b7 o_
     replace b8:=kA b8 o_
     replace a9:=kA a9 o_
     replace b0:=bA b0 o_
     subst ho_
     have c4:=hid (Blk.new wo 70 #[.int .i64 f,.int .i64 t,.int .i64 mm,.int .i64 ib])
     obtain ⟨xg,hxg⟩:∃ xg,wo.heap.size=xg:=⟨_,rfl⟩
     obtain ⟨w2,hW2⟩:∃ w',w'=(wo.alloc (.cells #[.int .i64 f,.int .i64 t,.int .i64 mm,.int .i64 ib] 70)):=⟨_,rfl⟩
     rw [← hW2] at b2 b3 b6 b7 b8 a9 b0 c4
     rw [← hW2]
     rw [hxg] at c4 HNX hgo_ ⊢
     clear hW2 hxg
     have HGO:=hid hgo_;clear hgo_
     have JJ:=hid (And.intro b6.out (And.intro b7.out (And.intro b8.out (And.intro a9.out (And.intro c4.out (b0.out))))));have OJ:=hid (And.intro b2.out b3.out)
     clear b2 b3 b6 b7 b8 a9 b0 c4
     refine wp_region_held_drew (S:=fun W'=>Blk W' (w.heap.size) 24 #[.int .i64 c,.slice A n k,.slice B m j]∧Blk W' (w.heap.size+1) 24 #[.int .i64 d,.slice C n2 k2,.slice (some ⟨bb_,ob,none⟩) m2 j2]∧Blk W' (w.heap.size+1+1) 28 #[.int .i64 p1,.int .i64 p2,.int .i64 p3,.int .i64 p4]∧Blk W' (w.heap.size+1+1+1) 84 #[.int .i64 0,.slice none 0 0]∧Blk W' (xg) 70 #[.int .i64 f,.int .i64 t,.int .i64 mm,.int .i64 ib]∧Below w.heap.size w W') (by kernel_rfl) ?_ (fun hj=>?_)
     · obtain ⟨k1,k2,k3,k4,k5,k6⟩:=JJ.out
       exact ⟨k1.drew,k2.drew,k3.drew,k4.drew,k5.drew,k6.drew⟩
     clear JJ;have HJ0:=hid hj;clear hj
     refine' twH 0 HJ0.out ?_
     refine' tkH 2 HJ0.out ?o6 ?_
     case o6=>(rintro W' hS0;have hS1:=hS0.1;clear hS0;have z0:W'.cell? ⟨w.heap.size,0,none⟩=some (.int .i64 c):=Blk.cell hS1 0;have z1:W'.cell? ⟨w.heap.size,1,none⟩=some (.slice A n k):=Blk.cell hS1 1;have z2:W'.cell? ⟨w.heap.size,2,none⟩=some (.slice B m j):=Blk.cell hS1 2;clear hS1;go_simp;try with_reducible rfl)
     refine' tkH 3 HJ0.out ?o7 ?_
     case o7=>(rintro W' hS0;have hS1:=hS0.2.2.1;clear hS0;have z0:W'.cell? ⟨w.heap.size+1+1,0,none⟩=some (.int .i64 p1):=Blk.cell hS1 0;have z1:W'.cell? ⟨w.heap.size+1+1,1,none⟩=some (.int .i64 p2):=Blk.cell hS1 1;have z2:W'.cell? ⟨w.heap.size+1+1,2,none⟩=some (.int .i64 p3):=Blk.cell hS1 2;have z3:W'.cell? ⟨w.heap.size+1+1,3,none⟩=some (.int .i64 p4):=Blk.cell hS1 3;clear hS1;go_simp;try with_reducible rfl)
     refine' twH 4 HJ0.out ?_
     try simp only [pq]
     refine' tkH 5 HJ0.out ?o8 ?_
     case o8=>(rintro W' hS0;have hS1:=hS0.2.2.2.2.1;clear hS0;have z0:W'.cell? ⟨xg,0,none⟩=some (.int .i64 f):=Blk.cell hS1 0;clear hS1;go_simp;try with_reducible rfl)
     refine' tkH 7 HJ0.out ?o9 ?_
     case o9=>(rintro W' hS0;have hS1:=hS0.1;clear hS0;have z0:W'.cell? ⟨w.heap.size,0,none⟩=some (.int .i64 c):=Blk.cell hS1 0;have z1:W'.cell? ⟨w.heap.size,1,none⟩=some (.slice A n k):=Blk.cell hS1 1;have z2:W'.cell? ⟨w.heap.size,2,none⟩=some (.slice B m j):=Blk.cell hS1 2;clear hS1;go_simp;try with_reducible rfl)
     refine' tkH 8 HJ0.out ?p0 ?_
     case p0=>(rintro W' hS0;have hS1:=hS0.2.2.1;clear hS0;have z0:W'.cell? ⟨w.heap.size+1+1,0,none⟩=some (.int .i64 p1):=Blk.cell hS1 0;have z1:W'.cell? ⟨w.heap.size+1+1,1,none⟩=some (.int .i64 p2):=Blk.cell hS1 1;have z2:W'.cell? ⟨w.heap.size+1+1,2,none⟩=some (.int .i64 p3):=Blk.cell hS1 2;have z3:W'.cell? ⟨w.heap.size+1+1,3,none⟩=some (.int .i64 p4):=Blk.cell hS1 3;clear hS1;go_simp;try with_reducible rfl)
     refine' twH 9 HJ0.out ?_
     try simp only [pq]
     refine' tkH 10 HJ0.out ?p5 ?_
     case p5=>(rintro W' hS0;have hS1:=hS0.2.2.2.2.1;clear hS0;have z1:W'.cell? ⟨xg,1,none⟩=some (.int .i64 t):=Blk.cell hS1 1;clear hS1;go_simp;try with_reducible rfl)
     refine' twH 12 HJ0.out ?_
     refine' tkH 13 HJ0.out ?p6 ?_
     case p6=>(rintro W' hS0;have hS1:=hS0.2.2.2.2.1;clear hS0;have z2:W'.cell? ⟨xg,2,none⟩=some (.int .i64 mm):=Blk.cell hS1 2;clear hS1;go_simp;try with_reducible rfl)
     refine' twH 14 HJ0.out ?_
     try simp only [pq]
     refine' tkH 15 HJ0.out ?p7 ?_
     case p7=>(rintro W' hS0;have hS1:=hS0.2.2.2.2.1;clear hS0;have z3:W'.cell? ⟨xg,3,none⟩=some (.int .i64 ib):=Blk.cell hS1 3;clear hS1;go_simp;try with_reducible rfl)
     try simp only [pq]
     refine jt_region c A B n k m j p1 p2 p3 p4 f t v1 v2 mm ib gs Ax (m+q) cx _ (fun X_=>X_.ownsRow (w.heap.size+1+1+1+1) 70 4 (.slice Ax (m+q) cx) (m+q) (bcells (ts++(ts2.take q).map (turnB ⟨c,ws,ts⟩ ⟨p1,p2,p3,p4⟩)))∧Blk X_ gs 84 #[.int .i64 (c+d-(p2-p1)),.slice Ax (m+q) cx]) ?_ ?_ ?_ ?_ ?_ HV1.out HV2.out ?_ ?_ _ HJ0.out ⟨OJ.out.1.drew,OJ.out.2.drew⟩
     · rintro W o ⟨k1,k2,k3,k4,k5,k6⟩
       exact ⟨k1.alloc o,k2.alloc o,k3.alloc o,k4.alloc o,k5.alloc o,k6.alloc k6.size o⟩
     · rintro W W' ⟨k1,k2,k3,k4,k5,k6⟩ hb
       exact ⟨k1.keep hb,k2.keep hb,k3.keep hb,k4.keep hb,k5.keep hb,k6.trans (hb.mono k6.size)⟩
     · rintro W o ⟨k1,k2⟩
       exact ⟨k1.alloc o,k2.alloc o⟩
     · rintro W W' ⟨k1,k2⟩ hb
       exact ⟨owns_below k1 hb,k2.keep hb⟩
     · rintro W ⟨k1,k2⟩
       exact Blk.cell k2 1
     · exact fun _ _ _ _ _ h=>h
     rintro xn W9 ⟨k1,k2,k3,k4,k5,k6⟩ ⟨k7,k8⟩ k9
     clear HJ0 OJ
     have Kk1:=hid k1;clear k1
     have Kk2:=hid k2;clear k2
     have Kk3:=hid k3;clear k3
     have Kk4:=hid k4;clear k4
     have Kk5:=hid k5;clear k5
     have Kk6:=hid k6;clear k6
     have Kk7:=hid k7;clear k7
     have Kk8:=hid k8;clear k8
     have Kk9:=hid k9;clear k9
     refine oneH 18 rfl fun K hK=>?_
     have hcell_:=cells_add (cs:=bcells [⟨v1,v2,mm,ib⟩]) (show Blk _ _ _ (bcells [⟨v1,v2,mm,ib⟩]).toArray from Kk9.out)
     have hbz_:=Nat.succ_le_of_lt (Blk.lt (Kk4.out))
     refine wp_append_own _ (.tmp 49) (.tmp 65) 22 rfl (w.heap.size+1+1+1+1) 70 i0 _ 4 32 Tryz.underlying22 HI.out HZ0.out HZ1.out HZ2.out rfl (by omega) _ _ _ rfl (Kk7.out) ⟨xn,0,none⟩ 1 1 (bcells [⟨v1,v2,mm,ib⟩]) rfl rfl hcell_ (bcells_one _) (by unfold maxLen;omega) (by omega) hbz_ ?_
     intro v5 d8 hown5_ hg5_ _
     obtain ⟨A5,c5,rfl,-⟩:=own_form hown5_
     have m8:=hid (blk_grown (Kk1.out) hg5_ (fun e=>by have h_:=(World.ownsRow.lt (Kk7.out) _ e).1;omega))
     have m9:=hid (blk_grown (Kk2.out) hg5_ (fun e=>by have h_:=(World.ownsRow.lt (Kk7.out) _ e).1;omega))
     have n0:=hid (blk_grown (Kk3.out) hg5_ (fun e=>by have h_:=(World.ownsRow.lt (Kk7.out) _ e).1;omega))
     have n1:=hid (blk_grown (Kk4.out) hg5_ (fun e=>by have h_:=(World.ownsRow.lt (Kk7.out) _ e).1;omega))
     have d1:=hid (blk_grown (Kk8.out) hg5_ (own_ne (Kk7.out) (Kk8.out) (by decide)))
     have n3:=hid (Below.grown (Kk6.out) hg5_ (Below.size (Kk6.out)) (fun q e=>by have h_:=(World.ownsRow.lt (Kk7.out) q e).1;omega))
     have n4:=hid (blk_grown (Kk5.out) hg5_ (fun e=>absurd (HNX.out _ e) (Nat.lt_irrefl _)))
     have OW5:=hid (show World.ownsRow d8 (w.heap.size+1+1+1+1) 70 4 (.slice A5 (m+q+1) c5) (m+q+1) (bcells (ts++(ts2.take (q+1)).map (turnB ⟨c,ws,ts⟩ ⟨p1,p2,p3,p4⟩))) from by rw [HTK.out,← List.append_assoc,bcells_append];exact hown5_)
     clear hown5_ hg5_ hcell_ hbz_
     have n5:=hid (And.intro m8.out (And.intro m9.out (And.intro n0.out (And.intro n1.out (And.intro n4.out n3.out)))))
     refine hK.out _ _ n5.out (fun _=>?_);clear hK K
     try simp only [pq]
     refine' twH 19 n5.out ?_
     try simp only [pq]
     refine oneH 20 rfl fun K hK=>?_
     have hgo_:=HGO.out
     have w6:(d8).cell? ⟨gs,1,none⟩=some (.slice Ax (m+q) cx):=Blk.cell (d1.out) 1
     have w7:(d8).frozen? ⟨gs,1,none⟩=false:=Blk.frozen (d1.out) 1
     have hlt_:=Blk.lt (d1.out)
     go_simp
     have n6:=hid (Blk.set_ (d1.out) 1 (.slice A5 (m+q+1) c5))
     have i3:=hid (Blk.far (m8.out) (p:=⟨gs,1,none⟩) (by dsimp only;omega) (.slice A5 (m+q+1) c5))
     have i4:=hid (Blk.far (m9.out) (p:=⟨gs,1,none⟩) (by dsimp only;omega) (.slice A5 (m+q+1) c5))
     have i5:=hid (Blk.far (n0.out) (p:=⟨gs,1,none⟩) (by dsimp only;omega) (.slice A5 (m+q+1) c5))
     have i6:=hid (Blk.far (n1.out) (p:=⟨gs,1,none⟩) (by dsimp only;omega) (.slice A5 (m+q+1) c5))
     have n7:=hid (Blk.far (n4.out) (p:=⟨gs,1,none⟩) (by dsimp only;omega) (.slice A5 (m+q+1) c5))
     have i7:=hid (Below.setCell (n3.out) (p:=⟨gs,1,none⟩) (by dsimp only;omega) (.slice A5 (m+q+1) c5))
     have n8:=hid (own_far (OW5.out) (a:=⟨gs,1,none⟩) (own_ne (OW5.out) (d1.out) (by decide)) (.slice A5 (m+q+1) c5))
     obtain ⟨y8,f8⟩:∃ w',w'=((d8).setCell ⟨gs,1,none⟩ (.slice A5 (m+q+1) c5)):=⟨_,rfl⟩
     rw [← f8] at n6 i3 i4 i5 i6 n7 i7 n8
     rw [← f8]
     clear f8 w6 w7 hlt_
     clear hgo_
     have w8:=hid (And.intro i3.out (And.intro i4.out (And.intro i5.out (And.intro i6.out (And.intro n7.out i7.out)))))
     refine hK.out _ _ w8.out (fun _=>?_);clear hK K
     try simp only [pq]
     refine wpAnyH_done (by kernel_rfl) ?_ _
     go_wp2
     go_roundw
     case rel=>exact ⟨q+1,A5,c5,by omega,by go_num,n8.out,n6.out,hgs,i3.out,i4.out,i5.out,i6.out,i7.out⟩
     case measure=>simp [intOf];omega
   · obtain rfl:m2=q:=by omega
     have hlen:=RB0.out.len
     have hrd:=(OwnB.rd (show OwnB wo (w.heap.size+1+1+1+1) Ax (m+m2) cx (ts++(ts2.take m2).map (turnB ⟨c,ws,ts⟩ ⟨p1,p2,p3,p4⟩)) from b2.out)).1
     rw [List.take_of_length_le (by omega)] at hrd
     have p8:(wo).frozen? ⟨w.heap.size+1+1+1,0,none⟩=false:=Blk.frozen a9.out 0
     have p9:(wo).frozen? ⟨w.heap.size+1+1+1,1,none⟩=false:=Blk.frozen a9.out 1
     have hlb_:=Blk.lt a9.out;have bz_:=a9.out;have bel_:=b0.out
     have HK:=hid (And.intro bz_ (And.intro bel_ hrd));clear bz_ bel_ hrd hlen
     go_wp2
     obtain ⟨bz_,bel_,rl_⟩:=HK.out
     refine bodyPost_ret (v:=.agg #[.int .i64 (c+d-(p2-p1)),.slice Ax (m+m2) cx]) (by simp [results,Tryz.results48,go_sem,i8,i9,j0,j1,j3,j4,j5,j6,j7,j8,j9,k0,l0,l1,p8,p9]) rfl ?_
     exact ⟨Ax,m+m2,cx,rfl,rdB_set2 rl_ ⟨w.heap.size+1+1+1,0,none⟩ ⟨w.heap.size+1+1+1,1,none⟩ (.int .i64 (c+d-(p2-p1))) (.slice Ax (m+m2) cx) bz_ rfl,(by have hsz_:=Below.size bel_;repeat' (first|with_reducible exact bel_|with_reducible exact Below.refl _ _|with_reducible refine Below.alloc ?_ ?_ _|with_reducible refine Below.setCell ?_ ?_ _|with_reducible refine Below.drew ?_|with_reducible refine below_setRow ?_ ?_ _|omega | (simp;done) | (simp;omega)))⟩
set_option maxRecDepth 100000 in
theorem rjoint_w (c:Int) (A B:Option Addr) (n k m j:Nat) (ws ts:List Bnd) (d:Int) (C D:Option Addr) (n2 k2 m2 j2:Nat) (ws2 ts2:List Bnd) (p1 p2 p3 p4:Int) (w:World) (h1:RdB w A n k ws) (h2:RdB w B m j ts) (hn:n≤maxLen) (hm:m≤maxLen) (h3:RdB w C n2 k2 ws2) (h4:RdB w D m2 j2 ts2) (hn2:n2≤maxLen) (hm2:m2≤maxLen) (g0:3≤c∧c≤16) (g1:3≤d∧d≤16) (g2:0≤p1∧p1<p2∧p2≤c) (g3:0≤p3∧p3<p4∧p4≤d) (hl1:n≤400) (hl2:n2≤400) (hok:∀ x∈ws2,0≤x.f∧x.f≤16∧0≤x.t∧x.t≤16) :
 Calls Tryz.prog 48 #[.agg #[.int .i64 c,.slice A n k,.slice B m j],.agg #[.int .i64 d,.slice C n2 k2,.slice D m2 j2],.agg #[.int .i64 p1,.int .i64 p2,.int .i64 p3,.int .i64 p4],.bool false] w fun e w'=>∃ Ar nr kr,e=.returned (.agg #[.int .i64 (c+d+1-(p2-p1)),.slice Ar nr kr])∧RdB w' Ar nr kr (wayL ⟨c,ws,ts⟩ ⟨d,ws2,ts2⟩ ⟨p1,p2,p3,p4⟩)∧Below w.heap.size w w':=by
 obtain ⟨i0,hi0,hz0,hz1,hz2⟩:=info_parts infoB
 have HI:=hid hi0;have HZ0:=hid hz0;have HZ1:=hid hz1;have HZ2:=hid hz2;clear hi0 hz0 hz1 hz2
 have HWS:Hid (IntKind.i64.wrap (c+d)=c+d∧IntKind.i64.wrap (c+d+2)=c+d+2∧IntKind.i64.wrap (p2-p1+1)=p2-p1+1∧IntKind.i64.wrap (c+d+2-(p2-p1+1))=c+d+1-(p2-p1)):=hid ⟨IntWalk.i64_in _ (by omega),IntWalk.i64_in _ (by omega),IntWalk.i64_in _ (by omega),by rw [IntWalk.i64_in _ (by omega)];omega⟩
 have RB0:=hid (h3);have RA0:=hid (h1);clear h1 h2 h3 h4
 go_enter Tryz.func48,Tryz.ntmps48
 obtain ⟨a0,a1,a7,a3,a2⟩:=ent4 w #[.int .i64 c,.slice A n k,.slice B m j] 24 #[.int .i64 d,.slice C n2 k2,.slice D m2 j2] 24 #[.int .i64 p1,.int .i64 p2,.int .i64 p3,.int .i64 p4] 28 #[.int .i64 0,.slice none 0 0] 84
 obtain ⟨x7,x8,x9⟩:=at3 a0
 obtain ⟨y0,w9,x0⟩:=at3 a1
 obtain ⟨x1,x2,x3,x4⟩:=at4 a7
 obtain ⟨x5,x6⟩:=at2 a3
 go_upto_region 10 with fail
 clear x7 x8 x9 y0 w9 x0 x1 x2 x3 x4 x5 x6
 obtain ⟨w1,hW⟩:∃ w',w'=((((w.alloc (.cells #[.int .i64 c,.slice A n k,.slice B m j] 24)).alloc (.cells #[.int .i64 d,.slice C n2 k2,.slice D m2 j2] 24)).alloc (.cells #[.int .i64 p1,.int .i64 p2,.int .i64 p3,.int .i64 p4] 28)).alloc (.cells #[.int .i64 0,.slice none 0 0] 84)):=⟨_,rfl⟩
 rw [← hW] at a2 a0 a1 a7 a3
 rw [← hW]
 clear hW
 go_cut [13] from 69 to 82 (fun sb wx=>∃ (gs:Nat) (Ai:Option Addr) (ci:Nat),sb=.pointer (some ⟨gs,0,none⟩)∧wx.ownsRow (w.heap.size+1+1+1+1) 70 4 (.slice Ai (n) ci) (n) (bcells (ws))∧Blk wx gs 84 #[.int .i64 (c+d+1-(p2-p1)),.slice Ai (n) ci]∧(w.heap.size+1+1+1+1)≤gs∧Blk wx (w.heap.size) 24 #[.int .i64 c,.slice A n k,.slice B m j]∧Blk wx (w.heap.size+1) 24 #[.int .i64 d,.slice C n2 k2,.slice D m2 j2]∧Blk wx (w.heap.size+1+1) 28 #[.int .i64 p1,.int .i64 p2,.int .i64 p3,.int .i64 p4]∧Blk wx (w.heap.size+1+1+1) 84 #[.int .i64 0,.slice none 0 0]∧Below w.heap.size w wx)
 case first =>
  have hgz_:=Nat.succ_le_of_lt (Blk.lt a3.out)
  replace a2:=bD a2
  replace a0:=kD a0
  replace a1:=kD a1
  replace a7:=kD a7
  replace a3:=kD a3
  refine wp_region_held_drew (S:=(fun W'=>Blk W' (w.heap.size) 24 #[.int .i64 c,.slice A n k,.slice B m j]∧Blk W' (w.heap.size+1) 24 #[.int .i64 d,.slice C n2 k2,.slice D m2 j2])) (by kernel_rfl) ⟨a0.out,a1.out⟩ (fun _=>?_)
  obtain ⟨c1,d9⟩:∃ w',w'=(w1.drew):=⟨_,rfl⟩
  rw [← d9] at a2 a0 a1 a7 a3
  rw [← d9]
  clear d9
  refine' twH 0 ⟨a0.out,a1.out⟩ ?_
  refine' tkH 1 ⟨a0.out,a1.out⟩ ?n9 ?_
  case n9=>(rintro W' ⟨hS0,hS1⟩;have hc0:=Blk.nth hS0 0;clear hS0 hS1;go_simp;try with_reducible rfl)
  refine' twH 2 ⟨a0.out,a1.out⟩ ?_
  refine' tkH 3 ⟨a0.out,a1.out⟩ ?o0 ?_
  case o0=>(rintro W' ⟨hS0,hS1⟩;have hc0:=Blk.nth hS1 0;clear hS0 hS1;go_simp;try with_reducible rfl)
  try simp only [pq]
  refine' twH 4 ⟨a0.out,a1.out⟩ ?_
  refine' twH 5 ⟨a0.out,a1.out⟩ ?_
  refine' twH 6 ⟨a0.out,a1.out⟩ ?_
  refine' twH 7 ⟨a0.out,a1.out⟩ ?_
  try simp only [pq]
  refine' twH 8 ⟨a0.out,a1.out⟩ ?_
  refine' twH 10 ⟨a0.out,a1.out⟩ ?_
  refine' tkH 11 ⟨a0.out,a1.out⟩ ?o5 ?_
  case o5=>(rintro W' ⟨hS0,hS1⟩;have hc0:=Blk.nth hS0 1;clear hS0 hS1;go_simp;try with_reducible rfl)
  try simp only [pq]
  refine wpAnyH_ready (rs:=[9,14]) (by kernel_rfl) (by simp) ?_
  refine rdH rfl (fun K hK=>?_) ?_
  · -- 9: buildSlice
   go_simp
   have how_:=World.ownsRow_lit (c1) (e:=70) (size:=4) #[] 0 (Nat.le_refl _) (by unfold maxLen;omega) rfl
   have how_:=owns_base how_ (show (w.heap.size+1+1+1+1)≤_ from Nat.succ_le_of_lt (Blk.lt (a3.out)))
   have q0:=hid (a2.out.size)
   have q1:=hid (Nat.ne_of_lt (Blk.lt a0.out))
   have q2:=hid (Nat.ne_of_lt (Blk.lt a1.out))
   have q3:=hid (Nat.ne_of_lt (Blk.lt a7.out))
   have q4:=hid (Nat.ne_of_lt (Blk.lt a3.out))
   obtain ⟨o_,ho_⟩:∃ o,o=(.cells #[] 70:Obj):=⟨_,rfl⟩
   replace a2:=bA a2 o_
   replace a0:=kA a0 o_
   replace a1:=kA a1 o_
   replace a7:=kA a7 o_
   replace a3:=kA a3 o_
   subst ho_
   have f9:=hid (Blk.new (c1) 70 #[])
   obtain ⟨y1,e4⟩:∃ g,g=(c1).heap.size:=⟨_,rfl⟩
   obtain ⟨g6,e5⟩:∃ w',w'=(c1).alloc (.cells #[] 70):=⟨_,rfl⟩
   rw [← e5] at a2 a0 a1 a7 a3 f9 how_
   rw [← e4] at q0 q1 q2 q3 q4 f9 how_
   rw [← e4,← e5]
   clear e4 e5
   have OWL:=hid how_;clear how_
   refine hK.out _ _ ⟨a0.out,a1.out⟩ (fun _=>?_);clear hK K
   try simp only [pq]
   refine wpAnyH_ready (rs:=[12,14]) (by kernel_rfl) (by simp) ?_
   refine rdH rfl (fun K hK=>?_) ?_
   · -- 12: call
    refine wp_append_lit (.tmp 78) (.tmp 80) rfl (w.heap.size+1+1+1+1) _ (OWL.out) rfl A n k ws (RdB.below RA0.out (a2.out)) hl1 rfl (Nat.succ_le_of_lt (Blk.lt (a3.out))) ?_
    intro Ai ci g7 hown5_ hg5_
    have b9:=hid (blk_grown (a0.out) hg5_ (fun e=>by have h_:=(World.ownsRow.lt (OWL.out) _ e).1;omega))
    have c0:=hid (blk_grown (a1.out) hg5_ (fun e=>by have h_:=(World.ownsRow.lt (OWL.out) _ e).1;omega))
    have c6:=hid (blk_grown (a7.out) hg5_ (fun e=>by have h_:=(World.ownsRow.lt (OWL.out) _ e).1;omega))
    have c2:=hid (blk_grown (a3.out) hg5_ (fun e=>by have h_:=(World.ownsRow.lt (OWL.out) _ e).1;omega))
    have c7:=hid (Below.grown (a2.out) hg5_ (Below.size (a2.out)) (fun q e=>by have h_:=(World.ownsRow.lt (OWL.out) q e).1;omega))
    have OWA:=hid hown5_
    clear hown5_ hg5_
    refine hK.out _ _ ⟨b9.out,c0.out⟩ (fun _=>?_);clear hK K
    try simp only [pq]
    refine' twH 13 ⟨b9.out,c0.out⟩ ?_
    try simp only [pq]
    refine oneH 14 rfl fun K hK=>?_
    go_simp
    have hbz_:=hid (Nat.lt_of_lt_of_le (Blk.lt (c2.out)) (Nat.le_refl _))
    have q5:=hid (c7.out.size)
    have q6:=hid (Nat.ne_of_lt (Blk.lt b9.out))
    have q7:=hid (Nat.ne_of_lt (Blk.lt c0.out))
    have q8:=hid (Nat.ne_of_lt (Blk.lt c6.out))
    have q9:=hid (Nat.ne_of_lt (Blk.lt c2.out))
    obtain ⟨o_,ho_⟩:∃ o,o=(.cells #[.int .i64 0,.slice none 0 0] 84:Obj):=⟨_,rfl⟩
    replace c7:=bA c7 o_
    replace b9:=kA b9 o_
    replace c0:=kA c0 o_
    replace c6:=kA c6 o_
    replace c2:=kA c2 o_
    replace OWA:=hid (World.ownsRow.alloc (OWA.out) (o_))
    subst ho_
    have a8:=hid (Blk.new (g7) 84 #[.int .i64 0,.slice none 0 0])
    obtain ⟨a4,e6⟩:∃ g,g=(g7).heap.size:=⟨_,rfl⟩
    obtain ⟨c8,e7⟩:∃ w',w'=(g7).alloc (.cells #[.int .i64 0,.slice none 0 0] 84):=⟨_,rfl⟩
    rw [← e7] at c7 b9 c0 c6 c2 OWA a8
    rw [← e6] at q5 q6 q7 q8 q9 a8 hbz_
    rw [← e6,← e7]
    clear e6 e7
    have r0:=hbz_;clear hbz_
    refine hK.out _ _ ⟨b9.out,c0.out⟩ (fun _=>?_);clear hK K
    try simp only [pq]
    refine oneH 15 rfl fun K hK=>?_
    have HGE:=hid (show (w.heap.size+1+1+1+1)≤a4 from by have h1_:=r0.out;omega)
    have hge_:=HGE.out
    obtain ⟨hw1,hw2,hw3,hw4⟩:=HWS.out
    have u3:(c8).cell? ⟨a4,0,none⟩=some (.int .i64 0):=Blk.cell (a8.out) 0
    have u4:(c8).frozen? ⟨a4,0,none⟩=false:=Blk.frozen (a8.out) 0
    have u5:(c8).cell? ⟨a4,1,none⟩=some (.slice none 0 0):=Blk.cell (a8.out) 1
    have u6:(c8).frozen? ⟨a4,1,none⟩=false:=Blk.frozen (a8.out) 1
    have hlt_:=Blk.lt (a8.out)
    go_simp
    try simp only [hw1,hw2,hw3,hw4]
    clear hw1 hw2 hw3 hw4
    have l2:=hid (Blk.set_ (Blk.set_ (a8.out) 0 (.int .i64 (c+d+1-(p2-p1)))) 1 (.slice Ai n ci))
    have g8:=hid (Blk.far (Blk.far (b9.out) (p:=⟨a4,0,none⟩) (by dsimp only;omega) (.int .i64 (c+d+1-(p2-p1)))) (p:=⟨a4,1,none⟩) (by dsimp only;omega) (.slice Ai n ci))
    have g9:=hid (Blk.far (Blk.far (c0.out) (p:=⟨a4,0,none⟩) (by dsimp only;omega) (.int .i64 (c+d+1-(p2-p1)))) (p:=⟨a4,1,none⟩) (by dsimp only;omega) (.slice Ai n ci))
    have l3:=hid (Blk.far (Blk.far (c6.out) (p:=⟨a4,0,none⟩) (by dsimp only;omega) (.int .i64 (c+d+1-(p2-p1)))) (p:=⟨a4,1,none⟩) (by dsimp only;omega) (.slice Ai n ci))
    have l4:=hid (Blk.far (Blk.far (c2.out) (p:=⟨a4,0,none⟩) (by dsimp only;omega) (.int .i64 (c+d+1-(p2-p1)))) (p:=⟨a4,1,none⟩) (by dsimp only;omega) (.slice Ai n ci))
    have l5:=hid (Below.setCell (Below.setCell (c7.out) (p:=⟨a4,0,none⟩) (by dsimp only;omega) (.int .i64 (c+d+1-(p2-p1)))) (p:=⟨a4,1,none⟩) (by dsimp only;omega) (.slice Ai n ci))
    have l6:=hid (own_far (own_far (OWA.out) (a:=⟨a4,0,none⟩) (own_ne (OWA.out) (a8.out) (by decide)) (.int .i64 (c+d+1-(p2-p1)))) (a:=⟨a4,1,none⟩) (own_ne (own_far (OWA.out) (a:=⟨a4,0,none⟩) (own_ne (OWA.out) (a8.out) (by decide)) (.int .i64 (c+d+1-(p2-p1)))) (Blk.set_ (a8.out) 0 (.int .i64 (c+d+1-(p2-p1)))) (by decide)) (.slice Ai n ci))
    obtain ⟨y2,e8⟩:∃ w',w'=(((c8).setCell ⟨a4,0,none⟩ (.int .i64 (c+d+1-(p2-p1)))).setCell ⟨a4,1,none⟩ (.slice Ai n ci)):=⟨_,rfl⟩
    rw [← e8] at l2 g8 g9 l3 l4 l5 l6
    rw [← e8]
    clear e8 u3 u4 u5 u6 hlt_
    clear hge_
    refine hK.out _ _ ⟨g8.out,g9.out⟩ (fun _=>?_);clear hK K
    try simp only [pq]
    refine wpAnyH_done (by kernel_rfl) ?_ _
    go_wp2
    go_meet
    exact ⟨_,Ai,ci,rfl,l6.out,l2.out,HGE.out,g8.out,g9.out,l3.out,l4.out,l5.out⟩
   refine rdH rfl (fun K hK=>?_) ?_
   · -- 14: alloc
    go_simp
    have hbz_:=hid (Nat.lt_of_lt_of_le (Blk.lt (a3.out)) (Nat.le_refl _))
    have r1:=hid (a2.out.size)
    have r2:=hid (Nat.ne_of_lt (Blk.lt a0.out))
    have r3:=hid (Nat.ne_of_lt (Blk.lt a1.out))
    have r4:=hid (Nat.ne_of_lt (Blk.lt a7.out))
    have r5:=hid (Nat.ne_of_lt (Blk.lt a3.out))
    obtain ⟨o_,ho_⟩:∃ o,o=(.cells #[.int .i64 0,.slice none 0 0] 84:Obj):=⟨_,rfl⟩
    replace a2:=bA a2 o_
    replace a0:=kA a0 o_
    replace a1:=kA a1 o_
    replace a7:=kA a7 o_
    replace a3:=kA a3 o_
    replace OWL:=hid (World.ownsRow.alloc (OWL.out) (o_))
    subst ho_
    have c3:=hid (Blk.new (g6) 84 #[.int .i64 0,.slice none 0 0])
    obtain ⟨a5,e9⟩:∃ g,g=(g6).heap.size:=⟨_,rfl⟩
    obtain ⟨y3,f0⟩:∃ w',w'=(g6).alloc (.cells #[.int .i64 0,.slice none 0 0] 84):=⟨_,rfl⟩
    rw [← f0] at a2 a0 a1 a7 a3 OWL c3
    rw [← e9] at r1 r2 r3 r4 r5 c3 hbz_
    rw [← e9,← f0]
    clear e9 f0
    have r6:=hbz_;clear hbz_
    refine hK.out _ _ ⟨a0.out,a1.out⟩ (fun _=>?_);clear hK K
    try simp only [pq]
    refine oneH 12 rfl fun K hK=>?_
    refine wp_append_lit (.tmp 78) (.tmp 80) rfl (w.heap.size+1+1+1+1) _ (OWL.out) rfl A n k ws (RdB.below RA0.out (a2.out)) hl1 rfl (Nat.succ_le_of_lt (Blk.lt (a3.out))) ?_
    intro Ai ci c9 hown5_ hg5_
    have h0:=hid (blk_grown (a0.out) hg5_ (fun e=>by have h_:=(World.ownsRow.lt (OWL.out) _ e).1;omega))
    have h5:=hid (blk_grown (a1.out) hg5_ (fun e=>by have h_:=(World.ownsRow.lt (OWL.out) _ e).1;omega))
    have u7:=hid (blk_grown (a7.out) hg5_ (fun e=>by have h_:=(World.ownsRow.lt (OWL.out) _ e).1;omega))
    have u8:=hid (blk_grown (a3.out) hg5_ (fun e=>by have h_:=(World.ownsRow.lt (OWL.out) _ e).1;omega))
    have b4:=hid (blk_grown (c3.out) hg5_ (own_ne (OWL.out) (c3.out) (by decide)))
    have u9:=hid (Below.grown (a2.out) hg5_ (Below.size (a2.out)) (fun q e=>by have h_:=(World.ownsRow.lt (OWL.out) q e).1;omega))
    have OWA:=hid hown5_
    clear hown5_ hg5_
    refine hK.out _ _ ⟨h0.out,h5.out⟩ (fun _=>?_);clear hK K
    try simp only [pq]
    refine' twH 13 ⟨h0.out,h5.out⟩ ?_
    try simp only [pq]
    refine oneH 15 rfl fun K hK=>?_
    have HGE:=hid (show (w.heap.size+1+1+1+1)≤a5 from by have h1_:=r6.out;omega)
    have hge_:=HGE.out
    obtain ⟨hw1,hw2,hw3,hw4⟩:=HWS.out
    have v0:(c9).cell? ⟨a5,0,none⟩=some (.int .i64 0):=Blk.cell (b4.out) 0
    have v3:(c9).frozen? ⟨a5,0,none⟩=false:=Blk.frozen (b4.out) 0
    have v4:(c9).cell? ⟨a5,1,none⟩=some (.slice none 0 0):=Blk.cell (b4.out) 1
    have v6:(c9).frozen? ⟨a5,1,none⟩=false:=Blk.frozen (b4.out) 1
    have hlt_:=Blk.lt (b4.out)
    go_simp
    try simp only [hw1,hw2,hw3,hw4]
    clear hw1 hw2 hw3 hw4
    have l7:=hid (Blk.set_ (Blk.set_ (b4.out) 0 (.int .i64 (c+d+1-(p2-p1)))) 1 (.slice Ai n ci))
    have h6:=hid (Blk.far (Blk.far (h0.out) (p:=⟨a5,0,none⟩) (by dsimp only;omega) (.int .i64 (c+d+1-(p2-p1)))) (p:=⟨a5,1,none⟩) (by dsimp only;omega) (.slice Ai n ci))
    have h7:=hid (Blk.far (Blk.far (h5.out) (p:=⟨a5,0,none⟩) (by dsimp only;omega) (.int .i64 (c+d+1-(p2-p1)))) (p:=⟨a5,1,none⟩) (by dsimp only;omega) (.slice Ai n ci))
    have l8:=hid (Blk.far (Blk.far (u7.out) (p:=⟨a5,0,none⟩) (by dsimp only;omega) (.int .i64 (c+d+1-(p2-p1)))) (p:=⟨a5,1,none⟩) (by dsimp only;omega) (.slice Ai n ci))
    have l9:=hid (Blk.far (Blk.far (u8.out) (p:=⟨a5,0,none⟩) (by dsimp only;omega) (.int .i64 (c+d+1-(p2-p1)))) (p:=⟨a5,1,none⟩) (by dsimp only;omega) (.slice Ai n ci))
    have m0:=hid (Below.setCell (Below.setCell (u9.out) (p:=⟨a5,0,none⟩) (by dsimp only;omega) (.int .i64 (c+d+1-(p2-p1)))) (p:=⟨a5,1,none⟩) (by dsimp only;omega) (.slice Ai n ci))
    have m1:=hid (own_far (own_far (OWA.out) (a:=⟨a5,0,none⟩) (own_ne (OWA.out) (b4.out) (by decide)) (.int .i64 (c+d+1-(p2-p1)))) (a:=⟨a5,1,none⟩) (own_ne (own_far (OWA.out) (a:=⟨a5,0,none⟩) (own_ne (OWA.out) (b4.out) (by decide)) (.int .i64 (c+d+1-(p2-p1)))) (Blk.set_ (b4.out) 0 (.int .i64 (c+d+1-(p2-p1)))) (by decide)) (.slice Ai n ci))
    obtain ⟨y4,f1⟩:∃ w',w'=(((c9).setCell ⟨a5,0,none⟩ (.int .i64 (c+d+1-(p2-p1)))).setCell ⟨a5,1,none⟩ (.slice Ai n ci)):=⟨_,rfl⟩
    rw [← f1] at l7 h6 h7 l8 l9 m0 m1
    rw [← f1]
    clear f1 v0 v3 v4 v6 hlt_
    clear hge_
    refine hK.out _ _ ⟨h6.out,h7.out⟩ (fun _=>?_);clear hK K
    try simp only [pq]
    refine wpAnyH_done (by kernel_rfl) ?_ _
    go_wp2
    go_meet
    exact ⟨_,Ai,ci,rfl,m1.out,l7.out,HGE.out,h6.out,h7.out,l8.out,l9.out,m0.out⟩
   exact AllReadyH.nil
  refine rdH rfl (fun K hK=>?_) ?_
  · -- 14: alloc
   go_simp
   have hbz_:=hid (Nat.lt_of_lt_of_le (Blk.lt (a3.out)) (Nat.le_refl _))
   have r7:=hid (a2.out.size)
   have r8:=hid (Nat.ne_of_lt (Blk.lt a0.out))
   have r9:=hid (Nat.ne_of_lt (Blk.lt a1.out))
   have s0:=hid (Nat.ne_of_lt (Blk.lt a7.out))
   have s1:=hid (Nat.ne_of_lt (Blk.lt a3.out))
   obtain ⟨o_,ho_⟩:∃ o,o=(.cells #[.int .i64 0,.slice none 0 0] 84:Obj):=⟨_,rfl⟩
   replace a2:=bA a2 o_
   replace a0:=kA a0 o_
   replace a1:=kA a1 o_
   replace a7:=kA a7 o_
   replace a3:=kA a3 o_
   subst ho_
   have b1:=hid (Blk.new (c1) 84 #[.int .i64 0,.slice none 0 0])
   obtain ⟨a6,f2⟩:∃ g,g=(c1).heap.size:=⟨_,rfl⟩
   obtain ⟨d7,f3⟩:∃ w',w'=(c1).alloc (.cells #[.int .i64 0,.slice none 0 0] 84):=⟨_,rfl⟩
   rw [← f3] at a2 a0 a1 a7 a3 b1
   rw [← f2] at r7 r8 r9 s0 s1 b1 hbz_
   rw [← f2,← f3]
   clear f2 f3
   have s2:=hbz_;clear hbz_
   refine hK.out _ _ ⟨a0.out,a1.out⟩ (fun _=>?_);clear hK K
   try simp only [pq]
   refine oneH 9 rfl fun K hK=>?_
   go_simp
   have how_:=World.ownsRow_lit (d7) (e:=70) (size:=4) #[] 0 (Nat.le_refl _) (by unfold maxLen;omega) rfl
   have how_:=owns_base how_ (show (w.heap.size+1+1+1+1)≤_ from Nat.succ_le_of_lt (Blk.lt (a3.out)))
   have s3:=hid (a2.out.size)
   have s4:=hid (Nat.ne_of_lt (Blk.lt a0.out))
   have s5:=hid (Nat.ne_of_lt (Blk.lt a1.out))
   have s6:=hid (Nat.ne_of_lt (Blk.lt a7.out))
   have s7:=hid (Nat.ne_of_lt (Blk.lt a3.out))
   have s8:=hid (Nat.ne_of_lt (Blk.lt b1.out))
   obtain ⟨o_,ho_⟩:∃ o,o=(.cells #[] 70:Obj):=⟨_,rfl⟩
   replace a2:=bA a2 o_
   replace a0:=kA a0 o_
   replace a1:=kA a1 o_
   replace a7:=kA a7 o_
   replace a3:=kA a3 o_
   replace b1:=kA b1 o_
   subst ho_
   have g4:=hid (Blk.new (d7) 70 #[])
   obtain ⟨y5,f4⟩:∃ g,g=(d7).heap.size:=⟨_,rfl⟩
   obtain ⟨y6,f5⟩:∃ w',w'=(d7).alloc (.cells #[] 70):=⟨_,rfl⟩
   rw [← f5] at a2 a0 a1 a7 a3 b1 g4 how_
   rw [← f4] at s3 s4 s5 s6 s7 s8 g4 how_
   rw [← f4,← f5]
   clear f4 f5
   have OWL:=hid how_;clear how_
   refine hK.out _ _ ⟨a0.out,a1.out⟩ (fun _=>?_);clear hK K
   try simp only [pq]
   refine oneH 12 rfl fun K hK=>?_
   refine wp_append_lit (.tmp 78) (.tmp 80) rfl (w.heap.size+1+1+1+1) _ (OWL.out) rfl A n k ws (RdB.below RA0.out (a2.out)) hl1 rfl (Nat.succ_le_of_lt (Blk.lt (a3.out))) ?_
   intro Ai ci d0 hown5_ hg5_
   have h8:=hid (blk_grown (a0.out) hg5_ (fun e=>by have h_:=(World.ownsRow.lt (OWL.out) _ e).1;omega))
   have h9:=hid (blk_grown (a1.out) hg5_ (fun e=>by have h_:=(World.ownsRow.lt (OWL.out) _ e).1;omega))
   have v7:=hid (blk_grown (a7.out) hg5_ (fun e=>by have h_:=(World.ownsRow.lt (OWL.out) _ e).1;omega))
   have v8:=hid (blk_grown (a3.out) hg5_ (fun e=>by have h_:=(World.ownsRow.lt (OWL.out) _ e).1;omega))
   have b5:=hid (blk_grown (b1.out) hg5_ (own_ne (OWL.out) (b1.out) (by decide)))
   have v9:=hid (Below.grown (a2.out) hg5_ (Below.size (a2.out)) (fun q e=>by have h_:=(World.ownsRow.lt (OWL.out) q e).1;omega))
   have OWA:=hid hown5_
   clear hown5_ hg5_
   refine hK.out _ _ ⟨h8.out,h9.out⟩ (fun _=>?_);clear hK K
   try simp only [pq]
   refine' twH 13 ⟨h8.out,h9.out⟩ ?_
   try simp only [pq]
   refine oneH 15 rfl fun K hK=>?_
   have HGE:=hid (show (w.heap.size+1+1+1+1)≤a6 from by have h1_:=s2.out;omega)
   have hge_:=HGE.out
   obtain ⟨hw1,hw2,hw3,hw4⟩:=HWS.out
   have w0:(d0).cell? ⟨a6,0,none⟩=some (.int .i64 0):=Blk.cell (b5.out) 0
   have w3:(d0).frozen? ⟨a6,0,none⟩=false:=Blk.frozen (b5.out) 0
   have w4:(d0).cell? ⟨a6,1,none⟩=some (.slice none 0 0):=Blk.cell (b5.out) 1
   have w5:(d0).frozen? ⟨a6,1,none⟩=false:=Blk.frozen (b5.out) 1
   have hlt_:=Blk.lt (b5.out)
   go_simp
   try simp only [hw1,hw2,hw3,hw4]
   clear hw1 hw2 hw3 hw4
   have m3:=hid (Blk.set_ (Blk.set_ (b5.out) 0 (.int .i64 (c+d+1-(p2-p1)))) 1 (.slice Ai n ci))
   have i1:=hid (Blk.far (Blk.far (h8.out) (p:=⟨a6,0,none⟩) (by dsimp only;omega) (.int .i64 (c+d+1-(p2-p1)))) (p:=⟨a6,1,none⟩) (by dsimp only;omega) (.slice Ai n ci))
   have i2:=hid (Blk.far (Blk.far (h9.out) (p:=⟨a6,0,none⟩) (by dsimp only;omega) (.int .i64 (c+d+1-(p2-p1)))) (p:=⟨a6,1,none⟩) (by dsimp only;omega) (.slice Ai n ci))
   have m4:=hid (Blk.far (Blk.far (v7.out) (p:=⟨a6,0,none⟩) (by dsimp only;omega) (.int .i64 (c+d+1-(p2-p1)))) (p:=⟨a6,1,none⟩) (by dsimp only;omega) (.slice Ai n ci))
   have m5:=hid (Blk.far (Blk.far (v8.out) (p:=⟨a6,0,none⟩) (by dsimp only;omega) (.int .i64 (c+d+1-(p2-p1)))) (p:=⟨a6,1,none⟩) (by dsimp only;omega) (.slice Ai n ci))
   have m6:=hid (Below.setCell (Below.setCell (v9.out) (p:=⟨a6,0,none⟩) (by dsimp only;omega) (.int .i64 (c+d+1-(p2-p1)))) (p:=⟨a6,1,none⟩) (by dsimp only;omega) (.slice Ai n ci))
   have m7:=hid (own_far (own_far (OWA.out) (a:=⟨a6,0,none⟩) (own_ne (OWA.out) (b5.out) (by decide)) (.int .i64 (c+d+1-(p2-p1)))) (a:=⟨a6,1,none⟩) (own_ne (own_far (OWA.out) (a:=⟨a6,0,none⟩) (own_ne (OWA.out) (b5.out) (by decide)) (.int .i64 (c+d+1-(p2-p1)))) (Blk.set_ (b5.out) 0 (.int .i64 (c+d+1-(p2-p1)))) (by decide)) (.slice Ai n ci))
   obtain ⟨y7,f6⟩:∃ w',w'=(((d0).setCell ⟨a6,0,none⟩ (.int .i64 (c+d+1-(p2-p1)))).setCell ⟨a6,1,none⟩ (.slice Ai n ci)):=⟨_,rfl⟩
   rw [← f6] at m3 i1 i2 m4 m5 m6 m7
   rw [← f6]
   clear f6 w0 w3 w4 w5 hlt_
   clear hge_
   refine hK.out _ _ ⟨i1.out,i2.out⟩ (fun _=>?_);clear hK K
   try simp only [pq]
   refine wpAnyH_done (by kernel_rfl) ?_ _
   go_wp2
   go_meet
   exact ⟨_,Ai,ci,rfl,m7.out,m3.out,HGE.out,i1.out,i2.out,m4.out,m5.out,m6.out⟩
  exact AllReadyH.nil
 case rest =>
  obtain ⟨gs,Ai,ci,rfl,kow,kbs,hgs,kba,kbb,kbp,kbz,kbel⟩:=hcut
  clear a2 a0 a1 a7 a3
  have g5:=hid (kow)
  have d2:=hid (kbs)
  have d3:=hid (kba)
  have d4:=hid (kbb)
  have d5:=hid (kbp)
  have d6:=hid (kbz)
  have f7:=hid (kbel)
  clear kow kbs kba kbb kbp kbz kbel
  obtain ⟨s9,t0,t1⟩:=at3 d3
  obtain ⟨t2,t3,t4⟩:=at3 d4
  obtain ⟨t5,t6,t7,t8⟩:=at4 d5
  obtain ⟨t9,u0⟩:=at2 d6
  obtain ⟨u1,u2⟩:=at2 d2
  go_wp2
  clear s9 t0 t1 t2 t3 t4 t5 t6 t7 t8 t9 u0 u1 u2
  go_loopw [14] (fun i wr=>∃ (q:Nat) (Ax:Option Addr) (cx:Nat),q≤n2∧i=.int .i64 q∧wr.ownsRow (w.heap.size+1+1+1+1) 70 4 (.slice Ax (n+q) cx) (n+q) (bcells (ws++(ws2.take q).map (wayB ⟨c,ws,ts⟩ ⟨p1,p2,p3,p4⟩)))∧Blk wr gs 84 #[.int .i64 (c+d+1-(p2-p1)),.slice Ax (n+q) cx]∧(w.heap.size+1+1+1+1)≤gs∧Blk wr (w.heap.size) 24 #[.int .i64 c,.slice A n k,.slice B m j]∧Blk wr (w.heap.size+1) 24 #[.int .i64 d,.slice C n2 k2,.slice D m2 j2]∧Blk wr (w.heap.size+1+1) 28 #[.int .i64 p1,.int .i64 p2,.int .i64 p3,.int .i64 p4]∧Blk wr (w.heap.size+1+1+1) 84 #[.int .i64 0,.slice none 0 0]∧Below w.heap.size w wr) (fun i _=>n2-(intOf i).toNat)
  case atStart=>exact ⟨0,Ai,ci,Nat.zero_le _,rfl,by simpa using g5.out,d2.out,hgs,d3.out,d4.out,d5.out,d6.out,f7.out⟩
  case round =>
   clear g5 d2 d3 d4 d5 d6 f7
   obtain ⟨q,Ax,cx,hq,rfl,kow,kbs,-,kba,kbb,kbp,kbz,kbel⟩:=hrel
   obtain ⟨wo,rfl⟩:∃ wo,wo=wr:=⟨wr,rfl⟩
   have b2:=hid (kow)
   have b3:=hid (kbs)
   have b6:=hid (kba)
   have b7:=hid (kbb)
   have b8:=hid (kbp)
   have a9:=hid (kbz)
   have b0:=hid (kbel)
   clear kow kbs kba kbb kbp kbz kbel
   obtain ⟨i8,i9,j0⟩:=at3 b6
   obtain ⟨j1,j3,j4⟩:=at3 b7
   obtain ⟨j5,j6,j7,j8⟩:=at4 b8
   obtain ⟨j9,k0⟩:=at2 a9
   obtain ⟨l0,l1⟩:=at2 b3
   by_cases hlt:q<n2
   · have hlt':(q:Int)<n2:=by omega
     have hlen:=RB0.out.len
     obtain ⟨⟨f,t,mm,ib⟩,hx⟩:∃ b,ws2[q]?=some b:=⟨ws2[q]'(by omega),List.getElem?_eq_getElem _⟩
     obtain ⟨o1,o2,o3,o4⟩:=hok _ (List.mem_of_getElem? hx)
     dsimp only at o1 o2 o3 o4
     obtain ⟨bb_,ob,hBB⟩:=rdB_some RB0.out hx
     subst hBB
     obtain ⟨e0,e1,e2,e3,el⟩:=rdB_at (RdB.below RB0.out b0.out) hx
     obtain ⟨v1,hv1⟩:∃ v,ren (c+1) p1 p3 p4 t=v:=⟨_,rfl⟩
     obtain ⟨v2,hv2⟩:∃ v,ren (c+1) p1 p3 p4 f=v:=⟨_,rfl⟩
     have htk:(ws2.take (q+1)).map (wayB ⟨c,ws,ts⟩ ⟨p1,p2,p3,p4⟩)=(ws2.take q).map (wayB ⟨c,ws,ts⟩ ⟨p1,p2,p3,p4⟩)++[⟨v1,v2,mm,ib⟩]:=by rw [List.take_add_one,hx,List.map_append,← hv1,← hv2];rfl
     have HTK:=hid htk;clear htk hx hlen
     have HV1:=hid (fun w=>rcorner_any c A B n k m j p1 p2 p3 p4 t v1 w g0 (by omega) (by omega) (by omega) (by omega) (by omega) hv1)
     have HV2:=hid (fun w=>rcorner_any c A B n k m j p1 p2 p3 p4 f v2 w g0 (by omega) (by omega) (by omega) (by omega) (by omega) hv2)
     clear hv1 hv2 o1 o2 o3 o4
     have hnx_:=fun y h=>(World.ownsRow.lt b2.out y h).2
     have HNX:=hid hnx_;clear hnx_
     have hgo_:=Blk.lt b3.out
     go_upto_region 15 with fail
     clear e0 e1 e2 e3 el
     clear i8 i9 j0 j1 j3 j4 j5 j6 j7 j8 j9 k0 l0 l1
     obtain ⟨o_,ho_⟩:∃ o,o=((.cells #[.int .i64 f,.int .i64 t,.int .i64 mm,.int .i64 ib] 70):Obj):=⟨_,rfl⟩
     replace b2:=hid (World.ownsRow.alloc (b2.out) (o_))
     replace b3:=kA b3 o_
     replace b6:=kA b6 o_
     replace b7:=kA b7 o_
     replace b8:=kA b8 o_
     replace a9:=kA a9 o_
     replace b0:=bA b0 o_
     subst ho_
     have c4:=hid (Blk.new wo 70 #[.int .i64 f,.int .i64 t,.int .i64 mm,.int .i64 ib])
     obtain ⟨xg,hxg⟩:∃ xg,wo.heap.size=xg:=⟨_,rfl⟩
     obtain ⟨w2,hW2⟩:∃ w',w'=(wo.alloc (.cells #[.int .i64 f,.int .i64 t,.int .i64 mm,.int .i64 ib] 70)):=⟨_,rfl⟩
     rw [← hW2] at b2 b3 b6 b7 b8 a9 b0 c4
     rw [← hW2]
     rw [hxg] at c4 HNX hgo_ ⊢
     clear hW2 hxg
     have HGO:=hid hgo_;clear hgo_
     have JJ:=hid (And.intro b6.out (And.intro b7.out (And.intro b8.out (And.intro a9.out (And.intro c4.out (b0.out))))));have OJ:=hid (And.intro b2.out b3.out)
     clear b2 b3 b6 b7 b8 a9 b0 c4
     refine wp_region_held_drew (S:=fun W'=>Blk W' (w.heap.size) 24 #[.int .i64 c,.slice A n k,.slice B m j]∧Blk W' (w.heap.size+1) 24 #[.int .i64 d,.slice (some ⟨bb_,ob,none⟩) n2 k2,.slice D m2 j2]∧Blk W' (w.heap.size+1+1) 28 #[.int .i64 p1,.int .i64 p2,.int .i64 p3,.int .i64 p4]∧Blk W' (w.heap.size+1+1+1) 84 #[.int .i64 0,.slice none 0 0]∧Blk W' (xg) 70 #[.int .i64 f,.int .i64 t,.int .i64 mm,.int .i64 ib]∧Below w.heap.size w W') (by kernel_rfl) ?_ (fun hj=>?_)
     · obtain ⟨k1,k2,k3,k4,k5,k6⟩:=JJ.out
       exact ⟨k1.drew,k2.drew,k3.drew,k4.drew,k5.drew,k6.drew⟩
     clear JJ;have HJ0:=hid hj;clear hj
     refine' twH 0 HJ0.out ?_
     refine' tkH 2 HJ0.out ?o6 ?_
     case o6=>(rintro W' hS0;have hS1:=hS0.1;clear hS0;have z0:W'.cell? ⟨w.heap.size,0,none⟩=some (.int .i64 c):=Blk.cell hS1 0;have z1:W'.cell? ⟨w.heap.size,1,none⟩=some (.slice A n k):=Blk.cell hS1 1;have z2:W'.cell? ⟨w.heap.size,2,none⟩=some (.slice B m j):=Blk.cell hS1 2;clear hS1;go_simp;try with_reducible rfl)
     refine' tkH 3 HJ0.out ?o7 ?_
     case o7=>(rintro W' hS0;have hS1:=hS0.2.2.1;clear hS0;have z0:W'.cell? ⟨w.heap.size+1+1,0,none⟩=some (.int .i64 p1):=Blk.cell hS1 0;have z1:W'.cell? ⟨w.heap.size+1+1,1,none⟩=some (.int .i64 p2):=Blk.cell hS1 1;have z2:W'.cell? ⟨w.heap.size+1+1,2,none⟩=some (.int .i64 p3):=Blk.cell hS1 2;have z3:W'.cell? ⟨w.heap.size+1+1,3,none⟩=some (.int .i64 p4):=Blk.cell hS1 3;clear hS1;go_simp;try with_reducible rfl)
     refine' twH 4 HJ0.out ?_
     try simp only [pq]
     refine' tkH 5 HJ0.out ?o8 ?_
     case o8=>(rintro W' hS0;have hS1:=hS0.2.2.2.2.1;clear hS0;have z1:W'.cell? ⟨xg,1,none⟩=some (.int .i64 t):=Blk.cell hS1 1;clear hS1;go_simp;try with_reducible rfl)
     refine' tkH 7 HJ0.out ?o9 ?_
     case o9=>(rintro W' hS0;have hS1:=hS0.1;clear hS0;have z0:W'.cell? ⟨w.heap.size,0,none⟩=some (.int .i64 c):=Blk.cell hS1 0;have z1:W'.cell? ⟨w.heap.size,1,none⟩=some (.slice A n k):=Blk.cell hS1 1;have z2:W'.cell? ⟨w.heap.size,2,none⟩=some (.slice B m j):=Blk.cell hS1 2;clear hS1;go_simp;try with_reducible rfl)
     refine' tkH 8 HJ0.out ?p0 ?_
     case p0=>(rintro W' hS0;have hS1:=hS0.2.2.1;clear hS0;have z0:W'.cell? ⟨w.heap.size+1+1,0,none⟩=some (.int .i64 p1):=Blk.cell hS1 0;have z1:W'.cell? ⟨w.heap.size+1+1,1,none⟩=some (.int .i64 p2):=Blk.cell hS1 1;have z2:W'.cell? ⟨w.heap.size+1+1,2,none⟩=some (.int .i64 p3):=Blk.cell hS1 2;have z3:W'.cell? ⟨w.heap.size+1+1,3,none⟩=some (.int .i64 p4):=Blk.cell hS1 3;clear hS1;go_simp;try with_reducible rfl)
     refine' twH 9 HJ0.out ?_
     try simp only [pq]
     refine' tkH 10 HJ0.out ?p5 ?_
     case p5=>(rintro W' hS0;have hS1:=hS0.2.2.2.2.1;clear hS0;have z0:W'.cell? ⟨xg,0,none⟩=some (.int .i64 f):=Blk.cell hS1 0;clear hS1;go_simp;try with_reducible rfl)
     refine' twH 12 HJ0.out ?_
     refine' tkH 13 HJ0.out ?p6 ?_
     case p6=>(rintro W' hS0;have hS1:=hS0.2.2.2.2.1;clear hS0;have z2:W'.cell? ⟨xg,2,none⟩=some (.int .i64 mm):=Blk.cell hS1 2;clear hS1;go_simp;try with_reducible rfl)
     refine' twH 14 HJ0.out ?_
     try simp only [pq]
     refine' tkH 15 HJ0.out ?p7 ?_
     case p7=>(rintro W' hS0;have hS1:=hS0.2.2.2.2.1;clear hS0;have z3:W'.cell? ⟨xg,3,none⟩=some (.int .i64 ib):=Blk.cell hS1 3;clear hS1;go_simp;try with_reducible rfl)
     try simp only [pq]
     refine jw_region c A B n k m j p1 p2 p3 p4 t f v1 v2 mm ib gs Ax (n+q) cx _ (fun X_=>X_.ownsRow (w.heap.size+1+1+1+1) 70 4 (.slice Ax (n+q) cx) (n+q) (bcells (ws++(ws2.take q).map (wayB ⟨c,ws,ts⟩ ⟨p1,p2,p3,p4⟩)))∧Blk X_ gs 84 #[.int .i64 (c+d+1-(p2-p1)),.slice Ax (n+q) cx]) ?_ ?_ ?_ ?_ ?_ HV1.out HV2.out ?_ ?_ _ HJ0.out ⟨OJ.out.1.drew,OJ.out.2.drew⟩
     · rintro W o ⟨k1,k2,k3,k4,k5,k6⟩
       exact ⟨k1.alloc o,k2.alloc o,k3.alloc o,k4.alloc o,k5.alloc o,k6.alloc k6.size o⟩
     · rintro W W' ⟨k1,k2,k3,k4,k5,k6⟩ hb
       exact ⟨k1.keep hb,k2.keep hb,k3.keep hb,k4.keep hb,k5.keep hb,k6.trans (hb.mono k6.size)⟩
     · rintro W o ⟨k1,k2⟩
       exact ⟨k1.alloc o,k2.alloc o⟩
     · rintro W W' ⟨k1,k2⟩ hb
       exact ⟨owns_below k1 hb,k2.keep hb⟩
     · rintro W ⟨k1,k2⟩
       exact Blk.cell k2 1
     · exact fun _ _ _ _ _ h=>h
     rintro xn W9 ⟨k1,k2,k3,k4,k5,k6⟩ ⟨k7,k8⟩ k9
     clear HJ0 OJ
     have Kk1:=hid k1;clear k1
     have Kk2:=hid k2;clear k2
     have Kk3:=hid k3;clear k3
     have Kk4:=hid k4;clear k4
     have Kk5:=hid k5;clear k5
     have Kk6:=hid k6;clear k6
     have Kk7:=hid k7;clear k7
     have Kk8:=hid k8;clear k8
     have Kk9:=hid k9;clear k9
     refine oneH 18 rfl fun K hK=>?_
     have hcell_:=cells_add (cs:=bcells [⟨v1,v2,mm,ib⟩]) (show Blk _ _ _ (bcells [⟨v1,v2,mm,ib⟩]).toArray from Kk9.out)
     have hbz_:=Nat.succ_le_of_lt (Blk.lt (Kk4.out))
     refine wp_append_own _ (.tmp 96) (.tmp 112) 22 rfl (w.heap.size+1+1+1+1) 70 i0 _ 4 32 Tryz.underlying22 HI.out HZ0.out HZ1.out HZ2.out rfl (by omega) _ _ _ rfl (Kk7.out) ⟨xn,0,none⟩ 1 1 (bcells [⟨v1,v2,mm,ib⟩]) rfl rfl hcell_ (bcells_one _) (by unfold maxLen;omega) (by omega) hbz_ ?_
     intro v5 d8 hown5_ hg5_ _
     obtain ⟨A5,c5,rfl,-⟩:=own_form hown5_
     have m8:=hid (blk_grown (Kk1.out) hg5_ (fun e=>by have h_:=(World.ownsRow.lt (Kk7.out) _ e).1;omega))
     have m9:=hid (blk_grown (Kk2.out) hg5_ (fun e=>by have h_:=(World.ownsRow.lt (Kk7.out) _ e).1;omega))
     have n0:=hid (blk_grown (Kk3.out) hg5_ (fun e=>by have h_:=(World.ownsRow.lt (Kk7.out) _ e).1;omega))
     have n1:=hid (blk_grown (Kk4.out) hg5_ (fun e=>by have h_:=(World.ownsRow.lt (Kk7.out) _ e).1;omega))
     have d1:=hid (blk_grown (Kk8.out) hg5_ (own_ne (Kk7.out) (Kk8.out) (by decide)))
     have n3:=hid (Below.grown (Kk6.out) hg5_ (Below.size (Kk6.out)) (fun q e=>by have h_:=(World.ownsRow.lt (Kk7.out) q e).1;omega))
     have n4:=hid (blk_grown (Kk5.out) hg5_ (fun e=>absurd (HNX.out _ e) (Nat.lt_irrefl _)))
     have OW5:=hid (show World.ownsRow d8 (w.heap.size+1+1+1+1) 70 4 (.slice A5 (n+q+1) c5) (n+q+1) (bcells (ws++(ws2.take (q+1)).map (wayB ⟨c,ws,ts⟩ ⟨p1,p2,p3,p4⟩))) from by rw [HTK.out,← List.append_assoc,bcells_append];exact hown5_)
     clear hown5_ hg5_ hcell_ hbz_
     have n5:=hid (And.intro m8.out (And.intro m9.out (And.intro n0.out (And.intro n1.out (And.intro n4.out n3.out)))))
     refine hK.out _ _ n5.out (fun _=>?_);clear hK K
     try simp only [pq]
     refine' twH 19 n5.out ?_
     try simp only [pq]
     refine oneH 20 rfl fun K hK=>?_
     have hgo_:=HGO.out
     have w6:(d8).cell? ⟨gs,1,none⟩=some (.slice Ax (n+q) cx):=Blk.cell (d1.out) 1
     have w7:(d8).frozen? ⟨gs,1,none⟩=false:=Blk.frozen (d1.out) 1
     have hlt_:=Blk.lt (d1.out)
     go_simp
     have n6:=hid (Blk.set_ (d1.out) 1 (.slice A5 (n+q+1) c5))
     have i3:=hid (Blk.far (m8.out) (p:=⟨gs,1,none⟩) (by dsimp only;omega) (.slice A5 (n+q+1) c5))
     have i4:=hid (Blk.far (m9.out) (p:=⟨gs,1,none⟩) (by dsimp only;omega) (.slice A5 (n+q+1) c5))
     have i5:=hid (Blk.far (n0.out) (p:=⟨gs,1,none⟩) (by dsimp only;omega) (.slice A5 (n+q+1) c5))
     have i6:=hid (Blk.far (n1.out) (p:=⟨gs,1,none⟩) (by dsimp only;omega) (.slice A5 (n+q+1) c5))
     have n7:=hid (Blk.far (n4.out) (p:=⟨gs,1,none⟩) (by dsimp only;omega) (.slice A5 (n+q+1) c5))
     have i7:=hid (Below.setCell (n3.out) (p:=⟨gs,1,none⟩) (by dsimp only;omega) (.slice A5 (n+q+1) c5))
     have n8:=hid (own_far (OW5.out) (a:=⟨gs,1,none⟩) (own_ne (OW5.out) (d1.out) (by decide)) (.slice A5 (n+q+1) c5))
     obtain ⟨y8,f8⟩:∃ w',w'=((d8).setCell ⟨gs,1,none⟩ (.slice A5 (n+q+1) c5)):=⟨_,rfl⟩
     rw [← f8] at n6 i3 i4 i5 i6 n7 i7 n8
     rw [← f8]
     clear f8 w6 w7 hlt_
     clear hgo_
     have w8:=hid (And.intro i3.out (And.intro i4.out (And.intro i5.out (And.intro i6.out (And.intro n7.out i7.out)))))
     refine hK.out _ _ w8.out (fun _=>?_);clear hK K
     try simp only [pq]
     refine wpAnyH_done (by kernel_rfl) ?_ _
     go_wp2
     go_roundw
     case rel=>exact ⟨q+1,A5,c5,by omega,by go_num,n8.out,n6.out,hgs,i3.out,i4.out,i5.out,i6.out,i7.out⟩
     case measure=>simp [intOf];omega
   · obtain rfl:n2=q:=by omega
     have hlen:=RB0.out.len
     have hrd:=(OwnB.rd (show OwnB wo (w.heap.size+1+1+1+1) Ax (n+n2) cx (ws++(ws2.take n2).map (wayB ⟨c,ws,ts⟩ ⟨p1,p2,p3,p4⟩)) from b2.out)).1
     rw [List.take_of_length_le (by omega)] at hrd
     have p8:(wo).frozen? ⟨w.heap.size+1+1+1,0,none⟩=false:=Blk.frozen a9.out 0
     have p9:(wo).frozen? ⟨w.heap.size+1+1+1,1,none⟩=false:=Blk.frozen a9.out 1
     have hlb_:=Blk.lt a9.out;have bz_:=a9.out;have bel_:=b0.out
     have HK:=hid (And.intro bz_ (And.intro bel_ hrd));clear bz_ bel_ hrd hlen
     go_wp2
     obtain ⟨bz_,bel_,rl_⟩:=HK.out
     refine bodyPost_ret (v:=.agg #[.int .i64 (c+d+1-(p2-p1)),.slice Ax (n+n2) cx]) (by simp [results,Tryz.results48,go_sem,i8,i9,j0,j1,j3,j4,j5,j6,j7,j8,j9,k0,l0,l1,p8,p9]) rfl ?_
     exact ⟨Ax,n+n2,cx,rfl,rdB_set2 rl_ ⟨w.heap.size+1+1+1,0,none⟩ ⟨w.heap.size+1+1+1,1,none⟩ (.int .i64 (c+d+1-(p2-p1))) (.slice Ax (n+n2) cx) bz_ rfl,(by have hsz_:=Below.size bel_;repeat' (first|with_reducible exact bel_|with_reducible exact Below.refl _ _|with_reducible refine Below.alloc ?_ ?_ _|with_reducible refine Below.setCell ?_ ?_ _|with_reducible refine Below.drew ?_|with_reducible refine below_setRow ?_ ?_ _|omega | (simp;done) | (simp;omega)))⟩
end Go.Proofs.YtjjmifcjailpaaaGreat
