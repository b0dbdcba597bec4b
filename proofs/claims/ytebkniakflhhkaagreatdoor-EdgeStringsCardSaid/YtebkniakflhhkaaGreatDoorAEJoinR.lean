import Derived.Deep.DeepCutAuto
import Derived.Deep.OwnRows
import Derived.Great.BuildSlice
import Derived.Laws.AppendOwnNone
import Derived.Maps.OwnIn
import Derived.Shelf.SlIterI.Nil
import Derived.Shelf.Slices.Reverse
import Derived.Shelf.SortM.Plain
import Derived.Shelf.SortM.SortNone
import Derived.Sort.OwnSortedInts
import Derived.Test.YtebkniakflhhkaaGreatDoorAOnw
import Derived.Test.YtebkniakflhhkaaGreatDoorAEJoin
set_option linter.unusedSimpArgs false
set_option linter.unusedVariables false
namespace Go.Proofs.YtebkniakflhhkaaGreatDoor
open Go.Lib (hid)
open Go.RowKit
theorem rdI_new (w:World) (L:List Int) (n:Nat) (hn:L.length=n):RdI (w.alloc (.cells (arr L) 3)) (some ⟨w.heap.size,0,none⟩) n n L:=by
 refine ⟨hn,Nat.le_refl _,(fun h=>by cases h),.inr ⟨w.heap.size,0,rfl,by simp,fun j u hu=>?_⟩⟩
 rw [Nat.zero_add,(Blk.new w 3 (arr L)).cell j]
 simpa [arr] using hu
def r10ops:Array Oper:=#[{ dst:=some 74,op:=Go.Op.load 35 (Go.Operand.tmp 1),type:=35,pos := "law.go:36",after:=#[],guard:=none },{ dst:=some 75,op:=Go.Op.load 35 (Go.Operand.tmp 2),type:=35,pos := "law.go:36",after:=#[],guard:=none },{ dst:=some 76,op:=Go.Op.call { callee:=Go.Callee.value (Go.Operand.func 12),args:=#[Go.Operand.const (Go.Value.int Go.IntKind.i64 0),Go.Operand.const (Go.Value.int Go.IntKind.i64 1),Go.Operand.const (Go.Value.int Go.IntKind.i64 1),Go.Operand.const (Go.Value.int Go.IntKind.i64 2)],argTypes:=#[3,3,3,3] },type:=25,pos := "law.go:36",after:=#[],guard:=none },{ dst:=some 77,op:=Go.Op.buildSlice 51 4 #[(0,Go.Operand.const (Go.Value.int Go.IntKind.i64 0)),(1,Go.Operand.const (Go.Value.int Go.IntKind.i64 11)),(2,Go.Operand.const (Go.Value.int Go.IntKind.i64 31)),(3,Go.Operand.const (Go.Value.int Go.IntKind.i64 36))],type:=51,pos := "law.go:36",after:=#[],guard:=none },{ dst:=some 78,op:=Go.Op.buildSlice 51 4 #[(0,Go.Operand.const (Go.Value.int Go.IntKind.i64 0)),(1,Go.Operand.const (Go.Value.int Go.IntKind.i64 20)),(2,Go.Operand.const (Go.Value.int Go.IntKind.i64 31)),(3,Go.Operand.const (Go.Value.int Go.IntKind.i64 40))],type:=51,pos := "law.go:36",after:=#[],guard:=none },{ dst:=some 79,op:=Go.Op.buildSlice 51 3 #[(0,Go.Operand.const (Go.Value.int Go.IntKind.i64 0)),(1,Go.Operand.const (Go.Value.int Go.IntKind.i64 90)),(2,Go.Operand.const (Go.Value.int Go.IntKind.i64 190))],type:=51,pos := "law.go:36",after:=#[],guard:=none },{ dst:=some 80,op:=Go.Op.buildSlice 51 3 #[(0,Go.Operand.const (Go.Value.int Go.IntKind.i64 0)),(1,Go.Operand.const (Go.Value.int Go.IntKind.i64 (-95))),(2,Go.Operand.const (Go.Value.int Go.IntKind.i64 (-115)))],type:=51,pos := "law.go:36",after:=#[],guard:=none },{ dst:=some 81,op:=Go.Op.build 58 #[(0,Go.Operand.tmp 77),(1,Go.Operand.tmp 78),(2,Go.Operand.tmp 79),(3,Go.Operand.tmp 80)],type:=58,pos := "law.go:36",after:=#[{ on:=3,ground:=Go.Ground.data },{ on:=4,ground:=Go.Ground.data },{ on:=5,ground:=Go.Ground.data },{ on:=6,ground:=Go.Ground.data }],guard:=none },{ dst:=some 82,op:=Go.Op.call { callee:=Go.Callee.value (Go.Operand.func 18),args:=#[Go.Operand.tmp 74,Go.Operand.tmp 75,Go.Operand.tmp 76,Go.Operand.tmp 81],argTypes:=#[35,35,25,58] },type:=37,pos := "law.go:36",after:=#[{ on:=0,ground:=Go.Ground.data },{ on:=1,ground:=Go.Ground.data },{ on:=2,ground:=Go.Ground.data },{ on:=7,ground:=Go.Ground.data },{ on:=2,ground:=Go.Ground.chain }],guard:=none },{ dst:=some 73,op:=Go.Op.move (Go.Operand.tmp 82),type:=37,pos := "law.go:36",after:=#[{ on:=8,ground:=Go.Ground.data }],guard:=none },{ dst:=some 83,op:=Go.Op.extract (Go.Operand.tmp 73) 0,type:=4,pos := "law.go:36",after:=#[{ on:=9,ground:=Go.Ground.data }],guard:=none },{ dst:=some 84,op:=Go.Op.extract (Go.Operand.tmp 73) 1,type:=27,pos := "law.go:36",after:=#[{ on:=9,ground:=Go.Ground.data },{ on:=12,ground:=Go.Ground.gcOnly Go.Departure.lateStores }],guard:=none },{ dst:=some 19,op:=Go.Op.assign (Go.Operand.tmp 83),type:=4,pos := "law.go:36",after:=#[{ on:=10,ground:=Go.Ground.data },{ on:=8,ground:=Go.Ground.chain },{ on:=0,ground:=Go.Ground.phase },{ on:=1,ground:=Go.Ground.phase },{ on:=2,ground:=Go.Ground.phase },{ on:=3,ground:=Go.Ground.phase },{ on:=4,ground:=Go.Ground.phase },{ on:=5,ground:=Go.Ground.phase },{ on:=6,ground:=Go.Ground.phase },{ on:=7,ground:=Go.Ground.phase },{ on:=8,ground:=Go.Ground.phase },{ on:=9,ground:=Go.Ground.phase },{ on:=10,ground:=Go.Ground.phase },{ on:=11,ground:=Go.Ground.textOnly Go.Departure.lateStores }],guard:=none },{ dst:=some 20,op:=Go.Op.assign (Go.Operand.tmp 84),type:=27,pos := "law.go:36",after:=#[{ on:=11,ground:=Go.Ground.data },{ on:=12,ground:=Go.Ground.chain },{ on:=0,ground:=Go.Ground.phase },{ on:=1,ground:=Go.Ground.phase },{ on:=2,ground:=Go.Ground.phase },{ on:=3,ground:=Go.Ground.phase },{ on:=4,ground:=Go.Ground.phase },{ on:=5,ground:=Go.Ground.phase },{ on:=6,ground:=Go.Ground.phase },{ on:=7,ground:=Go.Ground.phase },{ on:=8,ground:=Go.Ground.phase },{ on:=9,ground:=Go.Ground.phase },{ on:=10,ground:=Go.Ground.phase },{ on:=11,ground:=Go.Ground.phase },{ on:=12,ground:=Go.Ground.phase }],guard:=none }]
set_option maxRecDepth 100000 in
set_option maxHeartbeats 8000000 in
theorem joined_r10 {Q:Exit→Act→World→Prop} {s0 s3 s4 s5 s6 s7 s8 s9 s10 s11 s12 s13 s14 s15 s16 s17 s18 s19 s20 s21 s22 s23 s24 s25 s26 s27 s28 s29 s30 s31 s32 s33 s34 s35 s36 s37 s38 s39 s40 s41 s42 s43 s44 s45 s46 s47 s48 s49 s50 s51 s52 s53 s54 s55 s56 s57 s58 s59 s60 s61 s62 s63 s64 s65 s66 s67 s68 s69 s70 s71 s72 s73 s74 s75 s76 s77 s78 s79 s80 s81 s82 s83 s84 s85 s86 s87 s88 s89 s90 s91 s92 s93 s94 s95 s96 s97 s98 s99 s100 s101 s102 s103 s104 s105 s106 s107 s108 s109 s110 s111 s112 s113 s114 s115 s116 s117 s118 s119 s120 s121 s122 s123 s124 s125 s126 s127 s128 s129 s130 s131 s132 s133 s134 s135 s136 s137 s138 s139 s140 s141 s142 s143 s144 s145 s146 s147 s148 s149 s150 s151 s152 s153 s154 s155 s156 s157 s158 s159 s160 s161 s162 s163 s164 s165 s166 s167 s168 s169 s170 s171:Value} {ds:List Deferred} {Ba Bb:Nat} (A B C D:Option Addr) (J:World→Prop) (hJa:∀ (W:World) (o:Obj),J W→J (W.alloc o)) (hJb:∀ W W':World,J W→Below W.heap.size W W'→J W')
 (hJ:∀ W:World,J W→Blk W Ba 35 #[.int .i64 3,.slice A 6 6,.slice B 4 4]∧Blk W Bb 35 #[.int .i64 3,.slice C 6 6,.slice D 4 4]∧RdB W A 6 6 fW∧RdB W B 4 4 fT∧RdB W C 6 6 sW∧RdB W D 4 4 sT) (hQp:∀ (c:List PanicEntry) (a:Act) (d:Nat) (v:Value) (w:World),Q (.panic c) (a.put (some d) v) w→Q (.panic c) a w)
 (fin:∀ (u73 u74 u75 u76 u77 u78 u79 u80 u81 u82 u83 u84:Value) (W:World),J W→Q .normal ({ tmps:=#[s0,.pointer (some ⟨Ba,0,none⟩),.pointer (some ⟨Bb,0,none⟩),s3,s4,s5,s6,s7,s8,s9,s10,s11,s12,s13,s14,s15,s16,s17,s18,.bool true,.int .i64 0,s21,s22,s23,s24,s25,s26,s27,s28,s29,s30,s31,s32,s33,s34,s35,s36,s37,s38,s39,s40,s41,s42,s43,s44,s45,s46,s47,s48,s49,s50,s51,s52,s53,s54,s55,s56,s57,s58,s59,s60,s61,s62,s63,s64,s65,s66,s67,s68,s69,s70,s71,s72,u73,u74,u75,u76,u77,u78,u79,u80,u81,u82,u83,u84,s85,s86,s87,s88,s89,s90,s91,s92,s93,s94,s95,s96,s97,s98,s99,s100,s101,s102,s103,s104,s105,s106,s107,s108,s109,s110,s111,s112,s113,s114,s115,s116,s117,s118,s119,s120,s121,s122,s123,s124,s125,s126,s127,s128,s129,s130,s131,s132,s133,s134,s135,s136,s137,s138,s139,s140,s141,s142,s143,s144,s145,s146,s147,s148,s149,s150,s151,s152,s153,s154,s155,s156,s157,s158,s159,s160,s161,s162,s163,s164,s165,s166,s167,s168,s169,s170,s171],defers:=ds }) W) (W0:World) (hj0:J W0) :
 wpAnyH Tryz.prog .any r10ops Q J 14 (Array.replicate 14 false) ({ tmps:=#[s0,.pointer (some ⟨Ba,0,none⟩),.pointer (some ⟨Bb,0,none⟩),s3,s4,s5,s6,s7,s8,s9,s10,s11,s12,s13,s14,s15,s16,s17,s18,s19,s20,s21,s22,s23,s24,s25,s26,s27,s28,s29,s30,s31,s32,s33,s34,s35,s36,s37,s38,s39,s40,s41,s42,s43,s44,s45,s46,s47,s48,s49,s50,s51,s52,s53,s54,s55,s56,s57,s58,s59,s60,s61,s62,s63,s64,s65,s66,s67,s68,s69,s70,s71,s72,s73,s74,s75,s76,s77,s78,s79,s80,s81,s82,s83,s84,s85,s86,s87,s88,s89,s90,s91,s92,s93,s94,s95,s96,s97,s98,s99,s100,s101,s102,s103,s104,s105,s106,s107,s108,s109,s110,s111,s112,s113,s114,s115,s116,s117,s118,s119,s120,s121,s122,s123,s124,s125,s126,s127,s128,s129,s130,s131,s132,s133,s134,s135,s136,s137,s138,s139,s140,s141,s142,s143,s144,s145,s146,s147,s148,s149,s150,s151,s152,s153,s154,s155,s156,s157,s158,s159,s160,s161,s162,s163,s164,s165,s166,s167,s168,s169,s170,s171],defers:=ds }) W0:=by
 obtain ⟨FR,hFR⟩:∃ FR:Value→Value→Value→Value→Value→Act,FR=fun v76 v77 v78 v79 v80=>{ tmps:=#[s0,.pointer (some ⟨Ba,0,none⟩),.pointer (some ⟨Bb,0,none⟩),s3,s4,s5,s6,s7,s8,s9,s10,s11,s12,s13,s14,s15,s16,s17,s18,s19,s20,s21,s22,s23,s24,s25,s26,s27,s28,s29,s30,s31,s32,s33,s34,s35,s36,s37,s38,s39,s40,s41,s42,s43,s44,s45,s46,s47,s48,s49,s50,s51,s52,s53,s54,s55,s56,s57,s58,s59,s60,s61,s62,s63,s64,s65,s66,s67,s68,s69,s70,s71,s72,s73,.agg #[.int .i64 3,.slice A 6 6,.slice B 4 4],.agg #[.int .i64 3,.slice C 6 6,.slice D 4 4],v76,v77,v78,v79,v80,s81,s82,s83,s84,s85,s86,s87,s88,s89,s90,s91,s92,s93,s94,s95,s96,s97,s98,s99,s100,s101,s102,s103,s104,s105,s106,s107,s108,s109,s110,s111,s112,s113,s114,s115,s116,s117,s118,s119,s120,s121,s122,s123,s124,s125,s126,s127,s128,s129,s130,s131,s132,s133,s134,s135,s136,s137,s138,s139,s140,s141,s142,s143,s144,s145,s146,s147,s148,s149,s150,s151,s152,s153,s154,s155,s156,s157,s158,s159,s160,s161,s162,s163,s164,s165,s166,s167,s168,s169,s170,s171],defers:=ds }:=⟨_,rfl⟩
 have x_:∀ (a0 a1 a2 a3:Nat) (W:World),J W→RdI W (some ⟨a0,0,none⟩) 4 4 [0,11,31,36]→RdI W (some ⟨a1,0,none⟩) 4 4 [0,20,31,40]→RdI W (some ⟨a2,0,none⟩) 3 3 [0,90,190]→RdI W (some ⟨a3,0,none⟩) 3 3 [0,-95,-115]→wpAnyH Tryz.prog .any r10ops Q J 7 #[true,true,true,true,true,true,true,false,false,false,false,false,false,false] (FR (.agg #[.int .i64 0,.int .i64 1,.int .i64 1,.int .i64 2]) (.slice (some ⟨a0,0,none⟩) 4 4) (.slice (some ⟨a1,0,none⟩) 4 4) (.slice (some ⟨a2,0,none⟩) 3 3) (.slice (some ⟨a3,0,none⟩) 3 3)) W:=by
  intro a0 a1 a2 a3 W hj f3 f4 f5 f6
  rw [hFR]
  dsimp only
  clear hFR FR
  have HJ:=hid hj
  have F3:=hid f3;have F4:=hid f4;have F5:=hid f5;have F6:=hid f6;clear hj f3 f4 f5 f6
  refine' twH 7 HJ.out ?_ (hQ:=fun _ _ _ h=>hQp _ _ _ _ _ h)
  try simp only [pq]
  refine oneH 8 rfl fun K hK=>?_
  obtain ⟨_,_,r1,r2,r3,r4⟩:=hJ _ HJ.out
  have hc:=j_place _ A B C D r1 r2 r3 r4 _ _ _ _ F3.out F4.out F5.out F6.out
  clear r1 r2 r3 r4
  have HC:=hid hc;clear hc
  go_simp
  go_at_call 18
  refine (HC.out).mono ?_
  rintro e W2 ⟨rfl,hb⟩
  dsimp only
  have a4:=hid (hJb _ _ HJ.out hb)
  refine hK.out _ _ a4.out (fun _=>?_);clear hK K
  try simp only [pq]
  refine' twH 9 a4.out ?_ (hQ:=fun _ _ _ h=>hQp _ _ _ _ _ h)
  refine' twH 10 a4.out ?_ (hQ:=fun _ _ _ h=>hQp _ _ _ _ _ h)
  refine' twH 11 a4.out ?_ (hQ:=fun _ _ _ h=>hQp _ _ _ _ _ h)
  refine' twH 12 a4.out ?_ (hQ:=fun _ _ _ h=>hQp _ _ _ _ _ h)
  try simp only [pq]
  refine' twH 13 a4.out ?_ (hQ:=fun _ _ _ h=>hQp _ _ _ _ _ h)
  try simp only [pq]
  refine wpAnyH_done (by kernel_rfl) ?_ _
  exact fin _ _ _ _ _ _ _ _ _ _ _ _ _ a4.out
 have a6:=hid x_;clear x_
 have x_:∀ (a0 a1 a2:Nat) (W:World),J W→RdI W (some ⟨a0,0,none⟩) 4 4 [0,11,31,36]→RdI W (some ⟨a1,0,none⟩) 4 4 [0,20,31,40]→RdI W (some ⟨a2,0,none⟩) 3 3 [0,90,190]→wpAnyH Tryz.prog .any r10ops Q J 8 #[true,true,true,true,true,true,false,false,false,false,false,false,false,false] (FR (.agg #[.int .i64 0,.int .i64 1,.int .i64 1,.int .i64 2]) (.slice (some ⟨a0,0,none⟩) 4 4) (.slice (some ⟨a1,0,none⟩) 4 4) (.slice (some ⟨a2,0,none⟩) 3 3) (s80)) W:=by
  intro a0 a1 a2 W hj f3 f4 f5
  rw [hFR]
  dsimp only
  refine wpAnyH_ready (rs:=[6]) (by kernel_rfl) (by simp) ?_
  refine rdH rfl (fun K hK=>?_) ?_
  · go_simp
    have h:=a6.out a0 a1 a2 W.heap.size (W.alloc (.cells #[.int .i64 0,.int .i64 (-95),.int .i64 (-115)] 3)) (hJa _ _ hj) (f3.alloc _) (f4.alloc _) (f5.alloc _) (rdI_new W [0,-95,-115] 3 rfl)
    rw [hFR] at h
    refine hK.out _ _ (hJa _ _ hj) (fun _=>?_)
    try simp only [pq]
    exact h
  exact AllReadyH.nil
 have a7:=hid x_;clear x_
 have x_:∀ (a0 a1 a3:Nat) (W:World),J W→RdI W (some ⟨a0,0,none⟩) 4 4 [0,11,31,36]→RdI W (some ⟨a1,0,none⟩) 4 4 [0,20,31,40]→RdI W (some ⟨a3,0,none⟩) 3 3 [0,-95,-115]→wpAnyH Tryz.prog .any r10ops Q J 8 #[true,true,true,true,true,false,true,false,false,false,false,false,false,false] (FR (.agg #[.int .i64 0,.int .i64 1,.int .i64 1,.int .i64 2]) (.slice (some ⟨a0,0,none⟩) 4 4) (.slice (some ⟨a1,0,none⟩) 4 4) (s79) (.slice (some ⟨a3,0,none⟩) 3 3)) W:=by
  intro a0 a1 a3 W hj f3 f4 f6
  rw [hFR]
  dsimp only
  refine wpAnyH_ready (rs:=[5]) (by kernel_rfl) (by simp) ?_
  refine rdH rfl (fun K hK=>?_) ?_
  · go_simp
    have h:=a6.out a0 a1 W.heap.size a3 (W.alloc (.cells #[.int .i64 0,.int .i64 90,.int .i64 190] 3)) (hJa _ _ hj) (f3.alloc _) (f4.alloc _) (rdI_new W [0,90,190] 3 rfl) (f6.alloc _)
    rw [hFR] at h
    refine hK.out _ _ (hJa _ _ hj) (fun _=>?_)
    try simp only [pq]
    exact h
  exact AllReadyH.nil
 have a8:=hid x_;clear x_
 have x_:∀ (a0 a2 a3:Nat) (W:World),J W→RdI W (some ⟨a0,0,none⟩) 4 4 [0,11,31,36]→RdI W (some ⟨a2,0,none⟩) 3 3 [0,90,190]→RdI W (some ⟨a3,0,none⟩) 3 3 [0,-95,-115]→wpAnyH Tryz.prog .any r10ops Q J 8 #[true,true,true,true,false,true,true,false,false,false,false,false,false,false] (FR (.agg #[.int .i64 0,.int .i64 1,.int .i64 1,.int .i64 2]) (.slice (some ⟨a0,0,none⟩) 4 4) (s78) (.slice (some ⟨a2,0,none⟩) 3 3) (.slice (some ⟨a3,0,none⟩) 3 3)) W:=by
  intro a0 a2 a3 W hj f3 f5 f6
  rw [hFR]
  dsimp only
  refine wpAnyH_ready (rs:=[4]) (by kernel_rfl) (by simp) ?_
  refine rdH rfl (fun K hK=>?_) ?_
  · go_simp
    have h:=a6.out a0 W.heap.size a2 a3 (W.alloc (.cells #[.int .i64 0,.int .i64 20,.int .i64 31,.int .i64 40] 3)) (hJa _ _ hj) (f3.alloc _) (rdI_new W [0,20,31,40] 4 rfl) (f5.alloc _) (f6.alloc _)
    rw [hFR] at h
    refine hK.out _ _ (hJa _ _ hj) (fun _=>?_)
    try simp only [pq]
    exact h
  exact AllReadyH.nil
 have a9:=hid x_;clear x_
 have x_:∀ (a1 a2 a3:Nat) (W:World),J W→RdI W (some ⟨a1,0,none⟩) 4 4 [0,20,31,40]→RdI W (some ⟨a2,0,none⟩) 3 3 [0,90,190]→RdI W (some ⟨a3,0,none⟩) 3 3 [0,-95,-115]→wpAnyH Tryz.prog .any r10ops Q J 8 #[true,true,true,false,true,true,true,false,false,false,false,false,false,false] (FR (.agg #[.int .i64 0,.int .i64 1,.int .i64 1,.int .i64 2]) (s77) (.slice (some ⟨a1,0,none⟩) 4 4) (.slice (some ⟨a2,0,none⟩) 3 3) (.slice (some ⟨a3,0,none⟩) 3 3)) W:=by
  intro a1 a2 a3 W hj f4 f5 f6
  rw [hFR]
  dsimp only
  refine wpAnyH_ready (rs:=[3]) (by kernel_rfl) (by simp) ?_
  refine rdH rfl (fun K hK=>?_) ?_
  · go_simp
    have h:=a6.out W.heap.size a1 a2 a3 (W.alloc (.cells #[.int .i64 0,.int .i64 11,.int .i64 31,.int .i64 36] 3)) (hJa _ _ hj) (rdI_new W [0,11,31,36] 4 rfl) (f4.alloc _) (f5.alloc _) (f6.alloc _)
    rw [hFR] at h
    refine hK.out _ _ (hJa _ _ hj) (fun _=>?_)
    try simp only [pq]
    exact h
  exact AllReadyH.nil
 have b0:=hid x_;clear x_
 have x_:∀ (a0 a1 a2 a3:Nat) (W:World),J W→RdI W (some ⟨a0,0,none⟩) 4 4 [0,11,31,36]→RdI W (some ⟨a1,0,none⟩) 4 4 [0,20,31,40]→RdI W (some ⟨a2,0,none⟩) 3 3 [0,90,190]→RdI W (some ⟨a3,0,none⟩) 3 3 [0,-95,-115]→wpAnyH Tryz.prog .any r10ops Q J 8 #[true,true,false,true,true,true,true,false,false,false,false,false,false,false] (FR s76 (.slice (some ⟨a0,0,none⟩) 4 4) (.slice (some ⟨a1,0,none⟩) 4 4) (.slice (some ⟨a2,0,none⟩) 3 3) (.slice (some ⟨a3,0,none⟩) 3 3)) W:=by
  intro a0 a1 a2 a3 W hj f3 f4 f5 f6
  rw [hFR]
  dsimp only
  have HJ:=hid hj
  have F3:=hid f3;have F4:=hid f4;have F5:=hid f5;have F6:=hid f6;clear hj f3 f4 f5 f6
  refine' twH 7 HJ.out ?_ (hQ:=fun _ _ _ h=>hQp _ _ _ _ _ h)
  try simp only [pq]
  refine oneH 2 rfl fun K hK=>?_
  go_simp
  go_at_call 12
  refine (of_any 0 1 1 2 _).mono ?_
  rintro e W1 ⟨rfl,hb⟩
  dsimp only
  have d2:=hid (hJb _ _ HJ.out hb)
  replace F3:=hid (RdI.below F3.out hb)
  replace F4:=hid (RdI.below F4.out hb)
  replace F5:=hid (RdI.below F5.out hb)
  replace F6:=hid (RdI.below F6.out hb)
  clear hb HJ
  have HJ:=d2
  refine hK.out _ _ d2.out (fun _=>?_);clear hK K
  try simp only [pq]
  refine oneH 8 rfl fun K hK=>?_
  obtain ⟨_,_,r1,r2,r3,r4⟩:=hJ _ HJ.out
  have hc:=j_place _ A B C D r1 r2 r3 r4 _ _ _ _ F3.out F4.out F5.out F6.out
  clear r1 r2 r3 r4
  have HC:=hid hc;clear hc
  go_simp
  go_at_call 18
  refine (HC.out).mono ?_
  rintro e W2 ⟨rfl,hb⟩
  dsimp only
  have a5:=hid (hJb _ _ HJ.out hb)
  refine hK.out _ _ a5.out (fun _=>?_);clear hK K
  try simp only [pq]
  refine' twH 9 a5.out ?_ (hQ:=fun _ _ _ h=>hQp _ _ _ _ _ h)
  refine' twH 10 a5.out ?_ (hQ:=fun _ _ _ h=>hQp _ _ _ _ _ h)
  refine' twH 11 a5.out ?_ (hQ:=fun _ _ _ h=>hQp _ _ _ _ _ h)
  refine' twH 12 a5.out ?_ (hQ:=fun _ _ _ h=>hQp _ _ _ _ _ h)
  try simp only [pq]
  refine' twH 13 a5.out ?_ (hQ:=fun _ _ _ h=>hQp _ _ _ _ _ h)
  try simp only [pq]
  refine wpAnyH_done (by kernel_rfl) ?_ _
  exact fin _ _ _ _ _ _ _ _ _ _ _ _ _ a5.out
 have b1:=hid x_;clear x_
 have x_:∀ (a0 a1:Nat) (W:World),J W→RdI W (some ⟨a0,0,none⟩) 4 4 [0,11,31,36]→RdI W (some ⟨a1,0,none⟩) 4 4 [0,20,31,40]→wpAnyH Tryz.prog .any r10ops Q J 9 #[true,true,true,true,true,false,false,false,false,false,false,false,false,false] (FR (.agg #[.int .i64 0,.int .i64 1,.int .i64 1,.int .i64 2]) (.slice (some ⟨a0,0,none⟩) 4 4) (.slice (some ⟨a1,0,none⟩) 4 4) (s79) (s80)) W:=by
  intro a0 a1 W hj f3 f4
  rw [hFR]
  dsimp only
  refine wpAnyH_ready (rs:=[5,6]) (by kernel_rfl) (by simp) ?_
  refine rdH rfl (fun K hK=>?_) ?_
  · go_simp
    have h:=a7.out a0 a1 W.heap.size (W.alloc (.cells #[.int .i64 0,.int .i64 90,.int .i64 190] 3)) (hJa _ _ hj) (f3.alloc _) (f4.alloc _) (rdI_new W [0,90,190] 3 rfl)
    rw [hFR] at h
    refine hK.out _ _ (hJa _ _ hj) (fun _=>?_)
    try simp only [pq]
    exact h
  refine rdH rfl (fun K hK=>?_) ?_
  · go_simp
    have h:=a8.out a0 a1 W.heap.size (W.alloc (.cells #[.int .i64 0,.int .i64 (-95),.int .i64 (-115)] 3)) (hJa _ _ hj) (f3.alloc _) (f4.alloc _) (rdI_new W [0,-95,-115] 3 rfl)
    rw [hFR] at h
    refine hK.out _ _ (hJa _ _ hj) (fun _=>?_)
    try simp only [pq]
    exact h
  exact AllReadyH.nil
 have b2:=hid x_;clear x_
 have x_:∀ (a0 a2:Nat) (W:World),J W→RdI W (some ⟨a0,0,none⟩) 4 4 [0,11,31,36]→RdI W (some ⟨a2,0,none⟩) 3 3 [0,90,190]→wpAnyH Tryz.prog .any r10ops Q J 9 #[true,true,true,true,false,true,false,false,false,false,false,false,false,false] (FR (.agg #[.int .i64 0,.int .i64 1,.int .i64 1,.int .i64 2]) (.slice (some ⟨a0,0,none⟩) 4 4) (s78) (.slice (some ⟨a2,0,none⟩) 3 3) (s80)) W:=by
  intro a0 a2 W hj f3 f5
  rw [hFR]
  dsimp only
  refine wpAnyH_ready (rs:=[4,6]) (by kernel_rfl) (by simp) ?_
  refine rdH rfl (fun K hK=>?_) ?_
  · go_simp
    have h:=a7.out a0 W.heap.size a2 (W.alloc (.cells #[.int .i64 0,.int .i64 20,.int .i64 31,.int .i64 40] 3)) (hJa _ _ hj) (f3.alloc _) (rdI_new W [0,20,31,40] 4 rfl) (f5.alloc _)
    rw [hFR] at h
    refine hK.out _ _ (hJa _ _ hj) (fun _=>?_)
    try simp only [pq]
    exact h
  refine rdH rfl (fun K hK=>?_) ?_
  · go_simp
    have h:=a9.out a0 a2 W.heap.size (W.alloc (.cells #[.int .i64 0,.int .i64 (-95),.int .i64 (-115)] 3)) (hJa _ _ hj) (f3.alloc _) (f5.alloc _) (rdI_new W [0,-95,-115] 3 rfl)
    rw [hFR] at h
    refine hK.out _ _ (hJa _ _ hj) (fun _=>?_)
    try simp only [pq]
    exact h
  exact AllReadyH.nil
 have b3:=hid x_;clear x_
 have x_:∀ (a0 a3:Nat) (W:World),J W→RdI W (some ⟨a0,0,none⟩) 4 4 [0,11,31,36]→RdI W (some ⟨a3,0,none⟩) 3 3 [0,-95,-115]→wpAnyH Tryz.prog .any r10ops Q J 9 #[true,true,true,true,false,false,true,false,false,false,false,false,false,false] (FR (.agg #[.int .i64 0,.int .i64 1,.int .i64 1,.int .i64 2]) (.slice (some ⟨a0,0,none⟩) 4 4) (s78) (s79) (.slice (some ⟨a3,0,none⟩) 3 3)) W:=by
  intro a0 a3 W hj f3 f6
  rw [hFR]
  dsimp only
  refine wpAnyH_ready (rs:=[4,5]) (by kernel_rfl) (by simp) ?_
  refine rdH rfl (fun K hK=>?_) ?_
  · go_simp
    have h:=a8.out a0 W.heap.size a3 (W.alloc (.cells #[.int .i64 0,.int .i64 20,.int .i64 31,.int .i64 40] 3)) (hJa _ _ hj) (f3.alloc _) (rdI_new W [0,20,31,40] 4 rfl) (f6.alloc _)
    rw [hFR] at h
    refine hK.out _ _ (hJa _ _ hj) (fun _=>?_)
    try simp only [pq]
    exact h
  refine rdH rfl (fun K hK=>?_) ?_
  · go_simp
    have h:=a9.out a0 W.heap.size a3 (W.alloc (.cells #[.int .i64 0,.int .i64 90,.int .i64 190] 3)) (hJa _ _ hj) (f3.alloc _) (rdI_new W [0,90,190] 3 rfl) (f6.alloc _)
    rw [hFR] at h
    refine hK.out _ _ (hJa _ _ hj) (fun _=>?_)
    try simp only [pq]
    exact h
  exact AllReadyH.nil
 have b4:=hid x_;clear x_
 have x_:∀ (a1 a2:Nat) (W:World),J W→RdI W (some ⟨a1,0,none⟩) 4 4 [0,20,31,40]→RdI W (some ⟨a2,0,none⟩) 3 3 [0,90,190]→wpAnyH Tryz.prog .any r10ops Q J 9 #[true,true,true,false,true,true,false,false,false,false,false,false,false,false] (FR (.agg #[.int .i64 0,.int .i64 1,.int .i64 1,.int .i64 2]) (s77) (.slice (some ⟨a1,0,none⟩) 4 4) (.slice (some ⟨a2,0,none⟩) 3 3) (s80)) W:=by
  intro a1 a2 W hj f4 f5
  rw [hFR]
  dsimp only
  refine wpAnyH_ready (rs:=[3,6]) (by kernel_rfl) (by simp) ?_
  refine rdH rfl (fun K hK=>?_) ?_
  · go_simp
    have h:=a7.out W.heap.size a1 a2 (W.alloc (.cells #[.int .i64 0,.int .i64 11,.int .i64 31,.int .i64 36] 3)) (hJa _ _ hj) (rdI_new W [0,11,31,36] 4 rfl) (f4.alloc _) (f5.alloc _)
    rw [hFR] at h
    refine hK.out _ _ (hJa _ _ hj) (fun _=>?_)
    try simp only [pq]
    exact h
  refine rdH rfl (fun K hK=>?_) ?_
  · go_simp
    have h:=b0.out a1 a2 W.heap.size (W.alloc (.cells #[.int .i64 0,.int .i64 (-95),.int .i64 (-115)] 3)) (hJa _ _ hj) (f4.alloc _) (f5.alloc _) (rdI_new W [0,-95,-115] 3 rfl)
    rw [hFR] at h
    refine hK.out _ _ (hJa _ _ hj) (fun _=>?_)
    try simp only [pq]
    exact h
  exact AllReadyH.nil
 have b5:=hid x_;clear x_
 have x_:∀ (a1 a3:Nat) (W:World),J W→RdI W (some ⟨a1,0,none⟩) 4 4 [0,20,31,40]→RdI W (some ⟨a3,0,none⟩) 3 3 [0,-95,-115]→wpAnyH Tryz.prog .any r10ops Q J 9 #[true,true,true,false,true,false,true,false,false,false,false,false,false,false] (FR (.agg #[.int .i64 0,.int .i64 1,.int .i64 1,.int .i64 2]) (s77) (.slice (some ⟨a1,0,none⟩) 4 4) (s79) (.slice (some ⟨a3,0,none⟩) 3 3)) W:=by
  intro a1 a3 W hj f4 f6
  rw [hFR]
  dsimp only
  refine wpAnyH_ready (rs:=[3,5]) (by kernel_rfl) (by simp) ?_
  refine rdH rfl (fun K hK=>?_) ?_
  · go_simp
    have h:=a8.out W.heap.size a1 a3 (W.alloc (.cells #[.int .i64 0,.int .i64 11,.int .i64 31,.int .i64 36] 3)) (hJa _ _ hj) (rdI_new W [0,11,31,36] 4 rfl) (f4.alloc _) (f6.alloc _)
    rw [hFR] at h
    refine hK.out _ _ (hJa _ _ hj) (fun _=>?_)
    try simp only [pq]
    exact h
  refine rdH rfl (fun K hK=>?_) ?_
  · go_simp
    have h:=b0.out a1 W.heap.size a3 (W.alloc (.cells #[.int .i64 0,.int .i64 90,.int .i64 190] 3)) (hJa _ _ hj) (f4.alloc _) (rdI_new W [0,90,190] 3 rfl) (f6.alloc _)
    rw [hFR] at h
    refine hK.out _ _ (hJa _ _ hj) (fun _=>?_)
    try simp only [pq]
    exact h
  exact AllReadyH.nil
 have b6:=hid x_;clear x_
 have x_:∀ (a2 a3:Nat) (W:World),J W→RdI W (some ⟨a2,0,none⟩) 3 3 [0,90,190]→RdI W (some ⟨a3,0,none⟩) 3 3 [0,-95,-115]→wpAnyH Tryz.prog .any r10ops Q J 9 #[true,true,true,false,false,true,true,false,false,false,false,false,false,false] (FR (.agg #[.int .i64 0,.int .i64 1,.int .i64 1,.int .i64 2]) (s77) (s78) (.slice (some ⟨a2,0,none⟩) 3 3) (.slice (some ⟨a3,0,none⟩) 3 3)) W:=by
  intro a2 a3 W hj f5 f6
  rw [hFR]
  dsimp only
  refine wpAnyH_ready (rs:=[3,4]) (by kernel_rfl) (by simp) ?_
  refine rdH rfl (fun K hK=>?_) ?_
  · go_simp
    have h:=a9.out W.heap.size a2 a3 (W.alloc (.cells #[.int .i64 0,.int .i64 11,.int .i64 31,.int .i64 36] 3)) (hJa _ _ hj) (rdI_new W [0,11,31,36] 4 rfl) (f5.alloc _) (f6.alloc _)
    rw [hFR] at h
    refine hK.out _ _ (hJa _ _ hj) (fun _=>?_)
    try simp only [pq]
    exact h
  refine rdH rfl (fun K hK=>?_) ?_
  · go_simp
    have h:=b0.out W.heap.size a2 a3 (W.alloc (.cells #[.int .i64 0,.int .i64 20,.int .i64 31,.int .i64 40] 3)) (hJa _ _ hj) (rdI_new W [0,20,31,40] 4 rfl) (f5.alloc _) (f6.alloc _)
    rw [hFR] at h
    refine hK.out _ _ (hJa _ _ hj) (fun _=>?_)
    try simp only [pq]
    exact h
  exact AllReadyH.nil
 have b7:=hid x_;clear x_
 have x_:∀ (a0 a1 a2:Nat) (W:World),J W→RdI W (some ⟨a0,0,none⟩) 4 4 [0,11,31,36]→RdI W (some ⟨a1,0,none⟩) 4 4 [0,20,31,40]→RdI W (some ⟨a2,0,none⟩) 3 3 [0,90,190]→wpAnyH Tryz.prog .any r10ops Q J 9 #[true,true,false,true,true,true,false,false,false,false,false,false,false,false] (FR s76 (.slice (some ⟨a0,0,none⟩) 4 4) (.slice (some ⟨a1,0,none⟩) 4 4) (.slice (some ⟨a2,0,none⟩) 3 3) (s80)) W:=by
  intro a0 a1 a2 W hj f3 f4 f5
  rw [hFR]
  dsimp only
  refine wpAnyH_ready (rs:=[2,6]) (by kernel_rfl) (by simp) ?_
  refine rdH rfl (fun K hK=>?_) ?_
  · go_simp
    go_at_call 12
    refine (of_any 0 1 1 2 _).mono ?_
    rintro e W1 ⟨rfl,hb⟩
    dsimp only
    have h:=a7.out a0 a1 a2 W1 (hJb _ _ hj hb) (f3.below hb) (f4.below hb) (f5.below hb)
    rw [hFR] at h
    refine hK.out _ _ (hJb _ _ hj hb) (fun _=>?_)
    try simp only [pq]
    exact h
  refine rdH rfl (fun K hK=>?_) ?_
  · go_simp
    have h:=b1.out a0 a1 a2 W.heap.size (W.alloc (.cells #[.int .i64 0,.int .i64 (-95),.int .i64 (-115)] 3)) (hJa _ _ hj) (f3.alloc _) (f4.alloc _) (f5.alloc _) (rdI_new W [0,-95,-115] 3 rfl)
    rw [hFR] at h
    refine hK.out _ _ (hJa _ _ hj) (fun _=>?_)
    try simp only [pq]
    exact h
  exact AllReadyH.nil
 have b8:=hid x_;clear x_
 have x_:∀ (a0 a1 a3:Nat) (W:World),J W→RdI W (some ⟨a0,0,none⟩) 4 4 [0,11,31,36]→RdI W (some ⟨a1,0,none⟩) 4 4 [0,20,31,40]→RdI W (some ⟨a3,0,none⟩) 3 3 [0,-95,-115]→wpAnyH Tryz.prog .any r10ops Q J 9 #[true,true,false,true,true,false,true,false,false,false,false,false,false,false] (FR s76 (.slice (some ⟨a0,0,none⟩) 4 4) (.slice (some ⟨a1,0,none⟩) 4 4) (s79) (.slice (some ⟨a3,0,none⟩) 3 3)) W:=by
  intro a0 a1 a3 W hj f3 f4 f6
  rw [hFR]
  dsimp only
  refine wpAnyH_ready (rs:=[2,5]) (by kernel_rfl) (by simp) ?_
  refine rdH rfl (fun K hK=>?_) ?_
  · go_simp
    go_at_call 12
    refine (of_any 0 1 1 2 _).mono ?_
    rintro e W1 ⟨rfl,hb⟩
    dsimp only
    have h:=a8.out a0 a1 a3 W1 (hJb _ _ hj hb) (f3.below hb) (f4.below hb) (f6.below hb)
    rw [hFR] at h
    refine hK.out _ _ (hJb _ _ hj hb) (fun _=>?_)
    try simp only [pq]
    exact h
  refine rdH rfl (fun K hK=>?_) ?_
  · go_simp
    have h:=b1.out a0 a1 W.heap.size a3 (W.alloc (.cells #[.int .i64 0,.int .i64 90,.int .i64 190] 3)) (hJa _ _ hj) (f3.alloc _) (f4.alloc _) (rdI_new W [0,90,190] 3 rfl) (f6.alloc _)
    rw [hFR] at h
    refine hK.out _ _ (hJa _ _ hj) (fun _=>?_)
    try simp only [pq]
    exact h
  exact AllReadyH.nil
 have b9:=hid x_;clear x_
 have x_:∀ (a0 a2 a3:Nat) (W:World),J W→RdI W (some ⟨a0,0,none⟩) 4 4 [0,11,31,36]→RdI W (some ⟨a2,0,none⟩) 3 3 [0,90,190]→RdI W (some ⟨a3,0,none⟩) 3 3 [0,-95,-115]→wpAnyH Tryz.prog .any r10ops Q J 9 #[true,true,false,true,false,true,true,false,false,false,false,false,false,false] (FR s76 (.slice (some ⟨a0,0,none⟩) 4 4) (s78) (.slice (some ⟨a2,0,none⟩) 3 3) (.slice (some ⟨a3,0,none⟩) 3 3)) W:=by
  intro a0 a2 a3 W hj f3 f5 f6
  rw [hFR]
  dsimp only
  refine wpAnyH_ready (rs:=[2,4]) (by kernel_rfl) (by simp) ?_
  refine rdH rfl (fun K hK=>?_) ?_
  · go_simp
    go_at_call 12
    refine (of_any 0 1 1 2 _).mono ?_
    rintro e W1 ⟨rfl,hb⟩
    dsimp only
    have h:=a9.out a0 a2 a3 W1 (hJb _ _ hj hb) (f3.below hb) (f5.below hb) (f6.below hb)
    rw [hFR] at h
    refine hK.out _ _ (hJb _ _ hj hb) (fun _=>?_)
    try simp only [pq]
    exact h
  refine rdH rfl (fun K hK=>?_) ?_
  · go_simp
    have h:=b1.out a0 W.heap.size a2 a3 (W.alloc (.cells #[.int .i64 0,.int .i64 20,.int .i64 31,.int .i64 40] 3)) (hJa _ _ hj) (f3.alloc _) (rdI_new W [0,20,31,40] 4 rfl) (f5.alloc _) (f6.alloc _)
    rw [hFR] at h
    refine hK.out _ _ (hJa _ _ hj) (fun _=>?_)
    try simp only [pq]
    exact h
  exact AllReadyH.nil
 have c0:=hid x_;clear x_
 have x_:∀ (a1 a2 a3:Nat) (W:World),J W→RdI W (some ⟨a1,0,none⟩) 4 4 [0,20,31,40]→RdI W (some ⟨a2,0,none⟩) 3 3 [0,90,190]→RdI W (some ⟨a3,0,none⟩) 3 3 [0,-95,-115]→wpAnyH Tryz.prog .any r10ops Q J 9 #[true,true,false,false,true,true,true,false,false,false,false,false,false,false] (FR s76 (s77) (.slice (some ⟨a1,0,none⟩) 4 4) (.slice (some ⟨a2,0,none⟩) 3 3) (.slice (some ⟨a3,0,none⟩) 3 3)) W:=by
  intro a1 a2 a3 W hj f4 f5 f6
  rw [hFR]
  dsimp only
  refine wpAnyH_ready (rs:=[2,3]) (by kernel_rfl) (by simp) ?_
  refine rdH rfl (fun K hK=>?_) ?_
  · go_simp
    go_at_call 12
    refine (of_any 0 1 1 2 _).mono ?_
    rintro e W1 ⟨rfl,hb⟩
    dsimp only
    have h:=b0.out a1 a2 a3 W1 (hJb _ _ hj hb) (f4.below hb) (f5.below hb) (f6.below hb)
    rw [hFR] at h
    refine hK.out _ _ (hJb _ _ hj hb) (fun _=>?_)
    try simp only [pq]
    exact h
  refine rdH rfl (fun K hK=>?_) ?_
  · go_simp
    have h:=b1.out W.heap.size a1 a2 a3 (W.alloc (.cells #[.int .i64 0,.int .i64 11,.int .i64 31,.int .i64 36] 3)) (hJa _ _ hj) (rdI_new W [0,11,31,36] 4 rfl) (f4.alloc _) (f5.alloc _) (f6.alloc _)
    rw [hFR] at h
    refine hK.out _ _ (hJa _ _ hj) (fun _=>?_)
    try simp only [pq]
    exact h
  exact AllReadyH.nil
 have c1:=hid x_;clear x_
 have x_:∀ (a0:Nat) (W:World),J W→RdI W (some ⟨a0,0,none⟩) 4 4 [0,11,31,36]→wpAnyH Tryz.prog .any r10ops Q J 10 #[true,true,true,true,false,false,false,false,false,false,false,false,false,false] (FR (.agg #[.int .i64 0,.int .i64 1,.int .i64 1,.int .i64 2]) (.slice (some ⟨a0,0,none⟩) 4 4) (s78) (s79) (s80)) W:=by
  intro a0 W hj f3
  rw [hFR]
  dsimp only
  refine wpAnyH_ready (rs:=[4,5,6]) (by kernel_rfl) (by simp) ?_
  refine rdH rfl (fun K hK=>?_) ?_
  · go_simp
    have h:=b2.out a0 W.heap.size (W.alloc (.cells #[.int .i64 0,.int .i64 20,.int .i64 31,.int .i64 40] 3)) (hJa _ _ hj) (f3.alloc _) (rdI_new W [0,20,31,40] 4 rfl)
    rw [hFR] at h
    refine hK.out _ _ (hJa _ _ hj) (fun _=>?_)
    try simp only [pq]
    exact h
  refine rdH rfl (fun K hK=>?_) ?_
  · go_simp
    have h:=b3.out a0 W.heap.size (W.alloc (.cells #[.int .i64 0,.int .i64 90,.int .i64 190] 3)) (hJa _ _ hj) (f3.alloc _) (rdI_new W [0,90,190] 3 rfl)
    rw [hFR] at h
    refine hK.out _ _ (hJa _ _ hj) (fun _=>?_)
    try simp only [pq]
    exact h
  refine rdH rfl (fun K hK=>?_) ?_
  · go_simp
    have h:=b4.out a0 W.heap.size (W.alloc (.cells #[.int .i64 0,.int .i64 (-95),.int .i64 (-115)] 3)) (hJa _ _ hj) (f3.alloc _) (rdI_new W [0,-95,-115] 3 rfl)
    rw [hFR] at h
    refine hK.out _ _ (hJa _ _ hj) (fun _=>?_)
    try simp only [pq]
    exact h
  exact AllReadyH.nil
 have c2:=hid x_;clear x_
 have x_:∀ (a1:Nat) (W:World),J W→RdI W (some ⟨a1,0,none⟩) 4 4 [0,20,31,40]→wpAnyH Tryz.prog .any r10ops Q J 10 #[true,true,true,false,true,false,false,false,false,false,false,false,false,false] (FR (.agg #[.int .i64 0,.int .i64 1,.int .i64 1,.int .i64 2]) (s77) (.slice (some ⟨a1,0,none⟩) 4 4) (s79) (s80)) W:=by
  intro a1 W hj f4
  rw [hFR]
  dsimp only
  refine wpAnyH_ready (rs:=[3,5,6]) (by kernel_rfl) (by simp) ?_
  refine rdH rfl (fun K hK=>?_) ?_
  · go_simp
    have h:=b2.out W.heap.size a1 (W.alloc (.cells #[.int .i64 0,.int .i64 11,.int .i64 31,.int .i64 36] 3)) (hJa _ _ hj) (rdI_new W [0,11,31,36] 4 rfl) (f4.alloc _)
    rw [hFR] at h
    refine hK.out _ _ (hJa _ _ hj) (fun _=>?_)
    try simp only [pq]
    exact h
  refine rdH rfl (fun K hK=>?_) ?_
  · go_simp
    have h:=b5.out a1 W.heap.size (W.alloc (.cells #[.int .i64 0,.int .i64 90,.int .i64 190] 3)) (hJa _ _ hj) (f4.alloc _) (rdI_new W [0,90,190] 3 rfl)
    rw [hFR] at h
    refine hK.out _ _ (hJa _ _ hj) (fun _=>?_)
    try simp only [pq]
    exact h
  refine rdH rfl (fun K hK=>?_) ?_
  · go_simp
    have h:=b6.out a1 W.heap.size (W.alloc (.cells #[.int .i64 0,.int .i64 (-95),.int .i64 (-115)] 3)) (hJa _ _ hj) (f4.alloc _) (rdI_new W [0,-95,-115] 3 rfl)
    rw [hFR] at h
    refine hK.out _ _ (hJa _ _ hj) (fun _=>?_)
    try simp only [pq]
    exact h
  exact AllReadyH.nil
 have c3:=hid x_;clear x_
 have x_:∀ (a2:Nat) (W:World),J W→RdI W (some ⟨a2,0,none⟩) 3 3 [0,90,190]→wpAnyH Tryz.prog .any r10ops Q J 10 #[true,true,true,false,false,true,false,false,false,false,false,false,false,false] (FR (.agg #[.int .i64 0,.int .i64 1,.int .i64 1,.int .i64 2]) (s77) (s78) (.slice (some ⟨a2,0,none⟩) 3 3) (s80)) W:=by
  intro a2 W hj f5
  rw [hFR]
  dsimp only
  refine wpAnyH_ready (rs:=[3,4,6]) (by kernel_rfl) (by simp) ?_
  refine rdH rfl (fun K hK=>?_) ?_
  · go_simp
    have h:=b3.out W.heap.size a2 (W.alloc (.cells #[.int .i64 0,.int .i64 11,.int .i64 31,.int .i64 36] 3)) (hJa _ _ hj) (rdI_new W [0,11,31,36] 4 rfl) (f5.alloc _)
    rw [hFR] at h
    refine hK.out _ _ (hJa _ _ hj) (fun _=>?_)
    try simp only [pq]
    exact h
  refine rdH rfl (fun K hK=>?_) ?_
  · go_simp
    have h:=b5.out W.heap.size a2 (W.alloc (.cells #[.int .i64 0,.int .i64 20,.int .i64 31,.int .i64 40] 3)) (hJa _ _ hj) (rdI_new W [0,20,31,40] 4 rfl) (f5.alloc _)
    rw [hFR] at h
    refine hK.out _ _ (hJa _ _ hj) (fun _=>?_)
    try simp only [pq]
    exact h
  refine rdH rfl (fun K hK=>?_) ?_
  · go_simp
    have h:=b7.out a2 W.heap.size (W.alloc (.cells #[.int .i64 0,.int .i64 (-95),.int .i64 (-115)] 3)) (hJa _ _ hj) (f5.alloc _) (rdI_new W [0,-95,-115] 3 rfl)
    rw [hFR] at h
    refine hK.out _ _ (hJa _ _ hj) (fun _=>?_)
    try simp only [pq]
    exact h
  exact AllReadyH.nil
 have c4:=hid x_;clear x_
 have x_:∀ (a3:Nat) (W:World),J W→RdI W (some ⟨a3,0,none⟩) 3 3 [0,-95,-115]→wpAnyH Tryz.prog .any r10ops Q J 10 #[true,true,true,false,false,false,true,false,false,false,false,false,false,false] (FR (.agg #[.int .i64 0,.int .i64 1,.int .i64 1,.int .i64 2]) (s77) (s78) (s79) (.slice (some ⟨a3,0,none⟩) 3 3)) W:=by
  intro a3 W hj f6
  rw [hFR]
  dsimp only
  refine wpAnyH_ready (rs:=[3,4,5]) (by kernel_rfl) (by simp) ?_
  refine rdH rfl (fun K hK=>?_) ?_
  · go_simp
    have h:=b4.out W.heap.size a3 (W.alloc (.cells #[.int .i64 0,.int .i64 11,.int .i64 31,.int .i64 36] 3)) (hJa _ _ hj) (rdI_new W [0,11,31,36] 4 rfl) (f6.alloc _)
    rw [hFR] at h
    refine hK.out _ _ (hJa _ _ hj) (fun _=>?_)
    try simp only [pq]
    exact h
  refine rdH rfl (fun K hK=>?_) ?_
  · go_simp
    have h:=b6.out W.heap.size a3 (W.alloc (.cells #[.int .i64 0,.int .i64 20,.int .i64 31,.int .i64 40] 3)) (hJa _ _ hj) (rdI_new W [0,20,31,40] 4 rfl) (f6.alloc _)
    rw [hFR] at h
    refine hK.out _ _ (hJa _ _ hj) (fun _=>?_)
    try simp only [pq]
    exact h
  refine rdH rfl (fun K hK=>?_) ?_
  · go_simp
    have h:=b7.out W.heap.size a3 (W.alloc (.cells #[.int .i64 0,.int .i64 90,.int .i64 190] 3)) (hJa _ _ hj) (rdI_new W [0,90,190] 3 rfl) (f6.alloc _)
    rw [hFR] at h
    refine hK.out _ _ (hJa _ _ hj) (fun _=>?_)
    try simp only [pq]
    exact h
  exact AllReadyH.nil
 have c5:=hid x_;clear x_
 have x_:∀ (a0 a1:Nat) (W:World),J W→RdI W (some ⟨a0,0,none⟩) 4 4 [0,11,31,36]→RdI W (some ⟨a1,0,none⟩) 4 4 [0,20,31,40]→wpAnyH Tryz.prog .any r10ops Q J 10 #[true,true,false,true,true,false,false,false,false,false,false,false,false,false] (FR s76 (.slice (some ⟨a0,0,none⟩) 4 4) (.slice (some ⟨a1,0,none⟩) 4 4) (s79) (s80)) W:=by
  intro a0 a1 W hj f3 f4
  rw [hFR]
  dsimp only
  refine wpAnyH_ready (rs:=[2,5,6]) (by kernel_rfl) (by simp) ?_
  refine rdH rfl (fun K hK=>?_) ?_
  · go_simp
    go_at_call 12
    refine (of_any 0 1 1 2 _).mono ?_
    rintro e W1 ⟨rfl,hb⟩
    dsimp only
    have h:=b2.out a0 a1 W1 (hJb _ _ hj hb) (f3.below hb) (f4.below hb)
    rw [hFR] at h
    refine hK.out _ _ (hJb _ _ hj hb) (fun _=>?_)
    try simp only [pq]
    exact h
  refine rdH rfl (fun K hK=>?_) ?_
  · go_simp
    have h:=b8.out a0 a1 W.heap.size (W.alloc (.cells #[.int .i64 0,.int .i64 90,.int .i64 190] 3)) (hJa _ _ hj) (f3.alloc _) (f4.alloc _) (rdI_new W [0,90,190] 3 rfl)
    rw [hFR] at h
    refine hK.out _ _ (hJa _ _ hj) (fun _=>?_)
    try simp only [pq]
    exact h
  refine rdH rfl (fun K hK=>?_) ?_
  · go_simp
    have h:=b9.out a0 a1 W.heap.size (W.alloc (.cells #[.int .i64 0,.int .i64 (-95),.int .i64 (-115)] 3)) (hJa _ _ hj) (f3.alloc _) (f4.alloc _) (rdI_new W [0,-95,-115] 3 rfl)
    rw [hFR] at h
    refine hK.out _ _ (hJa _ _ hj) (fun _=>?_)
    try simp only [pq]
    exact h
  exact AllReadyH.nil
 have c6:=hid x_;clear x_
 have x_:∀ (a0 a2:Nat) (W:World),J W→RdI W (some ⟨a0,0,none⟩) 4 4 [0,11,31,36]→RdI W (some ⟨a2,0,none⟩) 3 3 [0,90,190]→wpAnyH Tryz.prog .any r10ops Q J 10 #[true,true,false,true,false,true,false,false,false,false,false,false,false,false] (FR s76 (.slice (some ⟨a0,0,none⟩) 4 4) (s78) (.slice (some ⟨a2,0,none⟩) 3 3) (s80)) W:=by
  intro a0 a2 W hj f3 f5
  rw [hFR]
  dsimp only
  refine wpAnyH_ready (rs:=[2,4,6]) (by kernel_rfl) (by simp) ?_
  refine rdH rfl (fun K hK=>?_) ?_
  · go_simp
    go_at_call 12
    refine (of_any 0 1 1 2 _).mono ?_
    rintro e W1 ⟨rfl,hb⟩
    dsimp only
    have h:=b3.out a0 a2 W1 (hJb _ _ hj hb) (f3.below hb) (f5.below hb)
    rw [hFR] at h
    refine hK.out _ _ (hJb _ _ hj hb) (fun _=>?_)
    try simp only [pq]
    exact h
  refine rdH rfl (fun K hK=>?_) ?_
  · go_simp
    have h:=b8.out a0 W.heap.size a2 (W.alloc (.cells #[.int .i64 0,.int .i64 20,.int .i64 31,.int .i64 40] 3)) (hJa _ _ hj) (f3.alloc _) (rdI_new W [0,20,31,40] 4 rfl) (f5.alloc _)
    rw [hFR] at h
    refine hK.out _ _ (hJa _ _ hj) (fun _=>?_)
    try simp only [pq]
    exact h
  refine rdH rfl (fun K hK=>?_) ?_
  · go_simp
    have h:=c0.out a0 a2 W.heap.size (W.alloc (.cells #[.int .i64 0,.int .i64 (-95),.int .i64 (-115)] 3)) (hJa _ _ hj) (f3.alloc _) (f5.alloc _) (rdI_new W [0,-95,-115] 3 rfl)
    rw [hFR] at h
    refine hK.out _ _ (hJa _ _ hj) (fun _=>?_)
    try simp only [pq]
    exact h
  exact AllReadyH.nil
 have c7:=hid x_;clear x_
 have x_:∀ (a0 a3:Nat) (W:World),J W→RdI W (some ⟨a0,0,none⟩) 4 4 [0,11,31,36]→RdI W (some ⟨a3,0,none⟩) 3 3 [0,-95,-115]→wpAnyH Tryz.prog .any r10ops Q J 10 #[true,true,false,true,false,false,true,false,false,false,false,false,false,false] (FR s76 (.slice (some ⟨a0,0,none⟩) 4 4) (s78) (s79) (.slice (some ⟨a3,0,none⟩) 3 3)) W:=by
  intro a0 a3 W hj f3 f6
  rw [hFR]
  dsimp only
  refine wpAnyH_ready (rs:=[2,4,5]) (by kernel_rfl) (by simp) ?_
  refine rdH rfl (fun K hK=>?_) ?_
  · go_simp
    go_at_call 12
    refine (of_any 0 1 1 2 _).mono ?_
    rintro e W1 ⟨rfl,hb⟩
    dsimp only
    have h:=b4.out a0 a3 W1 (hJb _ _ hj hb) (f3.below hb) (f6.below hb)
    rw [hFR] at h
    refine hK.out _ _ (hJb _ _ hj hb) (fun _=>?_)
    try simp only [pq]
    exact h
  refine rdH rfl (fun K hK=>?_) ?_
  · go_simp
    have h:=b9.out a0 W.heap.size a3 (W.alloc (.cells #[.int .i64 0,.int .i64 20,.int .i64 31,.int .i64 40] 3)) (hJa _ _ hj) (f3.alloc _) (rdI_new W [0,20,31,40] 4 rfl) (f6.alloc _)
    rw [hFR] at h
    refine hK.out _ _ (hJa _ _ hj) (fun _=>?_)
    try simp only [pq]
    exact h
  refine rdH rfl (fun K hK=>?_) ?_
  · go_simp
    have h:=c0.out a0 W.heap.size a3 (W.alloc (.cells #[.int .i64 0,.int .i64 90,.int .i64 190] 3)) (hJa _ _ hj) (f3.alloc _) (rdI_new W [0,90,190] 3 rfl) (f6.alloc _)
    rw [hFR] at h
    refine hK.out _ _ (hJa _ _ hj) (fun _=>?_)
    try simp only [pq]
    exact h
  exact AllReadyH.nil
 have c8:=hid x_;clear x_
 have x_:∀ (a1 a2:Nat) (W:World),J W→RdI W (some ⟨a1,0,none⟩) 4 4 [0,20,31,40]→RdI W (some ⟨a2,0,none⟩) 3 3 [0,90,190]→wpAnyH Tryz.prog .any r10ops Q J 10 #[true,true,false,false,true,true,false,false,false,false,false,false,false,false] (FR s76 (s77) (.slice (some ⟨a1,0,none⟩) 4 4) (.slice (some ⟨a2,0,none⟩) 3 3) (s80)) W:=by
  intro a1 a2 W hj f4 f5
  rw [hFR]
  dsimp only
  refine wpAnyH_ready (rs:=[2,3,6]) (by kernel_rfl) (by simp) ?_
  refine rdH rfl (fun K hK=>?_) ?_
  · go_simp
    go_at_call 12
    refine (of_any 0 1 1 2 _).mono ?_
    rintro e W1 ⟨rfl,hb⟩
    dsimp only
    have h:=b5.out a1 a2 W1 (hJb _ _ hj hb) (f4.below hb) (f5.below hb)
    rw [hFR] at h
    refine hK.out _ _ (hJb _ _ hj hb) (fun _=>?_)
    try simp only [pq]
    exact h
  refine rdH rfl (fun K hK=>?_) ?_
  · go_simp
    have h:=b8.out W.heap.size a1 a2 (W.alloc (.cells #[.int .i64 0,.int .i64 11,.int .i64 31,.int .i64 36] 3)) (hJa _ _ hj) (rdI_new W [0,11,31,36] 4 rfl) (f4.alloc _) (f5.alloc _)
    rw [hFR] at h
    refine hK.out _ _ (hJa _ _ hj) (fun _=>?_)
    try simp only [pq]
    exact h
  refine rdH rfl (fun K hK=>?_) ?_
  · go_simp
    have h:=c1.out a1 a2 W.heap.size (W.alloc (.cells #[.int .i64 0,.int .i64 (-95),.int .i64 (-115)] 3)) (hJa _ _ hj) (f4.alloc _) (f5.alloc _) (rdI_new W [0,-95,-115] 3 rfl)
    rw [hFR] at h
    refine hK.out _ _ (hJa _ _ hj) (fun _=>?_)
    try simp only [pq]
    exact h
  exact AllReadyH.nil
 have c9:=hid x_;clear x_
 have x_:∀ (a1 a3:Nat) (W:World),J W→RdI W (some ⟨a1,0,none⟩) 4 4 [0,20,31,40]→RdI W (some ⟨a3,0,none⟩) 3 3 [0,-95,-115]→wpAnyH Tryz.prog .any r10ops Q J 10 #[true,true,false,false,true,false,true,false,false,false,false,false,false,false] (FR s76 (s77) (.slice (some ⟨a1,0,none⟩) 4 4) (s79) (.slice (some ⟨a3,0,none⟩) 3 3)) W:=by
  intro a1 a3 W hj f4 f6
  rw [hFR]
  dsimp only
  refine wpAnyH_ready (rs:=[2,3,5]) (by kernel_rfl) (by simp) ?_
  refine rdH rfl (fun K hK=>?_) ?_
  · go_simp
    go_at_call 12
    refine (of_any 0 1 1 2 _).mono ?_
    rintro e W1 ⟨rfl,hb⟩
    dsimp only
    have h:=b6.out a1 a3 W1 (hJb _ _ hj hb) (f4.below hb) (f6.below hb)
    rw [hFR] at h
    refine hK.out _ _ (hJb _ _ hj hb) (fun _=>?_)
    try simp only [pq]
    exact h
  refine rdH rfl (fun K hK=>?_) ?_
  · go_simp
    have h:=b9.out W.heap.size a1 a3 (W.alloc (.cells #[.int .i64 0,.int .i64 11,.int .i64 31,.int .i64 36] 3)) (hJa _ _ hj) (rdI_new W [0,11,31,36] 4 rfl) (f4.alloc _) (f6.alloc _)
    rw [hFR] at h
    refine hK.out _ _ (hJa _ _ hj) (fun _=>?_)
    try simp only [pq]
    exact h
  refine rdH rfl (fun K hK=>?_) ?_
  · go_simp
    have h:=c1.out a1 W.heap.size a3 (W.alloc (.cells #[.int .i64 0,.int .i64 90,.int .i64 190] 3)) (hJa _ _ hj) (f4.alloc _) (rdI_new W [0,90,190] 3 rfl) (f6.alloc _)
    rw [hFR] at h
    refine hK.out _ _ (hJa _ _ hj) (fun _=>?_)
    try simp only [pq]
    exact h
  exact AllReadyH.nil
 have d0:=hid x_;clear x_
 have x_:∀ (a2 a3:Nat) (W:World),J W→RdI W (some ⟨a2,0,none⟩) 3 3 [0,90,190]→RdI W (some ⟨a3,0,none⟩) 3 3 [0,-95,-115]→wpAnyH Tryz.prog .any r10ops Q J 10 #[true,true,false,false,false,true,true,false,false,false,false,false,false,false] (FR s76 (s77) (s78) (.slice (some ⟨a2,0,none⟩) 3 3) (.slice (some ⟨a3,0,none⟩) 3 3)) W:=by
  intro a2 a3 W hj f5 f6
  rw [hFR]
  dsimp only
  refine wpAnyH_ready (rs:=[2,3,4]) (by kernel_rfl) (by simp) ?_
  refine rdH rfl (fun K hK=>?_) ?_
  · go_simp
    go_at_call 12
    refine (of_any 0 1 1 2 _).mono ?_
    rintro e W1 ⟨rfl,hb⟩
    dsimp only
    have h:=b7.out a2 a3 W1 (hJb _ _ hj hb) (f5.below hb) (f6.below hb)
    rw [hFR] at h
    refine hK.out _ _ (hJb _ _ hj hb) (fun _=>?_)
    try simp only [pq]
    exact h
  refine rdH rfl (fun K hK=>?_) ?_
  · go_simp
    have h:=c0.out W.heap.size a2 a3 (W.alloc (.cells #[.int .i64 0,.int .i64 11,.int .i64 31,.int .i64 36] 3)) (hJa _ _ hj) (rdI_new W [0,11,31,36] 4 rfl) (f5.alloc _) (f6.alloc _)
    rw [hFR] at h
    refine hK.out _ _ (hJa _ _ hj) (fun _=>?_)
    try simp only [pq]
    exact h
  refine rdH rfl (fun K hK=>?_) ?_
  · go_simp
    have h:=c1.out W.heap.size a2 a3 (W.alloc (.cells #[.int .i64 0,.int .i64 20,.int .i64 31,.int .i64 40] 3)) (hJa _ _ hj) (rdI_new W [0,20,31,40] 4 rfl) (f5.alloc _) (f6.alloc _)
    rw [hFR] at h
    refine hK.out _ _ (hJa _ _ hj) (fun _=>?_)
    try simp only [pq]
    exact h
  exact AllReadyH.nil
 have d1:=hid x_;clear x_
 have x_:∀ (W:World),J W→wpAnyH Tryz.prog .any r10ops Q J 11 #[true,true,true,false,false,false,false,false,false,false,false,false,false,false] (FR (.agg #[.int .i64 0,.int .i64 1,.int .i64 1,.int .i64 2]) (s77) (s78) (s79) (s80)) W:=by
  intro W hj
  rw [hFR]
  dsimp only
  refine wpAnyH_ready (rs:=[3,4,5,6]) (by kernel_rfl) (by simp) ?_
  refine rdH rfl (fun K hK=>?_) ?_
  · go_simp
    have h:=c2.out W.heap.size (W.alloc (.cells #[.int .i64 0,.int .i64 11,.int .i64 31,.int .i64 36] 3)) (hJa _ _ hj) (rdI_new W [0,11,31,36] 4 rfl)
    rw [hFR] at h
    refine hK.out _ _ (hJa _ _ hj) (fun _=>?_)
    try simp only [pq]
    exact h
  refine rdH rfl (fun K hK=>?_) ?_
  · go_simp
    have h:=c3.out W.heap.size (W.alloc (.cells #[.int .i64 0,.int .i64 20,.int .i64 31,.int .i64 40] 3)) (hJa _ _ hj) (rdI_new W [0,20,31,40] 4 rfl)
    rw [hFR] at h
    refine hK.out _ _ (hJa _ _ hj) (fun _=>?_)
    try simp only [pq]
    exact h
  refine rdH rfl (fun K hK=>?_) ?_
  · go_simp
    have h:=c4.out W.heap.size (W.alloc (.cells #[.int .i64 0,.int .i64 90,.int .i64 190] 3)) (hJa _ _ hj) (rdI_new W [0,90,190] 3 rfl)
    rw [hFR] at h
    refine hK.out _ _ (hJa _ _ hj) (fun _=>?_)
    try simp only [pq]
    exact h
  refine rdH rfl (fun K hK=>?_) ?_
  · go_simp
    have h:=c5.out W.heap.size (W.alloc (.cells #[.int .i64 0,.int .i64 (-95),.int .i64 (-115)] 3)) (hJa _ _ hj) (rdI_new W [0,-95,-115] 3 rfl)
    rw [hFR] at h
    refine hK.out _ _ (hJa _ _ hj) (fun _=>?_)
    try simp only [pq]
    exact h
  exact AllReadyH.nil
 have d3:=hid x_;clear x_
 have x_:∀ (a0:Nat) (W:World),J W→RdI W (some ⟨a0,0,none⟩) 4 4 [0,11,31,36]→wpAnyH Tryz.prog .any r10ops Q J 11 #[true,true,false,true,false,false,false,false,false,false,false,false,false,false] (FR s76 (.slice (some ⟨a0,0,none⟩) 4 4) (s78) (s79) (s80)) W:=by
  intro a0 W hj f3
  rw [hFR]
  dsimp only
  refine wpAnyH_ready (rs:=[2,4,5,6]) (by kernel_rfl) (by simp) ?_
  refine rdH rfl (fun K hK=>?_) ?_
  · go_simp
    go_at_call 12
    refine (of_any 0 1 1 2 _).mono ?_
    rintro e W1 ⟨rfl,hb⟩
    dsimp only
    have h:=c2.out a0 W1 (hJb _ _ hj hb) (f3.below hb)
    rw [hFR] at h
    refine hK.out _ _ (hJb _ _ hj hb) (fun _=>?_)
    try simp only [pq]
    exact h
  refine rdH rfl (fun K hK=>?_) ?_
  · go_simp
    have h:=c6.out a0 W.heap.size (W.alloc (.cells #[.int .i64 0,.int .i64 20,.int .i64 31,.int .i64 40] 3)) (hJa _ _ hj) (f3.alloc _) (rdI_new W [0,20,31,40] 4 rfl)
    rw [hFR] at h
    refine hK.out _ _ (hJa _ _ hj) (fun _=>?_)
    try simp only [pq]
    exact h
  refine rdH rfl (fun K hK=>?_) ?_
  · go_simp
    have h:=c7.out a0 W.heap.size (W.alloc (.cells #[.int .i64 0,.int .i64 90,.int .i64 190] 3)) (hJa _ _ hj) (f3.alloc _) (rdI_new W [0,90,190] 3 rfl)
    rw [hFR] at h
    refine hK.out _ _ (hJa _ _ hj) (fun _=>?_)
    try simp only [pq]
    exact h
  refine rdH rfl (fun K hK=>?_) ?_
  · go_simp
    have h:=c8.out a0 W.heap.size (W.alloc (.cells #[.int .i64 0,.int .i64 (-95),.int .i64 (-115)] 3)) (hJa _ _ hj) (f3.alloc _) (rdI_new W [0,-95,-115] 3 rfl)
    rw [hFR] at h
    refine hK.out _ _ (hJa _ _ hj) (fun _=>?_)
    try simp only [pq]
    exact h
  exact AllReadyH.nil
 have d4:=hid x_;clear x_
 have x_:∀ (a1:Nat) (W:World),J W→RdI W (some ⟨a1,0,none⟩) 4 4 [0,20,31,40]→wpAnyH Tryz.prog .any r10ops Q J 11 #[true,true,false,false,true,false,false,false,false,false,false,false,false,false] (FR s76 (s77) (.slice (some ⟨a1,0,none⟩) 4 4) (s79) (s80)) W:=by
  intro a1 W hj f4
  rw [hFR]
  dsimp only
  refine wpAnyH_ready (rs:=[2,3,5,6]) (by kernel_rfl) (by simp) ?_
  refine rdH rfl (fun K hK=>?_) ?_
  · go_simp
    go_at_call 12
    refine (of_any 0 1 1 2 _).mono ?_
    rintro e W1 ⟨rfl,hb⟩
    dsimp only
    have h:=c3.out a1 W1 (hJb _ _ hj hb) (f4.below hb)
    rw [hFR] at h
    refine hK.out _ _ (hJb _ _ hj hb) (fun _=>?_)
    try simp only [pq]
    exact h
  refine rdH rfl (fun K hK=>?_) ?_
  · go_simp
    have h:=c6.out W.heap.size a1 (W.alloc (.cells #[.int .i64 0,.int .i64 11,.int .i64 31,.int .i64 36] 3)) (hJa _ _ hj) (rdI_new W [0,11,31,36] 4 rfl) (f4.alloc _)
    rw [hFR] at h
    refine hK.out _ _ (hJa _ _ hj) (fun _=>?_)
    try simp only [pq]
    exact h
  refine rdH rfl (fun K hK=>?_) ?_
  · go_simp
    have h:=c9.out a1 W.heap.size (W.alloc (.cells #[.int .i64 0,.int .i64 90,.int .i64 190] 3)) (hJa _ _ hj) (f4.alloc _) (rdI_new W [0,90,190] 3 rfl)
    rw [hFR] at h
    refine hK.out _ _ (hJa _ _ hj) (fun _=>?_)
    try simp only [pq]
    exact h
  refine rdH rfl (fun K hK=>?_) ?_
  · go_simp
    have h:=d0.out a1 W.heap.size (W.alloc (.cells #[.int .i64 0,.int .i64 (-95),.int .i64 (-115)] 3)) (hJa _ _ hj) (f4.alloc _) (rdI_new W [0,-95,-115] 3 rfl)
    rw [hFR] at h
    refine hK.out _ _ (hJa _ _ hj) (fun _=>?_)
    try simp only [pq]
    exact h
  exact AllReadyH.nil
 have d5:=hid x_;clear x_
 have x_:∀ (a2:Nat) (W:World),J W→RdI W (some ⟨a2,0,none⟩) 3 3 [0,90,190]→wpAnyH Tryz.prog .any r10ops Q J 11 #[true,true,false,false,false,true,false,false,false,false,false,false,false,false] (FR s76 (s77) (s78) (.slice (some ⟨a2,0,none⟩) 3 3) (s80)) W:=by
  intro a2 W hj f5
  rw [hFR]
  dsimp only
  refine wpAnyH_ready (rs:=[2,3,4,6]) (by kernel_rfl) (by simp) ?_
  refine rdH rfl (fun K hK=>?_) ?_
  · go_simp
    go_at_call 12
    refine (of_any 0 1 1 2 _).mono ?_
    rintro e W1 ⟨rfl,hb⟩
    dsimp only
    have h:=c4.out a2 W1 (hJb _ _ hj hb) (f5.below hb)
    rw [hFR] at h
    refine hK.out _ _ (hJb _ _ hj hb) (fun _=>?_)
    try simp only [pq]
    exact h
  refine rdH rfl (fun K hK=>?_) ?_
  · go_simp
    have h:=c7.out W.heap.size a2 (W.alloc (.cells #[.int .i64 0,.int .i64 11,.int .i64 31,.int .i64 36] 3)) (hJa _ _ hj) (rdI_new W [0,11,31,36] 4 rfl) (f5.alloc _)
    rw [hFR] at h
    refine hK.out _ _ (hJa _ _ hj) (fun _=>?_)
    try simp only [pq]
    exact h
  refine rdH rfl (fun K hK=>?_) ?_
  · go_simp
    have h:=c9.out W.heap.size a2 (W.alloc (.cells #[.int .i64 0,.int .i64 20,.int .i64 31,.int .i64 40] 3)) (hJa _ _ hj) (rdI_new W [0,20,31,40] 4 rfl) (f5.alloc _)
    rw [hFR] at h
    refine hK.out _ _ (hJa _ _ hj) (fun _=>?_)
    try simp only [pq]
    exact h
  refine rdH rfl (fun K hK=>?_) ?_
  · go_simp
    have h:=d1.out a2 W.heap.size (W.alloc (.cells #[.int .i64 0,.int .i64 (-95),.int .i64 (-115)] 3)) (hJa _ _ hj) (f5.alloc _) (rdI_new W [0,-95,-115] 3 rfl)
    rw [hFR] at h
    refine hK.out _ _ (hJa _ _ hj) (fun _=>?_)
    try simp only [pq]
    exact h
  exact AllReadyH.nil
 have d6:=hid x_;clear x_
 have x_:∀ (a3:Nat) (W:World),J W→RdI W (some ⟨a3,0,none⟩) 3 3 [0,-95,-115]→wpAnyH Tryz.prog .any r10ops Q J 11 #[true,true,false,false,false,false,true,false,false,false,false,false,false,false] (FR s76 (s77) (s78) (s79) (.slice (some ⟨a3,0,none⟩) 3 3)) W:=by
  intro a3 W hj f6
  rw [hFR]
  dsimp only
  refine wpAnyH_ready (rs:=[2,3,4,5]) (by kernel_rfl) (by simp) ?_
  refine rdH rfl (fun K hK=>?_) ?_
  · go_simp
    go_at_call 12
    refine (of_any 0 1 1 2 _).mono ?_
    rintro e W1 ⟨rfl,hb⟩
    dsimp only
    have h:=c5.out a3 W1 (hJb _ _ hj hb) (f6.below hb)
    rw [hFR] at h
    refine hK.out _ _ (hJb _ _ hj hb) (fun _=>?_)
    try simp only [pq]
    exact h
  refine rdH rfl (fun K hK=>?_) ?_
  · go_simp
    have h:=c8.out W.heap.size a3 (W.alloc (.cells #[.int .i64 0,.int .i64 11,.int .i64 31,.int .i64 36] 3)) (hJa _ _ hj) (rdI_new W [0,11,31,36] 4 rfl) (f6.alloc _)
    rw [hFR] at h
    refine hK.out _ _ (hJa _ _ hj) (fun _=>?_)
    try simp only [pq]
    exact h
  refine rdH rfl (fun K hK=>?_) ?_
  · go_simp
    have h:=d0.out W.heap.size a3 (W.alloc (.cells #[.int .i64 0,.int .i64 20,.int .i64 31,.int .i64 40] 3)) (hJa _ _ hj) (rdI_new W [0,20,31,40] 4 rfl) (f6.alloc _)
    rw [hFR] at h
    refine hK.out _ _ (hJa _ _ hj) (fun _=>?_)
    try simp only [pq]
    exact h
  refine rdH rfl (fun K hK=>?_) ?_
  · go_simp
    have h:=d1.out W.heap.size a3 (W.alloc (.cells #[.int .i64 0,.int .i64 90,.int .i64 190] 3)) (hJa _ _ hj) (rdI_new W [0,90,190] 3 rfl) (f6.alloc _)
    rw [hFR] at h
    refine hK.out _ _ (hJa _ _ hj) (fun _=>?_)
    try simp only [pq]
    exact h
  exact AllReadyH.nil
 have d7:=hid x_;clear x_
 have x_:∀ (W:World),J W→wpAnyH Tryz.prog .any r10ops Q J 12 #[true,true,false,false,false,false,false,false,false,false,false,false,false,false] (FR s76 (s77) (s78) (s79) (s80)) W:=by
  intro W hj
  rw [hFR]
  dsimp only
  refine wpAnyH_ready (rs:=[2,3,4,5,6]) (by kernel_rfl) (by simp) ?_
  refine rdH rfl (fun K hK=>?_) ?_
  · go_simp
    go_at_call 12
    refine (of_any 0 1 1 2 _).mono ?_
    rintro e W1 ⟨rfl,hb⟩
    dsimp only
    have h:=d3.out  W1 (hJb _ _ hj hb) 
    rw [hFR] at h
    refine hK.out _ _ (hJb _ _ hj hb) (fun _=>?_)
    try simp only [pq]
    exact h
  refine rdH rfl (fun K hK=>?_) ?_
  · go_simp
    have h:=d4.out W.heap.size (W.alloc (.cells #[.int .i64 0,.int .i64 11,.int .i64 31,.int .i64 36] 3)) (hJa _ _ hj) (rdI_new W [0,11,31,36] 4 rfl)
    rw [hFR] at h
    refine hK.out _ _ (hJa _ _ hj) (fun _=>?_)
    try simp only [pq]
    exact h
  refine rdH rfl (fun K hK=>?_) ?_
  · go_simp
    have h:=d5.out W.heap.size (W.alloc (.cells #[.int .i64 0,.int .i64 20,.int .i64 31,.int .i64 40] 3)) (hJa _ _ hj) (rdI_new W [0,20,31,40] 4 rfl)
    rw [hFR] at h
    refine hK.out _ _ (hJa _ _ hj) (fun _=>?_)
    try simp only [pq]
    exact h
  refine rdH rfl (fun K hK=>?_) ?_
  · go_simp
    have h:=d6.out W.heap.size (W.alloc (.cells #[.int .i64 0,.int .i64 90,.int .i64 190] 3)) (hJa _ _ hj) (rdI_new W [0,90,190] 3 rfl)
    rw [hFR] at h
    refine hK.out _ _ (hJa _ _ hj) (fun _=>?_)
    try simp only [pq]
    exact h
  refine rdH rfl (fun K hK=>?_) ?_
  · go_simp
    have h:=d7.out W.heap.size (W.alloc (.cells #[.int .i64 0,.int .i64 (-95),.int .i64 (-115)] 3)) (hJa _ _ hj) (rdI_new W [0,-95,-115] 3 rfl)
    rw [hFR] at h
    refine hK.out _ _ (hJa _ _ hj) (fun _=>?_)
    try simp only [pq]
    exact h
  exact AllReadyH.nil
 have HJ0:=hid hj0;clear hj0
 refine' tkH 0 HJ0.out ?d8 ?_ (hQ:=fun _ _ _ h=>hQp _ _ _ _ _ h)
 case d8=>(rintro W' hS0;have hS1:=(hJ W' hS0).1;clear hS0;have z0:W'.cell? ⟨Ba,0,none⟩=some (.int .i64 3):=Blk.cell hS1 0;have z1:W'.cell? ⟨Ba,1,none⟩=some (.slice A 6 6):=Blk.cell hS1 1;have z2:W'.cell? ⟨Ba,2,none⟩=some (.slice B 4 4):=Blk.cell hS1 2;clear hS1;go_simp;try with_reducible rfl)
 refine' tkH 1 HJ0.out ?d9 ?_ (hQ:=fun _ _ _ h=>hQp _ _ _ _ _ h)
 case d9=>(rintro W' hS0;have hS1:=(hJ W' hS0).2.1;clear hS0;have z0:W'.cell? ⟨Bb,0,none⟩=some (.int .i64 3):=Blk.cell hS1 0;have z1:W'.cell? ⟨Bb,1,none⟩=some (.slice C 6 6):=Blk.cell hS1 1;have z2:W'.cell? ⟨Bb,2,none⟩=some (.slice D 4 4):=Blk.cell hS1 2;clear hS1;go_simp;try with_reducible rfl)
 have h:=x_ W0 HJ0.out
 rw [hFR] at h
 exact h
end Go.Proofs.YtebkniakflhhkaaGreatDoor
