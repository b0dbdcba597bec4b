import Derived.Test.YtokpblmgdmokoaaGreatAMem
import Derived.Test.YtokpblmgdmokoaaGreatProg
import Derived.BigQuiet
import Derived.Deep.RegionHeld3
import Derived.Deep.WholeRow
import Derived.Lib.Hide
import Derived.OwnWalkIn
import Derived.WalkLawsBesides
import Derived.WalkSpells
set_option linter.unusedSimpArgs false
set_option linter.unusedVariables false
namespace Go.Proofs.YtokpblmgdmokoaaGreat
open Go.Lib (hid)
structure Itm where
 id:Int
 known:Int
 kind:Int
 ware:ByteArray
 pit:Int
 layer:Int
 corners:Int
 foot:Bool
 sherd:Int
 fro:Int
 to_:Int
 low:Int
 high:Int
 set_:ByteArray
 limit:Int
 of_:Int
def inR (n lo hi:Int):Bool:=decide (lo≤n)&&decide (n≤hi)
def letZ (c:Int):Bool:=inR c 97 122
def chZ (c:UInt8):Bool:=letZ c.toNat || decide ((c.toNat:Int)=45) || inR c.toNat 48 57
def nameB (s:ByteArray):Bool:=inR s.size 1 24&&(s.data.toList.head?.any fun c=>letZ c.toNat)&&s.data.toList.all chZ
def ascB:Int→List UInt8→Bool
 | _,[]=>true
 | b,c::l=>decide (b<c.toNat)&&decide ((c.toNat:Int)≤122)&&ascB c.toNat l
def setB (s:ByteArray):Bool:=!s.data.toList.isEmpty&&ascB 96 s.data.toList
def Itm.val (x:Itm):Value:=.agg #[.int .i64 x.id,.int .i64 x.known,.int .u8 x.kind,.string x.ware,.int .i64 x.pit,.int .i64 x.layer,.int .i64 x.corners,.bool x.foot,
 .int .i64 x.sherd,.int .i64 x.fro,.int .i64 x.to_,.int .i64 x.low,.int .i64 x.high,.string x.set_,.int .i64 x.limit,.int .i64 x.of_]
instance:DecidableEq Itm:=fun a b=>by
 rcases a with ⟨a1,a2,a3,a4,a5,a6,a7,a8,a9,a10,a11,a12,a13,a14,a15,a16⟩
 rcases b with ⟨b1,b2,b3,b4,b5,b6,b7,b8,b9,b10,b11,b12,b13,b14,b15,b16⟩
 simp only [Itm.mk.injEq]
 infer_instance
open Go.RowKit
theorem swithin_any (n lo hi:Int) (w:World) :
 Calls Tryz.prog 130 #[.int .i64 n,.int .i64 lo,.int .i64 hi] w fun e w'=>e=.returned (.bool (inR n lo hi))∧w=w':=by
 by_cases h:lo≤n
 · go_enter Tryz.func130,Tryz.ntmps130
   go_wp2
   go_ret
   exact ⟨by simp [inR,h],rfl⟩
 · go_enter Tryz.func130,Tryz.ntmps130
   go_wp2
   go_ret
   exact ⟨by simp [inR,h];try omega,rfl⟩
theorem sisId_any (n:Int) (w:World) :
 Calls Tryz.prog 129 #[.int .i64 n] w fun e w'=>e=.returned (.bool (inR n 1 1000000))∧w=w':=by
 have hw:=swithin_any n 1 1000000
 go_enter Tryz.func129,Tryz.ntmps129
 go_wp2_with (go_at_call 130;refine (hw _).mono ?_;rintro e w' ⟨rfl,rfl⟩)
 go_ret
 exact ⟨rfl,rfl⟩
theorem sisLetter_any (c:Int) (w:World) :
 Calls Tryz.prog 166 #[.int .u8 c] w fun e w'=>e=.returned (.bool (letZ c))∧w=w':=by
 by_cases h:97≤c
 · go_enter Tryz.func166,Tryz.ntmps166
   go_wp2
   go_ret
   exact ⟨by simp [letZ,inR,h],rfl⟩
 · go_enter Tryz.func166,Tryz.ntmps166
   go_wp2
   go_ret
   exact ⟨by simp [letZ,inR,h];try omega,rfl⟩
theorem take_snocB (s:ByteArray) (k:Nat) (h:k<s.size):s.data.toList.take (k+1)=s.data.toList.take k++[s[k]]:=by
 rw [List.take_succ_eq_append_getElem (by simpa using h)];rfl
theorem sisLetter_is (c:Int) (b:Bool) (h:letZ c=b) (w:World) :
 Calls Tryz.prog 166 #[.int .u8 c] w fun e w'=>e=.returned (.bool b)∧w=w':=by
 subst h
 exact sisLetter_any c w
theorem nameB_eq (s:ByteArray) (h1:1≤s.size) (h2:s.size≤24) (h3:letZ (s[0].toNat:Int)=true):nameB s=s.data.toList.all chZ:=by
 have e:s.data.toList.head?=some s[0]:=by rw [List.head?_eq_getElem?,List.getElem?_eq_getElem (by simpa using (show 0<s.size by omega))];rfl
 simp [nameB,inR,e,h3]
 omega
theorem nameB_no (s:ByteArray) (h1:1≤s.size) (h3:letZ (s[0].toNat:Int)=false):nameB s=false:=by
 have e:s.data.toList.head?=some s[0]:=by rw [List.head?_eq_getElem?,List.getElem?_eq_getElem (by simpa using (show 0<s.size by omega))];rfl
 simp [nameB,e,h3]
theorem all_byte (s:ByteArray) (k:Nat) (h:k<s.size) (hc:chZ s[k]=false):s.data.toList.all chZ=false:=by
 rw [← Bool.not_eq_true,List.all_eq_true]
 intro ha
 have:=ha s[k] (by have:s[k]=s.data.toList[k]'(by simpa using h):=rfl;rw [this];exact List.getElem_mem _)
 rw [hc] at this
 cases this
set_option maxHeartbeats 2000000 in
theorem sisName_any (s:ByteArray) (w:World) :
 Calls Tryz.prog 144 #[.string s] w fun e w'=>e=.returned (.bool (nameB s))∧w=w':=by
 by_cases h1:s.size<1
 · go_enter Tryz.func144,Tryz.ntmps144
   go_wp2
   go_ret
   exact ⟨by simp [nameB,inR];omega,rfl⟩
 by_cases h2:24<s.size
 · go_enter Tryz.func144,Tryz.ntmps144
   go_wp2
   go_ret
   exact ⟨by simp [nameB,inR];omega,rfl⟩
 have h0:0<s.size:=by omega
 cases h3:letZ (s[0].toNat:Int)
 · have hl:=nameB_no s (by omega) h3
   have HN:=hid hl;clear hl
   have HL:=hid (fun w=>sisLetter_is _ _ h3 w);clear h3
   go_enter Tryz.func144,Tryz.ntmps144
   go_wp2_with (go_at_call 166;refine (HL.out _).mono ?_;rintro e w' ⟨rfl,rfl⟩)
   go_ret
   exact ⟨ret_bool HN.out.symm,rfl⟩
 · have hl:=nameB_eq s (by omega) (by omega) h3
   have HN:=hid hl;clear hl
   have HL:=hid (fun w=>sisLetter_is _ _ h3 w);clear h3
   go_enter Tryz.func144,Tryz.ntmps144
   go_wp2_with (go_at_call 166;refine (HL.out _).mono ?_;rintro e w' ⟨rfl,rfl⟩)
   go_loop [21] (fun i=>∃ k:Nat,k≤s.size∧i=.int .i64 k∧(s.data.toList.take k).all chZ=true) (fun i=>s.size-(intOf i).toNat)
   case atStart=>exact ⟨0,Nat.zero_le _,rfl,by simp⟩
   case round =>
    obtain ⟨k,hk,rfl,ha⟩:=hrel
    by_cases hlt:k<s.size
    · have hts:=take_snocB s k hlt
      have HT:=hid hts;clear hts
      have HA:=hid ha;clear ha
      have hk0:0≤(s[k].toNat:Int):=by omega
      cases hl:letZ (s[k].toNat:Int)
      · have HK:=hid (fun w=>sisLetter_is _ _ hl w)
        by_cases h45:(s[k].toNat:Int)=45
        · have hc:chZ s[k]=true:=by simp [chZ,h45]
          have HC:=hid hc;clear hc hl
          have h45':((s[k].toNat:Int) != 45)=false:=by simp [h45]
          clear h45
          go_wp2_with (go_at_call 166;refine (HK.out _).mono ?_;rintro e w' ⟨rfl,rfl⟩)
          go_round
          case rel=>exact ⟨k+1,by omega,by go_num,by rw [HT.out,List.all_append,HA.out];simp [HC.out]⟩
          case measure=>simp [intOf];omega
        · have h45':((s[k].toNat:Int) != 45)=true:=by simpa using h45
          by_cases h48:(s[k].toNat:Int)<48
          · have hc:chZ s[k]=false:=by simp [chZ,hl,h45,inR];omega
            have HC:=hid hc;clear hc hl h45
            go_wp2_with (go_at_call 166;refine (HK.out _).mono ?_;rintro e w' ⟨rfl,rfl⟩)
            go_ret
            exact ⟨ret_bool (by rw [HN.out];exact (all_byte s k hlt HC.out).symm),rfl⟩
          · by_cases h57:57<(s[k].toNat:Int)
            · have hc:chZ s[k]=false:=by simp [chZ,hl,h45,inR];omega
              have HC:=hid hc;clear hc hl h45
              go_wp2_with (go_at_call 166;refine (HK.out _).mono ?_;rintro e w' ⟨rfl,rfl⟩)
              go_ret
              exact ⟨ret_bool (by rw [HN.out];exact (all_byte s k hlt HC.out).symm),rfl⟩
            · have hc:chZ s[k]=true:=by simp [chZ,hl,h45,inR];omega
              have HC:=hid hc;clear hc hl h45
              go_wp2_with (go_at_call 166;refine (HK.out _).mono ?_;rintro e w' ⟨rfl,rfl⟩)
              go_round
              case rel=>exact ⟨k+1,by omega,by go_num,by rw [HT.out,List.all_append,HA.out];simp [HC.out]⟩
              case measure=>simp [intOf];omega
      · have HK:=hid (fun w=>sisLetter_is _ _ hl w)
        have hc:chZ s[k]=true:=by simp [chZ,hl]
        have HC:=hid hc;clear hc hl
        go_wp2_with (go_at_call 166;refine (HK.out _).mono ?_;rintro e w' ⟨rfl,rfl⟩)
        go_round
        case rel=>exact ⟨k+1,by omega,by go_num,by rw [HT.out,List.all_append,HA.out];simp [HC.out]⟩
        case measure=>simp [intOf];omega
    · obtain rfl:k=s.size:=by omega
      have HA:=hid ha;clear ha
      go_wp2
      go_ret
      exact ⟨ret_bool (by rw [HN.out];have:=HA.out;rw [List.take_of_length_le (by simp)] at this;exact this.symm),rfl⟩
end Go.Proofs.YtokpblmgdmokoaaGreat
