import Derived.Shelf.SlSortCmp.NoneTotal
import Derived.Test.YtebkniakflhhkaaGreatDoorAEShared
import Derived.Test.YtebkniakflhhkaaGreatDoorAEList
import Derived.Test.YtebkniakflhhkaaGreatDoorAEWith
set_option linter.unusedSimpArgs false
set_option linter.unusedVariables false
namespace Go.Proofs.YtebkniakflhhkaaGreatDoor
def fW:List Bnd:=[⟨0,1,12,1⟩,⟨1,0,-10,1⟩,⟨1,2,22,2⟩,⟨2,1,-20,2⟩,⟨2,3,5,3⟩,⟨3,2,-5,3⟩]
def fT:List Bnd:=[⟨0,1,100,4⟩,⟨1,0,-90,4⟩,⟨1,2,140,5⟩,⟨2,1,-100,5⟩]
def sW:List Bnd:=[⟨0,1,25,6⟩,⟨1,0,-20,6⟩,⟨1,2,15,7⟩,⟨2,1,-11,7⟩,⟨2,3,9,8⟩,⟨3,2,-9,8⟩]
def sT:List Bnd:=[⟨0,1,-95,9⟩,⟨1,0,120,9⟩,⟨1,2,-20,10⟩,⟨2,1,30,10⟩]
def fO:Otl:=⟨3,fW,fT⟩
def sO:Otl:=⟨3,sW,sT⟩
def cO:Otl:=⟨3,sW,sT++[⟨0,1,-101,11⟩]⟩
theorem jn_meets:meetsV fO sO ⟨0,2,0,2⟩=(true,0):=by decide +kernel
theorem jn_not:meetsV fO sO ⟨0,1,0,1⟩=(false,0):=by decide +kernel
theorem jn_shared:sharedV fO sO ⟨0,1,1,2⟩=(11,12,0):=by decide +kernel
theorem jn_both:both fO sO=0:=by decide +kernel
theorem jn_all:allL fO sO (mostN fO sO)=[⟨0,1,1,2⟩,⟨1,2,0,1⟩,⟨0,2,0,2⟩]:=by decide +kernel
theorem jn_long:longV fO sO=(2,0):=by decide +kernel
theorem jn_withE:withE true sO ⟨0,1,-101,11⟩=0:=by decide +kernel
theorem jn_with:withO true sO ⟨0,1,-101,11⟩=cO:=by decide +kernel
theorem jn_clash:(clashV fO cO ⟨0,2,0,2⟩).2=0∧(clashV fO cO ⟨0,2,0,2⟩).1.2=(true,true)∧(clashV fO cO ⟨0,2,0,2⟩).1.1.length=2:=by decide +kernel
theorem jn_place:checkPlaceV fO sO ⟨0,1,1,2⟩ [0,11,31,36] [0,20,31,40] [0,90,190] [0,-95,-115]=(true,0):=by decide +kernel
theorem jn_rests:erestsV false fO sO ⟨0,1,0,1⟩ [0,7]=([1,6],0):=by decide +kernel
end Go.Proofs.YtebkniakflhhkaaGreatDoor
