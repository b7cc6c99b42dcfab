/- empty -/
import Derived.Test.YtidjnnnigcmdpaaGreatDoorJaw
import Derived.Test.YtidjnnnigcmdpaaGreatDoorJax
import Derived.Test.YtidjnnnigcmdpaaGreatDoorJat
import Derived.Test.YtidjnnnigcmdpaaGreatDoorJaa
import Derived.Laws.MakeOwn
import Derived.Test.YtidjnnnigcmdpaaGreatDoorJag
import Derived.Test.YtidjnnnigcmdpaaGreatDoorJba
set_option linter.unusedSimpArgs false
set_option linter.unusedVariables false
set_option linter.unnecessarySimpa false
namespace Go.Proofs.YtidjnnnigcmdpaaGreatDoor
open Go.RowKit
def hexB (n:Nat):ByteArray:=⟨(hexL n).toArray⟩
def digs (l:List Nat):List UInt8:=joinC (l.map hexL)
def U64n (n:Nat):Prop:=n<18446744073709551616
theorem kj (n:Nat) (h:U64n n) (w:World) (hs:Std w):Calls Tryz.prog 83 #[.int .u64 (n:Nat)] w fun e w'=>e=.returned (.string (hexB n))∧Grew w w':=by
 have:=zhp (n:Int) ⟨by omega,by unfold U64n at h;omega⟩ w
 rwa [Int.toNat_natCast]at this
open Go.Shelf
attribute [local go_sem] Oper.semAt_some
def allD (l:List (List UInt8)):Prop:=∀ x∈l,parseO x≠none
instance (l:List (List UInt8)):Decidable (allD l):=by unfold allD;infer_instance
end Go.Proofs.YtidjnnnigcmdpaaGreatDoor
