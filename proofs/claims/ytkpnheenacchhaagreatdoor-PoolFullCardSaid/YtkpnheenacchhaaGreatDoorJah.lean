/- Contracts of package merkle: the count of leaves. -/
import Derived.Test.YtkpnheenacchhaaGreatDoorJag
import Derived.Test.YtkpnheenacchhaaGreatDoorJae
set_option linter.unusedSimpArgs false
set_option linter.unusedVariables false
namespace Go.Proofs.YtkpnheenacchhaaGreatDoor
open Go.RowKit
def tagMt:List UInt8:=[109,116]
def tagSk:List UInt8:=[115,107]
noncomputable def secN (seed leaf:Int) (k:Nat):Nat:=twoN tagSk seed.toNat ((32*leaf+k)%18446744073709551616).toNat
end Go.Proofs.YtkpnheenacchhaaGreatDoor
