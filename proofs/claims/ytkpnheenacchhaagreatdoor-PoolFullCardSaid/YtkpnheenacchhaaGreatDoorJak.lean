/- Contracts of ots.advanced, at its three uses. -/
import Derived.StillTailTactics
import Derived.Test.YtkpnheenacchhaaGreatDoorJah
set_option linter.unusedSimpArgs false
set_option linter.unusedVariables false
namespace Go.Proofs.YtkpnheenacchhaaGreatDoor
open Go.RowKit
def tagOt:List UInt8:=[111,116]
noncomputable def advF (s d:Nat→Nat) (k:Nat):Nat:=chainI tagOt (s k) (d k:Nat)
def tagPk:List UInt8:=[112,107]
noncomputable def foldN (f:Nat→Nat):Nat→Nat
 | 0=>0
 | k+1=>twoN tagPk (foldN f k) (f k)
noncomputable def pubN (s:Nat→Nat):Nat:=foldN (advF s fun _=>15) 18
end Go.Proofs.YtkpnheenacchhaaGreatDoor
