/- The reference's ParseNum. -/
import Derived.Deep.DeepCutAuto
import Derived.Deep.CutBlock
import Derived.Test.YtidjnnnigcmdpaaGreatDoorJaz
import Derived.Test.YtidjnnnigcmdpaaGreatDoorJam
import Derived.Test.YtidjnnnigcmdpaaGreatDoorJba
import Derived.Test.YtidjnnnigcmdpaaGreatDoorJbd
import Derived.Test.YtidjnnnigcmdpaaGreatDoorJaf
import Derived.Laws.MakeOwn
import Derived.RegionTactic
import Derived.BigRegion
import Derived.Test.YtidjnnnigcmdpaaGreatDoorJai
set_option linter.unusedSimpArgs false
set_option linter.unusedVariables false
set_option linter.unnecessarySimpa false
namespace Go.Proofs.YtidjnnnigcmdpaaGreatDoor
open Go.RowKit
/-! parts: between commas -/
theorem Rd.grew {w w':World} {A:Option Addr} {xs:List Value} (h:Rd w w.heap.size A xs) (hb:Grew w w'):Rd w' w'.heap.size A xs:=(h.below hb).more hb.size
end Go.Proofs.YtidjnnnigcmdpaaGreatDoor
