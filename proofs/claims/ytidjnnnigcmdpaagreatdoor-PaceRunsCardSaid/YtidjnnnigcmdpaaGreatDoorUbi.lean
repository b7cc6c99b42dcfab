/- The reference's ParseNum. -/
import Derived.Deep.DeepCutAuto
import Derived.Deep.CutBlock
import Derived.Test.YtidjnnnigcmdpaaGreatDoorUbc
import Derived.Test.YtidjnnnigcmdpaaGreatDoorUan
import Derived.Test.YtidjnnnigcmdpaaGreatDoorUbd
import Derived.Test.YtidjnnnigcmdpaaGreatDoorUbe
import Derived.Test.YtidjnnnigcmdpaaGreatDoorUag
import Derived.Laws.MakeOwn
import Derived.RegionTactic
import Derived.BigRegion
import Derived.Test.YtidjnnnigcmdpaaGreatDoorUaj
set_option linter.unusedSimpArgs false
set_option linter.unusedVariables false
set_option linter.unnecessarySimpa false
namespace Go.Proofs.YtidjnnnigcmdpaaGreatDoor
open Go.RowKit
/-! parts: between commas -/
theorem Rd.grew {w w':World} {A:Option Addr} {xs:List Value} (h:Rd w w.heap.size A xs) (hb:Grew w w'):Rd w' w'.heap.size A xs:=(h.below hb).more hb.size
end Go.Proofs.YtidjnnnigcmdpaaGreatDoor
