/- The reference's Nums, parts, ParseNums. -/
import Derived.RegionTactic
import Derived.BigRegion
import Derived.Test.YtkpnheenacchhaaGreatDoorJbf
import Derived.Test.YtkpnheenacchhaaGreatDoorJbl
import Derived.Test.YtkpnheenacchhaaGreatDoorJbh
import Derived.Test.YtkpnheenacchhaaGreatDoorJaj
set_option linter.unusedSimpArgs false
set_option linter.unusedVariables false
namespace Go.Proofs.YtkpnheenacchhaaGreatDoor
open Go.RowKit
/-! parts: between commas -/
theorem Rd.grew {w w':World} {A:Option Addr} {xs:List Value} (h:Rd w w.heap.size A xs) (hb:Grew w w'):Rd w' w'.heap.size A xs:=(h.below hb).more hb.size
end Go.Proofs.YtkpnheenacchhaaGreatDoor
