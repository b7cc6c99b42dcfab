/- slices.Sort at []int64, in plain words. -/
import Derived.Shelf.SortM.Plain
import Derived.Shelf.SortM.SortNone
import Derived.Ground.SlgmProg
import Derived.Shelf.SlGeneric
import Derived.Test.YtidjnnnigcmdpaaGreatDoorProg
import Derived.Sort.OwnSorted
import Derived.Lib.SlKeysI
import Derived.Test.YtidjnnnigcmdpaaGreatDoorJbc
import Derived.Laws.MakeOwn
import Derived.Test.YtidjnnnigcmdpaaGreatDoorJaa
import Derived.Test.YtidjnnnigcmdpaaGreatDoorJbd
import Derived.Test.YtidjnnnigcmdpaaGreatDoorJav
import Derived.Test.YtidjnnnigcmdpaaGreatDoorJba
import Derived.Test.YtidjnnnigcmdpaaGreatDoorJan
set_option linter.unusedSimpArgs false
set_option linter.unusedVariables false
set_option linter.unnecessarySimpa false
namespace Go.Proofs.YtidjnnnigcmdpaaGreatDoor
open Go.Shelf Go.Lib Go.Sort Go.RowKit
end Go.Proofs.YtidjnnnigcmdpaaGreatDoor
namespace Go.Proofs.YtidjnnnigcmdpaaGreatDoor
open Go.RowKit
theorem zhc {w:World} {b:Nat} {f:Int} (h:Ag w b (#[.int .i64 f]:Array Value).toList):w.rangeAt b 0 [.int .i64 f]:=h.cell
end Go.Proofs.YtidjnnnigcmdpaaGreatDoor
