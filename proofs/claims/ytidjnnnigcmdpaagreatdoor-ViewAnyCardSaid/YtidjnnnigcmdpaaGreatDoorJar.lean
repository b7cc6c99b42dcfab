/- Rows whose elements are several cells: copy; a row with one put in. -/
import Derived.Lib.AppendZerosOnto
import Derived.Lib.Overlaps
import Derived.Laws.CopyRow
import Derived.Test.YtidjnnnigcmdpaaGreatDoorJap
set_option linter.unusedSimpArgs false
set_option linter.unusedVariables false
set_option linter.unnecessarySimpa false
namespace Go.Proofs.YtidjnnnigcmdpaaGreatDoor
open Go.RowKit
end Go.Proofs.YtidjnnnigcmdpaaGreatDoor
