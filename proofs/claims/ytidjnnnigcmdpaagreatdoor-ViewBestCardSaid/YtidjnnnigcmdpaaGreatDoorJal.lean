/- What is known of the one-time signatures: the walk. -/
import Derived.Deep.RegionWith
import Derived.Test.YtidjnnnigcmdpaaGreatDoorJaj
import Derived.Deep.QuietTactic
import Derived.BigQuiet
set_option linter.unusedSimpArgs false
set_option linter.unusedVariables false
set_option linter.unnecessarySimpa false
namespace Go.Proofs.YtidjnnnigcmdpaaGreatDoor
open Go.RowKit
end Go.Proofs.YtidjnnnigcmdpaaGreatDoor
