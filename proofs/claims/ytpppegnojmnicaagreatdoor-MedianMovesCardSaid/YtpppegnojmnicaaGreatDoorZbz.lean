/- The rows of laws: for every input the call returns true, and what came in reads as it did. The card: the row's listed variables are tied to the program's text. -/
import Derived.Test.YtpppegnojmnicaaGreatDoorCards
import Derived.Test.YtpppegnojmnicaaGreatDoorTie
import Derived.Test.YtpppegnojmnicaaGreatDoorZbf
import Derived.Test.YtpppegnojmnicaaGreatDoorZbx
namespace Go.Proofs.YtpppegnojmnicaaGreatDoor
set_option linter.unusedSimpArgs false
set_option linter.unusedVariables false
open Go.ChangeShapes Go.WideShapes Go.ChangeAt Go.RowKit Go.ChangeMaps
set_option linter.unusedVariables false
theorem medianMoves_pg : false = Rows.medianMovesRow.goesBy Tryz.pinned.checked.prog := by kernel_rfl
end Go.Proofs.YtpppegnojmnicaaGreatDoor
