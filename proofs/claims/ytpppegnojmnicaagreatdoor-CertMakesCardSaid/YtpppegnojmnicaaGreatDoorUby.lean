/- The rows of laws: for every input the call returns true, and what came in reads as it did. The card: the row's listed variables are tied to the program's text. -/
import Derived.Test.YtpppegnojmnicaaGreatDoorCards
import Derived.Test.YtpppegnojmnicaaGreatDoorTie
import Derived.Test.YtpppegnojmnicaaGreatDoorUaz
import Derived.Test.YtpppegnojmnicaaGreatDoorUbu
import Derived.Test.YtpppegnojmnicaaGreatDoorUbv
import Derived.Test.YtpppegnojmnicaaGreatDoorUbw
set_option linter.unusedSimpArgs false
set_option linter.unusedVariables false
namespace Go.Proofs.YtpppegnojmnicaaGreatDoor
open Go.ChangeShapes Go.WideShapes Go.ChangeAt Go.RowKit Go.ChangeMaps
theorem zer : joinedFacts Tryz.pinned.checked.prog 4 Tryz.f4 (OpenSpec.ofChange Rows.certMakesSpec).bare Rows.certMakesRow = true := by
 unfold joinedFacts
 rw [zen, zeo, zep, zeq]
 kernel_rfl
end Go.Proofs.YtpppegnojmnicaaGreatDoor
