/- The rows of laws: for every input the call returns true, and what came in reads as it did. The card: the row's listed variables are tied to the program's text. -/
import Derived.Test.YtpppegnojmnicaaGreatDoorCards
import Derived.Test.YtpppegnojmnicaaGreatDoorTie
import Derived.Test.YtpppegnojmnicaaGreatDoorTbv
import Derived.Test.YtpppegnojmnicaaGreatDoorTbu
set_option linter.unusedSimpArgs false
set_option linter.unusedVariables false
namespace Go.Proofs.YtpppegnojmnicaaGreatDoor
open Go.ChangeShapes Go.WideShapes Go.ChangeAt Go.RowKit Go.ChangeMaps
theorem zlm:joinedFacts Tryz.pinned.checked.prog 3 Tryz.f3 (OpenSpec.ofChange Rows.certAnySpec).bare Rows.certAnyRow=true:=by
 unfold joinedFacts
 rw [zlc,zld,zle,zlf,zk7,zk9,zla,zlb,zlg,zlh,zli,zlj,zlk,zll]
 kernel_rfl
end Go.Proofs.YtpppegnojmnicaaGreatDoor
