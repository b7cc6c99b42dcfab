/- The reference's Num. -/
import Derived.Outline
import Derived.Test.YtpppegnojmnicaaGreatDoorVaj
import Derived.Test.YtpppegnojmnicaaGreatDoorVaa
namespace Go.Proofs.YtpppegnojmnicaaGreatDoor
set_option linter.unusedSimpArgs false
set_option linter.unusedVariables false
open Go.RowKit
set_option linter.unusedVariables false
end Go.Proofs.YtpppegnojmnicaaGreatDoor
