/- twice, doubled. -/
import Derived.Laws.MakeOwn
import Derived.Test.YtpppegnojmnicaaGreatDoorYbd
import Derived.Test.YtpppegnojmnicaaGreatDoorYbb
namespace Go.Proofs.YtpppegnojmnicaaGreatDoor
set_option linter.unusedSimpArgs false
set_option linter.unusedVariables false
open Go.RowKit
set_option linter.unusedVariables false
end Go.Proofs.YtpppegnojmnicaaGreatDoor

namespace Go.Proofs.YtpppegnojmnicaaGreatDoor
set_option linter.unusedSimpArgs false
set_option linter.unusedVariables false
open Go.RowKit
set_option linter.unusedVariables false
end Go.Proofs.YtpppegnojmnicaaGreatDoor
