/- The reference's parseHexes, of whatever text. -/
import Derived.Test.YtpppegnojmnicaaGreatDoorZbn
import Derived.Test.YtpppegnojmnicaaGreatDoorZbj
import Derived.Test.YtpppegnojmnicaaGreatDoorZau
namespace Go.Proofs.YtpppegnojmnicaaGreatDoor
set_option linter.unusedSimpArgs false
set_option linter.unusedVariables false
open Go.RowKit
set_option linter.unusedVariables false
set_option linter.unusedSimpArgs false
end Go.Proofs.YtpppegnojmnicaaGreatDoor
