/- twice, doubled. -/
import Derived.Laws.MakeOwn
import Derived.Test.YtpgbfglfgcidaaaDoorZar
import Derived.Test.YtpgbfglfgcidaaaDoorZaq
namespace Go.Proofs.YtpgbfglfgcidaaaDoor
set_option linter.unusedSimpArgs false
set_option linter.unusedVariables false
open Go.RowKit
set_option linter.unusedVariables false
def tw (n : Int) : Int := wrap64 (2 * n)
end Go.Proofs.YtpgbfglfgcidaaaDoor

namespace Go.Proofs.YtpgbfglfgcidaaaDoor
set_option linter.unusedSimpArgs false
set_option linter.unusedVariables false
open Go.RowKit
set_option linter.unusedVariables false
end Go.Proofs.YtpgbfglfgcidaaaDoor
