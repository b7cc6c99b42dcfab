/- A builder beside a row of texts; (*strings.Builder).Reset. -/
import Derived.Test.YtbohmmcmlabcdaaDoorPat
import Derived.Test.YtbohmmcmlabcdaaDoorPak
namespace Go.Proofs.YtbohmmcmlabcdaaDoor
set_option linter.unusedSimpArgs false
set_option linter.unusedVariables false
open Go.RowKit
set_option linter.unusedVariables false
end Go.Proofs.YtbohmmcmlabcdaaDoor

namespace Go.Proofs.YtbohmmcmlabcdaaDoor
set_option linter.unusedSimpArgs false
set_option linter.unusedVariables false
open Go.RowKit
set_option linter.unusedVariables false
end Go.Proofs.YtbohmmcmlabcdaaDoor
