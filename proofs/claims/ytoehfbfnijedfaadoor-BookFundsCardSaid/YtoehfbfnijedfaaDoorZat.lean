/- empty -/
import Derived.Test.YtoehfbfnijedfaaDoorZan
import Derived.Test.YtoehfbfnijedfaaDoorZam
import Derived.Test.YtoehfbfnijedfaaDoorZao
import Derived.Test.YtoehfbfnijedfaaDoorZaa
namespace Go.Proofs.YtoehfbfnijedfaaDoor
set_option linter.unusedSimpArgs false
set_option linter.unusedVariables false
end Go.Proofs.YtoehfbfnijedfaaDoor
