/- Contracts of package hash and of the document's digests in the reference. -/
import Derived.Test.YtfnkcahnkccekaaDoorProg
import Derived.Test.YtfnkcahnkccekaaDoorHashM
import Derived.Test.YtfnkcahnkccekaaDoorMem
import Derived.WalkKit
import Derived.Lib.Hide
namespace Go.Proofs.YtfnkcahnkccekaaDoor
open Go.RowKit
set_option linter.unusedVariables false

end Go.Proofs.YtfnkcahnkccekaaDoor
