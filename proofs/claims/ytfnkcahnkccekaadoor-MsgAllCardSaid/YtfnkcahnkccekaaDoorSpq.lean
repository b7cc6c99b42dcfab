/- empty -/
import Derived.Test.YtfnkcahnkccekaaDoorRng
import Derived.Test.YtfnkcahnkccekaaDoorStd
import Derived.Test.YtfnkcahnkccekaaDoorFsh
import Derived.Test.YtfnkcahnkccekaaDoorNmM
namespace Go.Proofs.YtfnkcahnkccekaaDoor
end Go.Proofs.YtfnkcahnkccekaaDoor
