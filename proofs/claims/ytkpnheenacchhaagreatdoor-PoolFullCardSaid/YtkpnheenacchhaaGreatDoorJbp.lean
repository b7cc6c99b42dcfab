/- median.ranked at []int64, median.Of. -/
import Derived.Laws.MakeOwn
import Derived.Test.YtkpnheenacchhaaGreatDoorJba
import Derived.Test.YtkpnheenacchhaaGreatDoorJab
import Derived.Test.YtkpnheenacchhaaGreatDoorJaz
import Derived.Test.YtkpnheenacchhaaGreatDoorJbd
import Derived.Test.YtkpnheenacchhaaGreatDoorJbg
import Derived.Test.YtkpnheenacchhaaGreatDoorJbb
import Derived.Shelf.SlIterI.Nil
import Derived.Shelf.SortM.Plain
import Derived.Shelf.SortM.SortNone
import Derived.Ground.GgzProg
import Derived.Ground.SlgmProg
import Derived.Test.YtkpnheenacchhaaGreatDoorProg
import Derived.Test.YtkpnheenacchhaaGreatDoorJbj
import Derived.Test.YtkpnheenacchhaaGreatDoorJbm
import Derived.Test.YtkpnheenacchhaaGreatDoorJbc
set_option linter.unusedSimpArgs false
set_option linter.unusedVariables false
namespace Go.Proofs.YtkpnheenacchhaaGreatDoor
open Go.RowKit
open Go.Shelf Go.Lib Go.Sort Go.Maps
end Go.Proofs.YtkpnheenacchhaaGreatDoor
namespace Go.Proofs.YtkpnheenacchhaaGreatDoor
open Go.RowKit
end Go.Proofs.YtkpnheenacchhaaGreatDoor
