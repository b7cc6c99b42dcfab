/- slices.Sort at []int64, in plain words. -/
import Derived.Shelf.SortM.Plain
import Derived.Shelf.SortM.SortNone
import Derived.Ground.SlgmProg
import Derived.Shelf.SlGeneric
import Derived.Test.YtkpnheenacchhaaGreatDoorProg
import Derived.Sort.OwnSorted
import Derived.Lib.SlKeysI
import Derived.Test.YtkpnheenacchhaaGreatDoorPar
import Derived.Laws.MakeOwn
import Derived.Test.YtkpnheenacchhaaGreatDoorPab
import Derived.Test.YtkpnheenacchhaaGreatDoorPav
import Derived.Test.YtkpnheenacchhaaGreatDoorPbd
import Derived.Test.YtkpnheenacchhaaGreatDoorPau
import Derived.Test.YtkpnheenacchhaaGreatDoorPbb
import Derived.Deep.RegionHeld3
set_option linter.unusedSimpArgs false
set_option linter.unusedVariables false
namespace Go.Proofs.YtkpnheenacchhaaGreatDoor
open Go.Shelf Go.Lib Go.Sort Go.RowKit
theorem zf2 {w:World} {base base':Nat} {e:TypeId} {size:Nat} {v:Value} {n:Nat} {xs:List Value} (h:w.ownsRow base e size v n xs) (hb:base'≤base):w.ownsRow base' e size v n xs:=by
 refine⟨h.1,?_⟩
 rcases h.2 with hn | ⟨g,cap,cur,hv,hbg,rest⟩
 ·exact .inl hn
 ·exact .inr ⟨g,cap,cur,hv,Nat.le_trans hb hbg,rest⟩
end Go.Proofs.YtkpnheenacchhaaGreatDoor
namespace Go.Proofs.YtkpnheenacchhaaGreatDoor
open Go.RowKit
theorem zg2 {w:World} {b:Nat} {f:Int} (h:Ag w b (#[.int .i64 f]:Array Value).toList):w.rangeAt b 0 [.int .i64 f]:=h.cell
open Go.Lib
end Go.Proofs.YtkpnheenacchhaaGreatDoor
