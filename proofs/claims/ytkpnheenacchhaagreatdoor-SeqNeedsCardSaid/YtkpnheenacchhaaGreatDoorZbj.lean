/- The reference's ParseNum. -/
import Derived.Deep.DeepCutAuto
import Derived.Deep.CutBlock
import Derived.Test.YtkpnheenacchhaaGreatDoorZaz
import Derived.Laws.MakeOwn
import Derived.Test.YtkpnheenacchhaaGreatDoorZba
import Derived.RegionTactic
import Derived.BigRegion
import Derived.Test.YtkpnheenacchhaaGreatDoorZap
import Derived.Test.YtkpnheenacchhaaGreatDoorZbd
import Derived.Test.YtkpnheenacchhaaGreatDoorZaj
set_option linter.unusedSimpArgs false
set_option linter.unusedVariables false
namespace Go.Proofs.YtkpnheenacchhaaGreatDoor
open Go.RowKit
def pnumRes (l:List UInt8):Value:=.tuple #[.int .i64 (pnum l).1,.int .i64 (pnum l).2]
/-! parts: between commas -/
theorem Rd.grew {w w':World} {A:Option Addr} {xs:List Value} (h:Rd w w.heap.size A xs) (hb:Grew w w'):Rd w' w'.heap.size A xs:=(h.below hb).more hb.size
theorem kx {s:ByteArray} {l:List (List UInt8)} (h:splitF s.data.toList=some l) (hl:l.length≤4096) (hs:s.size≤100000000) (w:World) :
 Calls Tryz.prog 80 #[.string s] w fun e w'=>(∃ v,e=.returned (.tuple #[v,.int .i64 0])∧w'.ownsRow w.heap.size 9 1 v l.length (strL (txt l)))∧Grew w w' :=
 (jP s hs w).mono fun e w' ⟨hh,hg⟩=>by
  refine⟨?_,hg⟩
  rcases hh with ⟨h1,_⟩ | ⟨l',h1,h2⟩
  ·rw [h]at h1;cases h1
  ·rw [h]at h1
   injection h1 with h1
   subst h1
   rcases h2 with ⟨h3,_⟩ | ⟨_,h4⟩
   ·omega
   ·exact h4
end Go.Proofs.YtkpnheenacchhaaGreatDoor
