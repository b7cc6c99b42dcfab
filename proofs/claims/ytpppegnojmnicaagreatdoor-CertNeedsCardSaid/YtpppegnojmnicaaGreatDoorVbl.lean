/- The reference's ParseNum. -/
import Derived.Deep.DeepCutAuto
import Derived.Deep.CutBlock
import Derived.Test.YtpppegnojmnicaaGreatDoorVaz
import Derived.Laws.MakeOwn
import Derived.Test.YtpppegnojmnicaaGreatDoorVbb
import Derived.RegionTactic
import Derived.BigRegion
import Derived.Test.YtpppegnojmnicaaGreatDoorVap
import Derived.Test.YtpppegnojmnicaaGreatDoorVbe
import Derived.Test.YtpppegnojmnicaaGreatDoorVaj
namespace Go.Proofs.YtpppegnojmnicaaGreatDoor
set_option linter.unusedSimpArgs false
set_option linter.unusedVariables false
open Go.RowKit
set_option linter.unusedVariables false
def pnumRes (l : List UInt8) : Value := .tuple #[.int .i64 (pnum l).1, .int .i64 (pnum l).2]
end Go.Proofs.YtpppegnojmnicaaGreatDoor

namespace Go.Proofs.YtpppegnojmnicaaGreatDoor
set_option linter.unusedSimpArgs false
set_option linter.unusedVariables false
open Go.RowKit
set_option linter.unusedVariables false
end Go.Proofs.YtpppegnojmnicaaGreatDoor

namespace Go.Proofs.YtpppegnojmnicaaGreatDoor
set_option linter.unusedSimpArgs false
set_option linter.unusedVariables false
open Go.RowKit
set_option linter.unusedVariables false
end Go.Proofs.YtpppegnojmnicaaGreatDoor

namespace Go.Proofs.YtpppegnojmnicaaGreatDoor
set_option linter.unusedSimpArgs false
set_option linter.unusedVariables false
open Go.RowKit
set_option linter.unusedVariables false
/-! parts: between commas -/
end Go.Proofs.YtpppegnojmnicaaGreatDoor

namespace Go.Proofs.YtpppegnojmnicaaGreatDoor
set_option linter.unusedSimpArgs false
set_option linter.unusedVariables false
open Go.RowKit
set_option linter.unusedVariables false
end Go.Proofs.YtpppegnojmnicaaGreatDoor

namespace Go.Proofs.YtpppegnojmnicaaGreatDoor
set_option linter.unusedSimpArgs false
set_option linter.unusedVariables false
open Go.RowKit
set_option linter.unusedVariables false
end Go.Proofs.YtpppegnojmnicaaGreatDoor

namespace Go.Proofs.YtpppegnojmnicaaGreatDoor
set_option linter.unusedSimpArgs false
set_option linter.unusedVariables false
open Go.RowKit
set_option linter.unusedVariables false
theorem Rd.grew {w w' : World} {A : Option Addr} {xs : List Value} (h : Rd w w.heap.size A xs) (hb : Grew w w') : Rd w' w'.heap.size A xs := (h.below hb).more hb.size
theorem split_some {s : ByteArray} {l : List (List UInt8)} (h : splitF s.data.toList = some l) (hl : l.length ≤ 4096) (hs : s.size ≤ 100000000) (w : World) :
 Calls Tryz.prog 79 #[.string s] w fun e w' => (∃ v, e = .returned (.tuple #[v, .int .i64 0]) ∧ w'.ownsRow w.heap.size 9 1 v l.length (strL (txt l))) ∧ Grew w w' :=
 (split_ok s hs w).mono fun e w' ⟨hh, hg⟩ => by
  refine ⟨?_, hg⟩
  rcases hh with ⟨h1, _⟩ | ⟨l', h1, h2⟩
  ·rw [h] at h1; cases h1
  ·rw [h] at h1
   injection h1 with h1
   subst h1
   rcases h2 with ⟨h3, _⟩ | ⟨_, h4⟩
   ·omega
   ·exact h4
theorem split_none {s : ByteArray} (h : splitF s.data.toList = none) (hs : s.size ≤ 100000000) (w : World) :
 Calls Tryz.prog 79 #[.string s] w fun e w' => e = .returned (.tuple #[.slice none 0 0, .int .i64 2]) ∧ Grew w w' :=
 (split_ok s hs w).mono fun e w' ⟨hh, hg⟩ => by
  refine ⟨?_, hg⟩
  rcases hh with ⟨_, h1⟩ | ⟨l', h1, _⟩
  ·exact h1
  ·rw [h] at h1; cases h1
end Go.Proofs.YtpppegnojmnicaaGreatDoor

namespace Go.Proofs.YtpppegnojmnicaaGreatDoor
set_option linter.unusedSimpArgs false
set_option linter.unusedVariables false
open Go.RowKit
set_option linter.unusedVariables false
end Go.Proofs.YtpppegnojmnicaaGreatDoor
