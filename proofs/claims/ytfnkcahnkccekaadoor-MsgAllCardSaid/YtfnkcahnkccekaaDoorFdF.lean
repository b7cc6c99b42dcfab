/- Names, whatever two rows; Ints of numbers of 64 bits; short. -/
import Derived.Test.YtfnkcahnkccekaaDoorFdE
namespace Go.Proofs.YtfnkcahnkccekaaDoor
open Go.RowKit
set_option linter.unusedVariables false
theorem ba_ne {s t : ByteArray} (h : s ≠ t) : ¬ s.toList = t.toList := fun e => h (by
  rw [ByteArray.toList_eq, ByteArray.toList_eq] at e
  cases s; cases t
  congr 1
  exact Array.toList_inj.1 e)
end Go.Proofs.YtfnkcahnkccekaaDoor
