/- field.Num, field.ParseNum. -/
import Derived.Lib.ConvBytes
import Derived.Lib.Index
import Derived.Test.YtbohmmcmlabcdaaDoorPaq
import Derived.Test.YtbohmmcmlabcdaaDoorPav
namespace Go.Proofs.YtbohmmcmlabcdaaDoor
set_option linter.unusedSimpArgs false
set_option linter.unusedVariables false
open Go.RowKit
set_option linter.unusedVariables false
set_option maxRecDepth 100000 in
theorem num_ok (n : Int) (h0 : -9223372036854775808 ≤ n) (h1 : n ≤ 9223372036854775807) (w : World) (hs : Std w) :
 Calls Tryd.prog 41 #[.int .i64 n] w fun e w' => e = .returned (.string ⟨(Lib.itoa n).toArray⟩) ∧ Grew w w' := by
 have CF := Lib.hid (Tryd.strconv_FormatInt_10 n h0 h1 w hs.tab)
 clear hs
 go_enter Tryd.func41, Tryd.ntmps41
 go_wp2_with (first | (go_at_call 53; refine (CF.out).mono ?_; rintro e w' ⟨rfl, k, os, hw⟩))
 go_ret
 exact ⟨rfl, Lib.below_grow _ _ (Nat.le_refl _) _ _⟩
def in64 (n : Int) : Prop := -9223372036854775808 ≤ n ∧ n ≤ 9223372036854775807
end Go.Proofs.YtbohmmcmlabcdaaDoor
