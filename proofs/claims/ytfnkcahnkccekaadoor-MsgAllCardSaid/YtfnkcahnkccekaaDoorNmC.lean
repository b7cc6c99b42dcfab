/- field.Num, field.ParseNum. -/
import Derived.Lib.ConvBytes
import Derived.Lib.Index
import Derived.Test.YtfnkcahnkccekaaDoorStd
import Derived.Test.YtfnkcahnkccekaaDoorNmB
namespace Go.Proofs.YtfnkcahnkccekaaDoor
open Go.RowKit
set_option linter.unusedVariables false
def txtV (l : List UInt8) : Value := .string ⟨l.toArray⟩
theorem below_bytes (w : World) (e : TypeId) (t : ByteArray) : Below w.heap.size w (Lib.bytesWorld w e t) :=
  ⟨rfl, rfl, rfl, by rw [Lib.bytesWorld_size]; omega, fun i hi => Lib.bytesWorld_at_old w e t i hi⟩
set_option maxRecDepth 100000 in
theorem num_ok (n : Int) (h0 : -9223372036854775808 ≤ n) (h1 : n ≤ 9223372036854775807) (w : World) (hs : Std w) :
    Calls Tryd.prog 37 #[.int .i64 n] w fun e w' => e = .returned (.string ⟨(Lib.itoa n).toArray⟩) ∧ Grew w w' := by
  have CF := Lib.hid (Tryd.strconv_FormatInt_10 n h0 h1 w hs.tab)
  clear hs
  go_enter Tryd.func37, Tryd.ntmps37
  go_wp2_with (first | (go_at_call 50; refine (CF.out).mono ?_; rintro e w' ⟨rfl, k, os, hw⟩))
  go_ret
  exact ⟨rfl, Lib.below_grow _ _ (Nat.le_refl _) _ _⟩
def in64 (n : Int) : Prop := -9223372036854775808 ≤ n ∧ n ≤ 9223372036854775807
def numS (n : Int) : ByteArray := ⟨(Lib.itoa n).toArray⟩
theorem num_at (n : Int) (h : in64 n) (w : World) (hs : Std w) : Calls Tryd.prog 37 #[.int .i64 n] w fun e w' => e = .returned (.string (numS n)) ∧ Grew w w' := num_ok n h.1 h.2 w hs
end Go.Proofs.YtfnkcahnkccekaaDoor
