/- field.Join. -/
import Derived.Laws.MakeOwn
import Derived.Test.YtfnkcahnkccekaaDoorFdB
namespace Go.Proofs.YtfnkcahnkccekaaDoor
open Go.RowKit
set_option linter.unusedVariables false
def tot (l : List ByteArray) : Nat := (l.map fun s => s.size).sum
theorem tot_snoc (l : List ByteArray) (s : ByteArray) : tot (l ++ [s]) = tot l + s.size := by simp [tot]
theorem tot_le (l : List ByteArray) : l.length + tot l ≤ (joinF (bys l)).length := by
  induction l with
  | nil => simp [tot]
  | cons s l ih =>
    have h1 : bys (s :: l) = s.data.toList :: bys l := rfl
    have h2 := fld_ge s.data.toList
    have h3 : s.data.toList.length = s.size := by simp
    have h4 : tot (s :: l) = s.size + tot l := by simp [tot]
    rw [h1, joinF_cons, h4]
    simp only [List.length_cons, List.length_append]
    omega
theorem tot_append (a b : List ByteArray) : tot (a ++ b) = tot a + tot b := by simp [tot]
theorem tot_take_le (l : List ByteArray) (k : Nat) : tot (l.take k) ≤ tot l := by
  have h := tot_append (l.take k) (l.drop k)
  rw [List.take_append_drop] at h
  omega
end Go.Proofs.YtfnkcahnkccekaaDoor
