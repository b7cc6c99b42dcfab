/- The reference's Num. -/
import Derived.Test.YtfnkcahnkccekaaDoorStr
import Derived.Test.YtfnkcahnkccekaaDoorNmM
import Derived.Outline
namespace Go.Proofs.YtfnkcahnkccekaaDoor
open Go.RowKit
set_option linter.unusedVariables false
theorem ba_app (a b : List UInt8) : (⟨a.toArray⟩ : ByteArray) ++ ⟨b.toArray⟩ = ⟨(a ++ b).toArray⟩ := by
  apply ByteArray.ext
  simp [ByteArray.data_append]
/-- a digit's text, made in a new block -/
theorem conv_digit (w : World) (d : Nat) (hd : d < 10) : (convert 104 9 (.slice (some ⟨w.heap.size, 0, none⟩) 1 1)).run Tryd.prog (w.alloc (.cells #[.int .u8 (48 + (d : Int))] 5)) = .ok (.string ⟨[UInt8.ofNat (48 + d)].toArray⟩) (w.alloc (.cells #[.int .u8 (48 + (d : Int))] 5)) :=
  conv_back (P := Tryd.prog) (w.alloc (.cells #[.int .u8 (48 + (d : Int))] 5)) (w.heap.size + 1) 104 9 5 (some ⟨w.heap.size, 0, none⟩) 1 1 [UInt8.ofNat (48 + d)] rfl Tryd.underlying104 Tryd.underlying5 Tryd.underlying9 (by
    have h := rd_new w 5 #[.int .u8 (48 + (d : Int))] (0, 0)
    simp only [List.map_cons, List.map_nil, byteV, u8_of d hd]
    exact_mod_cast h)
end Go.Proofs.YtfnkcahnkccekaaDoor
