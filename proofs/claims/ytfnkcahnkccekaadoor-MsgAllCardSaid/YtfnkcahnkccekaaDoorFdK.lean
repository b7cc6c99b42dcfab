/- field.Split. -/
import Derived.Test.YtfnkcahnkccekaaDoorFdJ
namespace Go.Proofs.YtfnkcahnkccekaaDoor
open Go.RowKit
set_option linter.unusedVariables false
theorem bc_snoc (l : List UInt8) (c : UInt8) : Lib.byteCells l ++ [.int .u8 (c.toNat : Int)] = Lib.byteCells (l ++ [c]) := by simp [Lib.byteCells]
theorem bc_length (l : List UInt8) : (Lib.byteCells l).length = l.length := by simp [Lib.byteCells]
theorem splP_on {S : List UInt8} {k : Nat} {on : Bool} {cur : List UInt8} {done : List (List UInt8)} (h : SplP S k on cur done) (hk : 1 ≤ k) : on = true := by
  rcases h with ⟨h, _⟩ | ⟨_, h, _⟩
  · omega
  · exact h
theorem splP_off {S : List UInt8} {on : Bool} {cur : List UInt8} {done : List (List UInt8)} (h : SplP S 0 on cur done) : on = false ∧ cur = [] ∧ done = [] := by
  rcases h with ⟨_, h1, h2, h3⟩ | ⟨h, _⟩
  · exact ⟨h1, h2, h3⟩
  · omega
end Go.Proofs.YtfnkcahnkccekaaDoor
