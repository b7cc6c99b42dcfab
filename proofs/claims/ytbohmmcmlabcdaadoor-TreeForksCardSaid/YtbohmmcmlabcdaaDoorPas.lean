/- Contracts of package merkle: pairs. -/
import Derived.StillTailTactics
import Derived.Deep.RegionHeld3
import Derived.Deep.AppendLies
import Derived.IntWalk
import Derived.OwnWalk
import Derived.Test.YtbohmmcmlabcdaaDoorPah
import Derived.Test.YtbohmmcmlabcdaaDoorPap
namespace Go.Proofs.YtbohmmcmlabcdaaDoor
set_option linter.unusedSimpArgs false
set_option linter.unusedVariables false
open Go.RowKit
set_option linter.unusedVariables false
def u64L (l : List Nat) : List Value := l.map fun n => .int .u64 (n : Nat)
theorem u64L_length (l : List Nat) : (u64L l).length = l.length := by simp [u64L]
theorem u64L_get (l : List Nat) (k : Nat) (h : k < (u64L l).length) : (u64L l)[k] = .int .u64 ((l[k]'(by simpa [u64L] using h) : Nat) : Int) := by simp [u64L]
theorem rd_u64 {w : World} {B : Nat} {A : Option Addr} {l : List Nat} (h : Rd w B A (u64L l)) (k : Nat) (hk : k < l.length) : ∃ ad, A = some ad ∧ ad.block < B ∧ w.cell? (ad.add k) = some (.int .u64 ((l[k] : Nat) : Int)) := by
 obtain ⟨ad, h1, h2, h3⟩ := h k (by rw [u64L_length]; exact hk)
 exact ⟨ad, h1, h2, by rw [h3, u64L_get]⟩
theorem infoD : (Tryd.prog.info? 26).map (fun i => (i.zero, i.size, i.bytes)) = some (some (.int .u64 0), 1, 8) := by kernel_rfl
end Go.Proofs.YtbohmmcmlabcdaaDoor
