/- empty -/
import Derived.Test.YtfnkcahnkccekaaDoorSpq
import Derived.Test.YtfnkcahnkccekaaDoorNmE
namespace Go.Proofs.YtfnkcahnkccekaaDoor
theorem ownsRow_base {w : World} {b b' : Nat} {e : TypeId} {size n : Nat} {v : Value} {xs : List Value} (h : w.ownsRow b e size v n xs) (hb : b' ≤ b) : w.ownsRow b' e size v n xs := by
  obtain ⟨h1, h2⟩ := h
  refine ⟨h1, ?_⟩
  rcases h2 with h2 | ⟨g', cap, cur, rfl, h3, h4⟩
  · exact .inl h2
  · exact .inr ⟨g', cap, cur, rfl, Nat.le_trans hb h3, h4⟩
end Go.Proofs.YtfnkcahnkccekaaDoor
